/- Layer 14: words and dates, plainly. -/
import Derived.Test.YtagmdglmflcegaaGreatDoorName5
import Derived.Test.YtagmdglmflcegaaGreatDoorRep
import Derived.Lib.ItoaMem
namespace Go.Proofs.YtagmdglmflcegaaGreatDoor
open Go.ChangeShapes Go.WideShapes Go.ChangeAt Go.RowKit
set_option linter.unusedVariables false
set_option maxRecDepth 100000
namespace D14
/-! Texts, cut at their blanks. -/
theorem index_of : ∀ (a r : List UInt8), (∀ x ∈ a, ¬ x = 32) → Go.Lib.index (a ++ 32 :: r) [32] = (a.length : Int)
  | [], r, _ => by simpa using Rep.index_same 32 r
  | x :: a, r, h => by
    have ih := index_of a r (fun y hy => h y (List.mem_cons_of_mem _ hy))
    rw [List.cons_append, Rep.index_other _ _ _ (h x List.mem_cons_self), ih, if_neg (by simp), List.length_cons]
    omega
theorem index_none : ∀ (a : List UInt8), (∀ x ∈ a, ¬ x = 32) → Go.Lib.index a [32] = -1
  | [], _ => Rep.index_nil _
  | x :: a, h => by
    have ih := index_none a (fun y hy => h y (List.mem_cons_of_mem _ hy))
    rw [Rep.index_other _ _ _ (h x List.mem_cons_self), ih]; rfl
theorem cut_some (a r : List UInt8) (h : ∀ x ∈ a, ¬ x = 32) : Go.Lib.cut (a ++ 32 :: r) [32] = (a, r, true) := by
  unfold Go.Lib.cut
  rw [index_of a r h, if_pos (by omega)]
  simp
theorem cut_none (a : List UInt8) (h : ∀ x ∈ a, ¬ x = 32) : Go.Lib.cut a [32] = (a, [], false) := by
  unfold Go.Lib.cut
  rw [index_none a h, if_neg (by omega)]
theorem split_first : ∀ l : List UInt8, (∃ a r, l = a ++ 32 :: r ∧ ∀ x ∈ a, ¬ x = 32) ∨ (∀ x ∈ l, ¬ x = 32)
  | [] => .inr (by simp)
  | x :: l => by
    by_cases c : x = 32
    · exact .inl ⟨[], l, by rw [c]; rfl, by simp⟩
    · rcases split_first l with ⟨a, r, rfl, h⟩ | h
      · exact .inl ⟨x :: a, r, rfl, by simpa [c] using h⟩
      · exact .inr (by simpa [c] using h)
theorem split_last : ∀ l : List UInt8, (∃ b c, l = b ++ 32 :: c ∧ ∀ x ∈ c, ¬ x = 32) ∨ (∀ x ∈ l, ¬ x = 32)
  | [] => .inr (by simp)
  | x :: l => by
    rcases split_last l with ⟨b, c, rfl, h⟩ | h
    · exact .inl ⟨x :: b, c, rfl, h⟩
    · by_cases e : x = 32
      · exact .inl ⟨[], l, by rw [e]; rfl, h⟩
      · exact .inr (by simpa [e] using h)
theorem get_at (l : List UInt8) (i : Nat) (h : i < l.length) : (⟨l.toArray⟩ : ByteArray).data[i]! = l[i] := by
  show l.toArray[i]! = l[i]
  simp [h]
theorem last_some (b c : List UInt8) (h : ∀ x ∈ c, ¬ x = 32) : Go.Lib.lastIndexByte ⟨(b ++ 32 :: c).toArray⟩ 32 = (b.length : Int) := by
  have hsz : (⟨(b ++ 32 :: c).toArray⟩ : ByteArray).size = b.length + 1 + c.length := by simp [ByteArray.size]; omega
  have hat : (b ++ 32 :: c)[b.length]'(by simp) = 32 := by simp
  rcases Go.Lib.lastIndexByte_spec ⟨(b ++ 32 :: c).toArray⟩ 32 with ⟨_, e⟩ | ⟨i, hi, e, e1, e2⟩
  · have := e b.length (by rw [hsz]; omega)
    rw [get_at _ _ (by simp), hat] at this
    exact absurd rfl this
  · rw [e]
    rw [hsz] at hi e2
    rcases Nat.lt_trichotomy i b.length with g | g | g
    · have := e2 b.length g (by omega)
      rw [get_at _ _ (by simp), hat] at this
      exact absurd rfl this
    · rw [g]
    · rw [get_at _ _ (by simp; omega)] at e1
      have hx : (b ++ 32 :: c)[i]'(by simp; omega) ∈ c := by
        rw [List.getElem_append_right (by omega)]
        obtain ⟨j, hj⟩ : ∃ j, i - b.length = j + 1 := ⟨i - b.length - 1, by omega⟩
        simp only [hj, List.getElem_cons_succ]
        exact List.getElem_mem _
      exact absurd (by rw [← UInt8.toNat_inj]; show _ = 32; omega) (h _ hx)
theorem last_none (a : List UInt8) (h : ∀ x ∈ a, ¬ x = 32) : Go.Lib.lastIndexByte ⟨a.toArray⟩ 32 = -1 := by
  rcases Go.Lib.lastIndexByte_spec ⟨a.toArray⟩ 32 with ⟨e, _⟩ | ⟨i, hi, e, e1, e2⟩
  · exact e
  · have hi' : i < a.length := by simpa [ByteArray.size] using hi
    rw [get_at _ _ hi'] at e1
    exact absurd (by rw [← UInt8.toNat_inj]; show _ = 32; omega) (h _ (List.getElem_mem hi'))
theorem first_one {a a' r r' : List UInt8} (h : ∀ x ∈ a, ¬ x = 32) (h' : ∀ x ∈ a', ¬ x = 32) (e : a ++ 32 :: r = a' ++ 32 :: r') : a = a' ∧ r = r' := by
  have c := cut_some a r h
  rw [e, cut_some a' r' h'] at c
  simp only [Prod.mk.injEq] at c
  exact ⟨c.1.symm, c.2.1.symm⟩
theorem last_one {b b' c c' : List UInt8} (h : ∀ x ∈ c, ¬ x = 32) (h' : ∀ x ∈ c', ¬ x = 32) (e : b ++ 32 :: c = b' ++ 32 :: c') : b = b' ∧ c = c' := by
  have g := last_some b c h
  rw [e, last_some b' c' h'] at g
  have hl : b'.length = b.length := by omega
  have := List.append_inj e hl.symm
  exact ⟨this.1, by simpa using this.2⟩
/-! Digits. -/
theorem dig_ne {x : UInt8} (h : isDig x = true) : ¬ x = 32 := by rintro rfl; revert h; decide
theorem dd_step {u : Nat} (h : ¬ u < 10) : Go.Lib.decDigits u = Go.Lib.decDigits (u / 10) ++ [UInt8.ofNat (48 + u % 10)] := by rw [Go.Lib.decDigits, dif_neg h]
theorem dd_one {u : Nat} (h : u < 10) : Go.Lib.decDigits u = [UInt8.ofNat (48 + u)] := Go.Lib.decDigits_one h
theorem dg (k : Nat) (h : k < 10) : isDig (UInt8.ofNat (48 + k)) = true ∧ ((UInt8.ofNat (48 + k)).toNat : Int) = 48 + k := by
  have : (UInt8.ofNat (48 + k)).toNat = 48 + k := by simp; omega
  refine ⟨by unfold isDig; rw [this]; simp; omega, by omega⟩
theorem dd_all (u : Nat) : (Go.Lib.decDigits u).all isDig = true := by
  induction u using Nat.strongRecOn with
  | ind u ih =>
    by_cases h : u < 10
    · rw [dd_one h]; show (isDig _ && true) = true; rw [(dg u h).1]; rfl
    · rw [dd_step h, List.all_append, ih (u / 10) (by omega)]; show (true && (isDig _ && true)) = true; rw [(dg (u % 10) (by omega)).1]; rfl
theorem dd_fold (u : Nat) : numFold (Go.Lib.decDigits u) = u := by
  induction u using Nat.strongRecOn with
  | ind u ih =>
    by_cases h : u < 10
    · rw [dd_one h]
      have := (dg u h).2
      simp [numFold]; omega
    · rw [dd_step h, numFold_snoc, ih (u / 10) (by omega), (dg (u % 10) (by omega)).2]
      omega
theorem dd_head (u : Nat) (h1 : 1 ≤ u) : ¬ (Go.Lib.decDigits u).head? = some 48 ∧ 1 ≤ (Go.Lib.decDigits u).length := by
  induction u using Nat.strongRecOn with
  | ind u ih =>
    by_cases h : u < 10
    · rw [dd_one h]
      refine ⟨?_, by simp⟩
      intro e
      have e2 : UInt8.ofNat (48 + u) = 48 := by simpa using e
      have e1 := (dg u h).2
      rw [e2] at e1
      have : ((48 : UInt8).toNat : Int) = 48 := rfl
      omega
    · rw [dd_step h]
      obtain ⟨i1, i2⟩ := ih (u / 10) (by omega) (by omega)
      cases hl : Go.Lib.decDigits (u / 10) with
      | nil => rw [hl] at i2; simp at i2
      | cons x t => rw [hl] at i1; exact ⟨by simpa using i1, by simp⟩
theorem dd_len (k : Nat) : ∀ u : Nat, u < 10 ^ (k + 1) → (Go.Lib.decDigits u).length ≤ k + 1 := by
  induction k with
  | zero => intro u h; rw [dd_one (by simpa using h)]; simp
  | succ k ih =>
    intro u h
    by_cases h9 : u < 10
    · rw [dd_one h9]; simp
    · rw [dd_step h9]
      have := ih (u / 10) (by rw [Nat.pow_succ] at h; omega)
      simp; omega
theorem dd_inv (n : Nat) : ∀ l : List UInt8, l.length = n + 1 → l.all isDig = true → ¬ l.head? = some 48 → 1 ≤ numFold l ∧ Go.Lib.decDigits (numFold l).toNat = l := by
  induction n with
  | zero =>
    intro l hl ha hh
    obtain ⟨b, rfl⟩ := List.length_eq_one_iff.1 hl
    have hb : isDig b = true := by simpa using ha
    unfold isDig at hb
    simp only [Bool.and_eq_true, decide_eq_true_eq] at hb
    have hne : ¬ b.toNat = 48 := fun e => hh (by rw [show b = 48 from UInt8.toNat_inj.1 e]; rfl)
    have e : numFold [b] = (b.toNat : Int) - 48 := by simp [numFold]
    refine ⟨by rw [e]; omega, ?_⟩
    rw [e, dd_one (by omega)]
    congr 1
    rw [← UInt8.toNat_inj]
    simp; omega
  | succ n ih =>
    intro l hl ha hh
    have hne : l ≠ [] := by rintro rfl; simp at hl
    obtain ⟨L, b, rfl⟩ : ∃ L b, l = L ++ [b] := ⟨_, _, (List.dropLast_concat_getLast hne).symm⟩
    rw [List.all_append, Bool.and_eq_true] at ha
    have hL : L.length = n + 1 := by simpa using hl
    have hLh : ¬ L.head? = some 48 := by
      cases L with
      | nil => simp at hL
      | cons x t => simpa using hh
    obtain ⟨i1, i2⟩ := ih L hL ha.1 hLh
    have hb : isDig b = true := by simpa using ha.2
    unfold isDig at hb
    simp only [Bool.and_eq_true, decide_eq_true_eq] at hb
    rw [numFold_snoc]
    refine ⟨by omega, ?_⟩
    rw [dd_step (by omega)]
    have e1 : (10 * numFold L + ((b.toNat : Int) - 48)).toNat / 10 = (numFold L).toNat := by omega
    have e2 : 48 + (10 * numFold L + ((b.toNat : Int) - 48)).toNat % 10 = b.toNat := by omega
    rw [e1, i2, e2]
    congr 2
    rw [← UInt8.toNat_inj]; simp
/-- A number's bytes. -/
def num (v : Int) : ByteArray := ⟨(Go.Lib.itoa v).toArray⟩
theorem itoa_dd {v : Int} (h : 0 ≤ v) : Go.Lib.itoa v = Go.Lib.decDigits v.toNat := by unfold Go.Lib.itoa; rw [if_neg (by omega)]
theorem num_ok {v : Int} {k : Nat} (h1 : 1 ≤ v) (h2 : v < 10 ^ (k + 1)) : nOk (num v) (k + 1 : Nat) = true ∧ nVal (num v) (k + 1 : Nat) = v ∧ ∀ x ∈ (num v).data.toList, ¬ x = 32 := by
  have hu : v.toNat < 10 ^ (k + 1) := by
    have : ((10 ^ (k + 1) : Nat) : Int) = (10 : Int) ^ (k + 1) := by simp
    omega
  obtain ⟨a1, a2⟩ := dd_head v.toNat (by omega)
  have a3 := dd_len k v.toNat hu
  have a4 := dd_all v.toNat
  have hl : (num v).data.toList = Go.Lib.decDigits v.toNat := by unfold num; rw [itoa_dd (by omega)]
  have hs0 : (num v).data.toList.length = (num v).size := by simp
  have hs : (num v).size = (Go.Lib.decDigits v.toNat).length := by rw [← hl]; exact hs0.symm
  have ok : nOk (num v) (k + 1 : Nat) = true := by
    unfold nOk
    rw [hl, hs, decide_eq_true (by omega), decide_eq_true (by omega), decide_eq_true a1, a4]; rfl
  refine ⟨ok, ?_, ?_⟩
  · unfold nVal; rw [if_pos ok, hl, dd_fold]; omega
  · rw [hl]; intro x hx; exact dig_ne (List.all_eq_true.1 a4 x hx)
theorem num_back {s : ByteArray} {k : Nat} (h : nOk s (k + 1 : Nat) = true) : 1 ≤ nVal s (k + 1 : Nat) ∧ num (nVal s (k + 1 : Nat)) = s ∧ ∀ x ∈ s.data.toList, ¬ x = 32 := by
  have hv : nVal s (k + 1 : Nat) = numFold s.data.toList := by unfold nVal; rw [if_pos h]
  unfold nOk at h
  simp only [Bool.and_eq_true, decide_eq_true_eq] at h
  obtain ⟨h1, h2, h3, h4⟩ := h
  have hs : s.data.toList.length = s.size := by simp
  obtain ⟨n, hn⟩ : ∃ n, s.data.toList.length = n + 1 := ⟨s.data.toList.length - 1, by omega⟩
  obtain ⟨g1, g2⟩ := dd_inv n _ hn h4 h3
  rw [hv]
  refine ⟨g1, ?_, fun x hx => dig_ne (List.all_eq_true.1 h4 x hx)⟩
  unfold num
  rw [itoa_dd (by omega), g2]
/-! Names. -/
def rows : List (ByteArray × Int × Bool) := [(⟨#[65, 100, 97, 114, 32, 73]⟩, 5, true), (⟨#[65, 100, 97, 114, 32, 73, 73]⟩, 6, false), (⟨#[84, 105, 115, 104, 114, 105]⟩, 1, false), (⟨#[72, 101, 115, 104, 118, 97, 110]⟩, 2, false), (⟨#[75, 105, 115, 108, 101, 118]⟩, 3, false), (⟨#[84, 101, 118, 101, 116]⟩, 4, false), (⟨#[83, 104, 101, 118, 97, 116]⟩, 5, false), (⟨#[65, 100, 97, 114]⟩, 6, false), (⟨#[78, 105, 115, 97, 110]⟩, 7, false), (⟨#[73, 121, 97, 114]⟩, 8, false), (⟨#[83, 105, 118, 97, 110]⟩, 9, false), (⟨#[84, 97, 109, 109, 117, 122]⟩, 10, false), (⟨#[65, 118]⟩, 11, false), (⟨#[69, 108, 117, 108]⟩, 12, false)]
def isRow (mt : ByteArray) (n : Int) (l : Bool) : Prop := (mt, n, l) ∈ rows
theorem rows_one : (rows.all fun p => rows.all fun q => !(decide (p.1 = q.1)) || decide (p.2 = q.2)) = true := by decide +kernel
theorem row_one {mt : ByteArray} {n k : Int} {l h : Bool} (a : isRow mt n l) (b : isRow mt k h) : n = k ∧ l = h := by
  have := List.all_eq_true.1 (List.all_eq_true.1 rows_one _ a) _ b
  simpa using this
theorem row_in {mt : ByteArray} {n : Int} {l : Bool} (a : isRow mt n l) : mt.size ≤ 100 ∧ 1 ≤ mt.size ∧ 1 ≤ n ∧ n ≤ 12 := by
  have : (rows.all fun p => decide (p.1.size ≤ 100) && (decide (1 ≤ p.1.size) && (decide (1 ≤ p.2.1) && decide (p.2.1 ≤ 12)))) = true := by decide +kernel
  have := List.all_eq_true.1 this _ a
  simpa using this
theorem nameV_row (y n : Int) (l : Bool) (h : Cal.right n l = true) : isRow (nameV y n l) n l := by
  have hr : 1 ≤ n ∧ n ≤ 12 := by simp [Cal.right] at h; omega
  have hn : n = 1 ∨ n = 2 ∨ n = 3 ∨ n = 4 ∨ n = 5 ∨ n = 6 ∨ n = 7 ∨ n = 8 ∨ n = 9 ∨ n = 10 ∨ n = 11 ∨ n = 12 := by omega
  unfold isRow nameV
  rcases hn with rfl | rfl | rfl | rfl | rfl | rfl | rfl | rfl | rfl | rfl | rfl | rfl <;> cases l <;> cases Cal.leap y <;> first | (exfalso; revert h; decide) | (simp [rows]; done) | decide +kernel
theorem look (mt : ByteArray) : ∃ (n : Int) (l ok : Bool), ((ok = true ∧ isRow mt n l) ∨ (ok = false ∧ n = 0 ∧ l = false ∧ ∀ n' l', ¬ isRow mt n' l')) ∧
    ∀ (b : Nat) (w : World), w.heap[b]? = some (.map (codesAt 12) 14) → (Instr.lookup 64 (.map (some b)) (.string mt) true).run Tryz.prog w = .ok (.tuple #[.agg #[.int .i64 n, .bool l], .bool ok]) w := by
  have hks : ∀ x ∈ (codesAt 12).toList, MapKept.IsKey .string x.key := by
    intro x hx
    simp [codesAt, codeRow] at hx
    rcases hx with rfl | rfl | rfl | rfl | rfl | rfl | rfl | rfl | rfl | rfl | rfl | rfl | rfl | rfl <;> simp [MapKept.IsKey]
  rcases MapKept.findNow_spec (d := .string) (k := .string mt) (by simp [MapKept.IsKey]) (codesAt 12).toList 0 hks with ⟨h1, h2⟩ | ⟨j, e, h1, h2, h3⟩
  · refine ⟨0, false, false, .inr ⟨rfl, rfl, rfl, ?_⟩, fun b w hb => run_map_none _ 9 23 b 14 (codesAt 12) mt _ Tryz.underlying64 Tryz.underlying9 (by first | exact Tryz.zeroValue23 w | exact Tryz.zeroValue23 | (simp [go_sem]; done) | kernel_rfl) hb h1⟩
    intro n' l' hr
    simp only [isRow, rows, List.mem_cons, Prod.mk.injEq, List.not_mem_nil, or_false] at hr
    rcases hr with ⟨rfl, _⟩ | ⟨rfl, _⟩ | ⟨rfl, _⟩ | ⟨rfl, _⟩ | ⟨rfl, _⟩ | ⟨rfl, _⟩ | ⟨rfl, _⟩ | ⟨rfl, _⟩ | ⟨rfl, _⟩ | ⟨rfl, _⟩ | ⟨rfl, _⟩ | ⟨rfl, _⟩ | ⟨rfl, _⟩ | ⟨rfl, _⟩
    · exact h2 (codeRow 0 ⟨#[65, 100, 97, 114, 32, 73]⟩ 5 true) (by simp [codesAt]) rfl
    · exact h2 (codeRow 1 ⟨#[65, 100, 97, 114, 32, 73, 73]⟩ 6 false) (by simp [codesAt]) rfl
    · exact h2 (codeRow 2 ⟨#[84, 105, 115, 104, 114, 105]⟩ 1 false) (by simp [codesAt]) rfl
    · exact h2 (codeRow 3 ⟨#[72, 101, 115, 104, 118, 97, 110]⟩ 2 false) (by simp [codesAt]) rfl
    · exact h2 (codeRow 4 ⟨#[75, 105, 115, 108, 101, 118]⟩ 3 false) (by simp [codesAt]) rfl
    · exact h2 (codeRow 5 ⟨#[84, 101, 118, 101, 116]⟩ 4 false) (by simp [codesAt]) rfl
    · exact h2 (codeRow 6 ⟨#[83, 104, 101, 118, 97, 116]⟩ 5 false) (by simp [codesAt]) rfl
    · exact h2 (codeRow 7 ⟨#[65, 100, 97, 114]⟩ 6 false) (by simp [codesAt]) rfl
    · exact h2 (codeRow 8 ⟨#[78, 105, 115, 97, 110]⟩ 7 false) (by simp [codesAt]) rfl
    · exact h2 (codeRow 9 ⟨#[73, 121, 97, 114]⟩ 8 false) (by simp [codesAt]) rfl
    · exact h2 (codeRow 10 ⟨#[83, 105, 118, 97, 110]⟩ 9 false) (by simp [codesAt]) rfl
    · exact h2 (codeRow 11 ⟨#[84, 97, 109, 109, 117, 122]⟩ 10 false) (by simp [codesAt]) rfl
    · exact h2 (codeRow 12 ⟨#[65, 118]⟩ 11 false) (by simp [codesAt]) rfl
    · exact h2 (codeRow 13 ⟨#[69, 108, 117, 108]⟩ 12 false) (by simp [codesAt]) rfl
  · have hm : e ∈ (codesAt 12).toList := List.mem_of_getElem? h2
    have key : ∃ n l, e.val = .agg #[.int .i64 n, .bool l] ∧ ∃ t, e.key = .string t ∧ isRow t n l := by
      simp [codesAt] at hm
      rcases hm with rfl | rfl | rfl | rfl | rfl | rfl | rfl | rfl | rfl | rfl | rfl | rfl | rfl | rfl <;> exact ⟨_, _, rfl, _, rfl, by simp [isRow, rows]⟩
    obtain ⟨n, l, hv, t, ht, hr⟩ := key
    rw [ht] at h3
    obtain rfl : t = mt := by simpa using h3
    rw [hv] at h1
    exact ⟨n, l, true, .inl ⟨rfl, hr⟩, fun b w hb => run_map_look _ 9 23 b 14 (codesAt 12) t _ _ Tryz.underlying64 Tryz.underlying9 hb h1⟩
end D14
end Go.Proofs.YtagmdglmflcegaaGreatDoor
