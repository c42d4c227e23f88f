/- Merged: A14d, Ref14b, Ref14c, Ref14e, W14t. -/
import Derived.Test.YtagmdglmflcegaaGreatDoorName6
import Derived.Test.YtagmdglmflcegaaGreatDoorRef14a
import Derived.RegionTactic
import Derived.Outline
import Derived.Laws.IdiomStrings
import Derived.LoopTactic
import Derived.Test.YtagmdglmflcegaaGreatDoorW14
/- Layer 14: a text's first and last blank; what is read is one. -/
namespace Go.Proofs.YtagmdglmflcegaaGreatDoor
open Go.ChangeShapes Go.WideShapes Go.ChangeAt Go.RowKit
set_option linter.unusedVariables false
set_option maxRecDepth 100000
namespace D14
/-- The places of the first and of the last blank among these bytes; -1: there is none. -/
def Scan (l : List UInt8) (f t : Int) : Prop := (f = -1 ∧ t = -1 ∧ ∀ x ∈ l, ¬ x = 32) ∨
  (∃ a r b c, l = a ++ 32 :: r ∧ (∀ x ∈ a, ¬ x = 32) ∧ f = (a.length : Int) ∧ l = b ++ 32 :: c ∧ (∀ x ∈ c, ¬ x = 32) ∧ t = (b.length : Int))
theorem Scan.start : Scan [] (-1) (-1) := .inl ⟨rfl, rfl, by simp⟩
theorem Scan.other {l : List UInt8} {f t : Int} {x : UInt8} (h : Scan l f t) (hx : ¬ x = 32) : Scan (l ++ [x]) f t := by
  rcases h with ⟨rfl, rfl, h⟩ | ⟨a, r, b, c, e1, h1, rfl, e2, h2, rfl⟩
  · refine .inl ⟨rfl, rfl, fun z hz => ?_⟩
    rcases List.mem_append.1 hz with hz | hz
    · exact h z hz
    · rw [List.mem_singleton.1 hz]; exact hx
  · refine .inr ⟨a, r ++ [x], b, c ++ [x], by rw [e1]; simp, h1, rfl, by rw [e2]; simp, fun z hz => ?_, rfl⟩
    rcases List.mem_append.1 hz with hz | hz
    · exact h2 z hz
    · rw [List.mem_singleton.1 hz]; exact hx
theorem Scan.first {l : List UInt8} {f t : Int} (h : Scan l f t) (hf : f < 0) : Scan (l ++ [32]) (l.length : Int) (l.length : Int) := by
  rcases h with ⟨rfl, rfl, h⟩ | ⟨a, r, b, c, e1, h1, rfl, e2, h2, rfl⟩
  · exact .inr ⟨l, [], l, [], rfl, h, rfl, rfl, by simp, rfl⟩
  · omega
theorem Scan.more {l : List UInt8} {f t : Int} (h : Scan l f t) (hf : ¬ f < 0) : Scan (l ++ [32]) f (l.length : Int) := by
  rcases h with ⟨rfl, rfl, h⟩ | ⟨a, r, b, c, e1, h1, rfl, e2, h2, rfl⟩
  · omega
  · exact .inr ⟨a, r ++ [32], l, [], by rw [e1]; simp, h1, rfl, rfl, by simp, rfl⟩
theorem Scan.none {l : List UInt8} {f t : Int} (h : Scan l f t) (hf : f < 0) : ∀ x ∈ l, ¬ x = 32 := by
  rcases h with ⟨rfl, rfl, h⟩ | ⟨a, r, b, c, e1, h1, rfl, e2, h2, rfl⟩
  · exact h
  · omega
theorem Scan.bounds {l : List UInt8} {f t : Int} (h : Scan l f t) : -1 ≤ f ∧ -1 ≤ t ∧ f < (l.length : Int) + 1 ∧ t < (l.length : Int) + 1 ∧ (¬ f < 0 → 0 ≤ t ∧ f ≤ t ∧ t < (l.length : Int)) := by
  rcases h with ⟨rfl, rfl, h⟩ | ⟨a, r, b, c, e1, h1, rfl, e2, h2, rfl⟩
  · exact ⟨by omega, by omega, by omega, by omega, fun g => by omega⟩
  · have l1 := congrArg List.length e1
    have l2 := congrArg List.length e2
    simp only [List.length_append, List.length_cons] at l1 l2
    have hle : a.length ≤ b.length := by
      rcases Nat.lt_or_ge b.length a.length with g | g
      · exfalso
        have q1 : l[b.length]? = some 32 := by rw [e2]; simp
        have q2 : l[b.length]? = a[b.length]? := by rw [e1, List.getElem?_append_left g]
        rw [q2] at q1
        exact h1 32 (List.mem_of_getElem? q1) rfl
      · exact g
    exact ⟨by omega, by omega, by omega, by omega, fun g => by omega⟩
theorem ext_of (s : ByteArray) (i j : Nat) : (s.extract i j).data.toList = (s.data.toList.take j).drop i := by
  have e : s = ⟨s.data.toList.toArray⟩ := ba_ext (by simp)
  have h := ext_take s.data.toList i j
  rw [← e] at h
  exact h
theorem Scan.parts {s : ByteArray} {f t : Nat} (h : Scan s.data.toList (f : Int) (t : Int)) (hlt : f < t) : Parts s (s.extract 0 f) (s.extract (f + 1) t) (s.extract (t + 1) s.size) := by
  rcases h with ⟨h, _, _⟩ | ⟨a, r, b, c, e1, h1, h3, e2, h2, h4⟩
  · omega
  obtain rfl : f = a.length := by omega
  obtain rfl : t = b.length := by omega
  have hb : ∃ m, b = a ++ 32 :: m := by
    have q : s.data.toList.take b.length = b := by rw [e2]; simp
    rw [e1, List.take_append, List.take_of_length_le (by omega)] at q
    obtain ⟨k, hk⟩ : ∃ k, b.length - a.length = k + 1 := ⟨b.length - a.length - 1, by omega⟩
    rw [hk, List.take_succ_cons] at q
    exact ⟨_, q.symm⟩
  obtain ⟨m, hm⟩ := hb
  have x1 : (s.extract 0 a.length).data.toList = a := by rw [ext_of, e1]; simp
  have x2 : (s.extract (a.length + 1) b.length).data.toList = m := by
    rw [ext_of]
    have q : s.data.toList.take b.length = b := by rw [e2]; simp
    rw [q, hm]
    simp
  have hs : s.size = s.data.toList.length := by simp
  have x3 : (s.extract (b.length + 1) s.size).data.toList = c := by
    rw [ext_of, hs, List.take_length, e2]
    simp
  refine ⟨?_, by rw [x1]; exact h1, by rw [x3]; exact h2⟩
  rw [x1, x2, x3, e2, hm]
  simp
theorem Scan.no_none {s : ByteArray} {f t : Int} (h : Scan s.data.toList f t) (hf : f < 0) : ¬ ∃ fs mt ls n l, Parts s fs mt ls ∧ nOk fs 2 = true ∧ nOk ls 4 = true ∧ isRow mt n l := by
  rintro ⟨fs, mt, ls, n, l, ⟨e, _, _⟩, _⟩
  exact h.none hf 32 (by rw [e]; simp) rfl
theorem Scan.no_one {s : ByteArray} {f t : Int} (h : Scan s.data.toList f t) (hf : ¬ f < 0) (he : f = t) : ¬ ∃ fs mt ls n l, Parts s fs mt ls ∧ nOk fs 2 = true ∧ nOk ls 4 = true ∧ isRow mt n l := by
  rintro ⟨fs, mt, ls, n, l, ⟨e, p1, p2⟩, _⟩
  rcases h with ⟨h, _, _⟩ | ⟨a, r, b, c, e1, h1, rfl, e2, h2, rfl⟩
  · omega
  obtain ⟨q1, _⟩ := first_one h1 p1 (e1.symm.trans e)
  have e' : s.data.toList = (fs.data.toList ++ 32 :: mt.data.toList) ++ 32 :: ls.data.toList := by rw [e]; simp
  obtain ⟨q2, _⟩ := last_one h2 p2 (e2.symm.trans e')
  have := congrArg List.length q2
  rw [← q1] at this
  simp only [List.length_append, List.length_cons] at this
  omega
theorem ReadIs.one {s : ByteArray} {ry rn rd er qy qn qd qe : Int} {rl ql : Bool} (h : ReadIs s ry rn rl rd er) (h' : ReadIs s qy qn ql qd qe) : ry = qy ∧ rn = qn ∧ rl = ql ∧ rd = qd ∧ er = qe := by
  rcases h with ⟨rfl, rfl, rfl, rfl, rfl, hn⟩ | ⟨fs, mt, ls, n, l, hp, h1, h2, h3, h⟩
  · rcases h' with ⟨rfl, rfl, rfl, rfl, rfl, _⟩ | ⟨fs, mt, ls, n, l, hp, h1, h2, h3, _⟩
    · exact ⟨rfl, rfl, rfl, rfl, rfl⟩
    · exact absurd ⟨fs, mt, ls, n, l, hp, h1, h2, h3⟩ hn
  · rcases h'.parts hp h1 h2 h3 with ⟨a1, a2, a3, a4, a5, a⟩ | ⟨a1, a2, a3, a4, a5, a⟩
    · rcases h with ⟨b1, b2, b3, b4, b5, _⟩ | ⟨_, _, _, _, _, b⟩
      · rw [a1, a2, a3, a4, a5, b1, b2, b3, b4, b5]; exact ⟨rfl, rfl, rfl, rfl, rfl⟩
      · exact absurd b a
    · rcases h with ⟨_, _, _, _, _, b⟩ | ⟨b1, b2, b3, b4, b5, _⟩
      · exact absurd a b
      · rw [a1, a2, a3, a4, a5, b1, b2, b3, b4, b5]; exact ⟨rfl, rfl, rfl, rfl, rfl⟩
/-- What the document's code of a name is. -/
def CodeIs (mt : ByteArray) (y cn : Int) (cl : Bool) (ce : Int) : Prop :=
  (ce = 5 ∧ cn = 0 ∧ cl = false ∧ ∀ n l, ¬ isRow mt n l) ∨ (ce = 2 ∧ cn = 0 ∧ cl = false ∧ mt = ⟨#[65, 100, 97, 114, 32, 73, 73]⟩ ∧ Cal.leap y = false) ∨
  (ce = 0 ∧ isRow mt cn cl ∧ (mt = ⟨#[65, 100, 97, 114, 32, 73, 73]⟩ → Cal.leap y = true))
theorem name_same {y n : Int} {l : Bool} {mt : ByteArray} (h : isRow mt n l) (hm : mt = ⟨#[65, 100, 97, 114, 32, 73, 73]⟩ → Cal.leap y = true) : nameV y n l = mt ∨ mt = ⟨#[65, 100, 97, 114]⟩ := by
  simp only [isRow, rows, List.mem_cons, Prod.mk.injEq, List.not_mem_nil, or_false] at h
  rcases h with ⟨rfl, rfl, rfl⟩ | ⟨rfl, rfl, rfl⟩ | ⟨rfl, rfl, rfl⟩ | ⟨rfl, rfl, rfl⟩ | ⟨rfl, rfl, rfl⟩ | ⟨rfl, rfl, rfl⟩ | ⟨rfl, rfl, rfl⟩ | ⟨rfl, rfl, rfl⟩ | ⟨rfl, rfl, rfl⟩ | ⟨rfl, rfl, rfl⟩ | ⟨rfl, rfl, rfl⟩ | ⟨rfl, rfl, rfl⟩ | ⟨rfl, rfl, rfl⟩ | ⟨rfl, rfl, rfl⟩
  · left; simp [nameV]
  · left; simp [nameV, hm rfl]
  all_goals first | (right; rfl) | (left; simp [nameV])
theorem name_other {y : Int} (h : Cal.leap y = false) : ¬ (nameV y 6 false = (⟨#[65, 100, 97, 114, 32, 73, 73]⟩ : ByteArray) ∨ (⟨#[65, 100, 97, 114, 32, 73, 73]⟩ : ByteArray) = ⟨#[65, 100, 97, 114]⟩) := by
  have e : nameV y 6 false = ⟨#[65, 100, 97, 114]⟩ := by simp [nameV, h]
  rw [e]
  rintro (g | g) <;> exact absurd (congrArg (fun b : ByteArray => b.data.toList) g) (by decide)
theorem row_II : isRow ⟨#[65, 100, 97, 114, 32, 73, 73]⟩ 6 false := by simp [isRow, rows]
end D14
end Go.Proofs.YtagmdglmflcegaaGreatDoor
/- Layer 14: the document's months' names and words, at any date. -/
namespace Go.Proofs.YtagmdglmflcegaaGreatDoor
open Go.ChangeShapes Go.WideShapes Go.ChangeAt Go.RowKit
set_option linter.unusedVariables false
set_option maxRecDepth 100000
theorem ref14_Month (y n : Int) (l : Bool) (w : World) (hy : I64 y) :
    Calls Tryz.prog 10 #[.int .i64 y, .agg #[.int .i64 n, .bool l]] w fun e w' => e = .returned (.tuple #[.string (if D10.lastE y n l = 0 then nameV y n l else ⟨#[]⟩), .int .i64 (D10.lastE y n l)]) ∧ Below w.heap.size w w' := by
  have HL := Lib.hid (fun w => ref10_Last y n l w hy)
  by_cases c : D10.lastE y n l = 0
  · obtain ⟨y1, y2, hp, _⟩ := D10.last_date c
    rw [c] at HL
    rw [c, if_pos rfl]
    have HI := Lib.hid (fun w => ref3_Is y w (by omega) (by omega))
    cases l
    · have hr : 1 ≤ n ∧ n ≤ 12 := by
        simp [Cal.plOk, Cal.right] at hp; omega
      have hn : n = 1 ∨ n = 2 ∨ n = 3 ∨ n = 4 ∨ n = 5 ∨ n = 6 ∨ n = 7 ∨ n = 8 ∨ n = 9 ∨ n = 10 ∨ n = 11 ∨ n = 12 := by omega
      rcases hn with rfl | rfl | rfl | rfl | rfl | rfl | rfl | rfl | rfl | rfl | rfl | rfl
      · rw [show nameV y 1 false = ⟨#[84, 105, 115, 104, 114, 105]⟩ by simp [nameV]]
        exact ref14_Month_1 y _ w HL
      · rw [show nameV y 2 false = ⟨#[72, 101, 115, 104, 118, 97, 110]⟩ by simp [nameV]]
        exact ref14_Month_2 y _ w HL
      · rw [show nameV y 3 false = ⟨#[75, 105, 115, 108, 101, 118]⟩ by simp [nameV]]
        exact ref14_Month_3 y _ w HL
      · rw [show nameV y 4 false = ⟨#[84, 101, 118, 101, 116]⟩ by simp [nameV]]
        exact ref14_Month_4 y _ w HL
      · rw [show nameV y 5 false = ⟨#[83, 104, 101, 118, 97, 116]⟩ by simp [nameV]]
        exact ref14_Month_5 y _ w HL
      · cases hl : Cal.leap y
        · rw [show nameV y 6 false = ⟨#[65, 100, 97, 114]⟩ by simp [nameV, hl]]
          rw [hl] at HI
          exact ref14_Month_6 y _ w HL HI
        · rw [show nameV y 6 false = ⟨#[65, 100, 97, 114, 32, 73, 73]⟩ by simp [nameV, hl]]
          rw [hl] at HI
          exact ref14_Month_II y _ w HL HI
      · rw [show nameV y 7 false = ⟨#[78, 105, 115, 97, 110]⟩ by simp [nameV]]
        exact ref14_Month_7 y _ w HL
      · rw [show nameV y 8 false = ⟨#[73, 121, 97, 114]⟩ by simp [nameV]]
        exact ref14_Month_8 y _ w HL
      · rw [show nameV y 9 false = ⟨#[83, 105, 118, 97, 110]⟩ by simp [nameV]]
        exact ref14_Month_9 y _ w HL
      · rw [show nameV y 10 false = ⟨#[84, 97, 109, 109, 117, 122]⟩ by simp [nameV]]
        exact ref14_Month_10 y _ w HL
      · rw [show nameV y 11 false = ⟨#[65, 118]⟩ by simp [nameV]]
        exact ref14_Month_11 y _ w HL
      · rw [show nameV y 12 false = ⟨#[69, 108, 117, 108]⟩ by simp [nameV]]
        exact ref14_Month_12 y _ w HL
    · rw [show nameV y n true = ⟨#[65, 100, 97, 114, 32, 73]⟩ by simp [nameV]]
      exact ref14_Month_I y n _ w HL
  · rw [if_neg c]
    exact ref14_Month_err y n l _ _ w HL (by simpa using c)
set_option maxHeartbeats 2000000 in
theorem ref14_Print_err (y n : Int) (l : Bool) (d er : Int) (w : World) (HC : Hid (∀ w : World, Calls Tryz.prog 36 #[.agg #[.int .i64 (y), .int .i64 (n), .bool (l), .int .i64 (d)]] w fun e w' => e = .returned (.int .i64 (er)) ∧ Below w.heap.size w w')) (h0 : (er != 0) = true) :
    Calls Tryz.prog 12 #[.agg #[.int .i64 (y), .int .i64 (n), .bool (l), .int .i64 (d)]] w fun e w' => e = .returned (.tuple #[.string ⟨#[]⟩, .int .i64 (er)]) ∧ Below w.heap.size w w' := by
  go_enter Tryz.func12, Tryz.ntmps12
  go_wp2_with fail
  refine (HC.out _).mono ?_
  rintro e w1 ⟨rfl, hb1⟩
  obtain ⟨hc1, hf1⟩ := bcell hb1
  have hz1 := hb1.size
  try simp at hz1
  have hs1x0 : w.heap.size < w1.heap.size := by omega
  have g1x0 : w1.cell? ⟨w.heap.size, 0, none⟩ = some (.int .i64 (y)) := (hc1 _ _ (by first | omega | (simp; done) | (simp; omega))).trans (by first | (with_reducible assumption) | (simp [go_sem]; done) | (simp [go_sem, *]; done) | assumption)
  have g1x1 : w1.cell? ⟨w.heap.size, 1, none⟩ = some (.int .i64 (n)) := (hc1 _ _ (by first | omega | (simp; done) | (simp; omega))).trans (by first | (with_reducible assumption) | (simp [go_sem]; done) | (simp [go_sem, *]; done) | assumption)
  have g1x2 : w1.cell? ⟨w.heap.size, 2, none⟩ = some (.bool (l)) := (hc1 _ _ (by first | omega | (simp; done) | (simp; omega))).trans (by first | (with_reducible assumption) | (simp [go_sem]; done) | (simp [go_sem, *]; done) | assumption)
  have g1x3 : w1.cell? ⟨w.heap.size, 3, none⟩ = some (.int .i64 (d)) := (hc1 _ _ (by first | omega | (simp; done) | (simp; omega))).trans (by first | (with_reducible assumption) | (simp [go_sem]; done) | (simp [go_sem, *]; done) | assumption)
  go_wp2_with fail
  go_ret2
  refine ⟨rfl, ?_⟩
  repeat (first | (with_reducible exact Below.refl _ _) | (with_reducible assumption) | (with_reducible refine bdrew ?_) | (with_reducible refine baa ?_ _) | (with_reducible refine bs ?_ (by first | exact Nat.le_refl _ | omega | (simp; done) | (simp; omega)) _) | (with_reducible refine bt ?_ (by with_reducible assumption)))
set_option maxHeartbeats 4000000 in
theorem ref14_Print_ok (y n : Int) (l : Bool) (d : Int) (sn sd sy : ByteArray) (w : World) (HC : Hid (∀ w : World, Calls Tryz.prog 36 #[.agg #[.int .i64 (y), .int .i64 (n), .bool (l), .int .i64 (d)]] w fun e w' => e = .returned (.int .i64 (0)) ∧ Below w.heap.size w w')) (HM : Hid (∀ w : World, Calls Tryz.prog 10 #[.int .i64 (y), .agg #[.int .i64 (n), .bool (l)]] w fun e w' => e = .returned (.tuple #[.string sn, .int .i64 0]) ∧ Below w.heap.size w w')) (HD : Hid (∀ w : World, Calls Tryz.prog 37 #[.int .i64 (d)] w fun e w' => e = .returned (.string sd) ∧ Below w.heap.size w w')) (HY : Hid (∀ w : World, Calls Tryz.prog 37 #[.int .i64 (y)] w fun e w' => e = .returned (.string sy) ∧ Below w.heap.size w w')) (z1 : sn.size ≤ 100) (z2 : sd.size ≤ 100) (z3 : sy.size ≤ 100) :
    Calls Tryz.prog 12 #[.agg #[.int .i64 (y), .int .i64 (n), .bool (l), .int .i64 (d)]] w fun e w' => e = .returned (.tuple #[.string (sd ++ ⟨#[32]⟩ ++ sn ++ ⟨#[32]⟩ ++ sy), .int .i64 0]) ∧ Below w.heap.size w w' := by
  go_enter Tryz.func12, Tryz.ntmps12
  go_wp2_with fail
  refine (HC.out _).mono ?_
  rintro e w1 ⟨rfl, hb1⟩
  obtain ⟨hc1, hf1⟩ := bcell hb1
  have hz1 := hb1.size
  try simp at hz1
  have hs1x0 : w.heap.size < w1.heap.size := by omega
  have g1x0 : w1.cell? ⟨w.heap.size, 0, none⟩ = some (.int .i64 (y)) := (hc1 _ _ (by first | omega | (simp; done) | (simp; omega))).trans (by first | (with_reducible assumption) | (simp [go_sem]; done) | (simp [go_sem, *]; done) | assumption)
  have g1x1 : w1.cell? ⟨w.heap.size, 1, none⟩ = some (.int .i64 (n)) := (hc1 _ _ (by first | omega | (simp; done) | (simp; omega))).trans (by first | (with_reducible assumption) | (simp [go_sem]; done) | (simp [go_sem, *]; done) | assumption)
  have g1x2 : w1.cell? ⟨w.heap.size, 2, none⟩ = some (.bool (l)) := (hc1 _ _ (by first | omega | (simp; done) | (simp; omega))).trans (by first | (with_reducible assumption) | (simp [go_sem]; done) | (simp [go_sem, *]; done) | assumption)
  have g1x3 : w1.cell? ⟨w.heap.size, 3, none⟩ = some (.int .i64 (d)) := (hc1 _ _ (by first | omega | (simp; done) | (simp; omega))).trans (by first | (with_reducible assumption) | (simp [go_sem]; done) | (simp [go_sem, *]; done) | assumption)
  go_wp2_with fail
  refine (HM.out _).mono ?_
  rintro e w2 ⟨rfl, hb2⟩
  obtain ⟨hc2, hf2⟩ := bcell hb2
  have hz2 := hb2.size
  try simp at hz2
  have hs2x0 : w.heap.size < w2.heap.size := by omega
  have g2x0 : w2.cell? ⟨w.heap.size, 0, none⟩ = some (.int .i64 (y)) := (hc2 _ _ (by first | omega | (simp; done) | (simp; omega))).trans (by first | (with_reducible assumption) | (simp [go_sem]; done) | (simp [go_sem, *]; done) | assumption)
  have g2x1 : w2.cell? ⟨w.heap.size, 1, none⟩ = some (.int .i64 (n)) := (hc2 _ _ (by first | omega | (simp; done) | (simp; omega))).trans (by first | (with_reducible assumption) | (simp [go_sem]; done) | (simp [go_sem, *]; done) | assumption)
  have g2x2 : w2.cell? ⟨w.heap.size, 2, none⟩ = some (.bool (l)) := (hc2 _ _ (by first | omega | (simp; done) | (simp; omega))).trans (by first | (with_reducible assumption) | (simp [go_sem]; done) | (simp [go_sem, *]; done) | assumption)
  have g2x3 : w2.cell? ⟨w.heap.size, 3, none⟩ = some (.int .i64 (d)) := (hc2 _ _ (by first | omega | (simp; done) | (simp; omega))).trans (by first | (with_reducible assumption) | (simp [go_sem]; done) | (simp [go_sem, *]; done) | assumption)
  go_wp2_with fail
  have hW2 : Below w.heap.size w w2 := by repeat (first | (with_reducible exact Below.refl _ _) | (with_reducible assumption) | (with_reducible refine bdrew ?_) | (with_reducible refine baa ?_ _) | (with_reducible refine bs ?_ (by first | exact Nat.le_refl _ | omega | (simp; done) | (simp; omega)) _) | (with_reducible refine bt ?_ (by with_reducible assumption)))
  refine wp_region_class (by kernel_rfl) (by kernel_rfl) (fun hall => ?_)
  repeat (first | go_big_quiet_skip | (go_big_quiet_want; first | (refine quiet_load1 _ _ _ rfl rfl ?_ ?_ ?_; (focus (intro _; simp; done)); (focus (first | assumption | omega | (simp; done) | (simp; omega))); apply Exists.intro; refine ⟨?_, ?_⟩; assumption; go_simp; go_big_quiet_on) | (refine quiet_load2 _ _ _ _ rfl rfl ?_ ?_ ?_ ?_; (focus (intro _; simp; done)); (focus (intro _; simp; done)); (focus (first | assumption | omega | (simp; done) | (simp; omega))); apply Exists.intro; apply Exists.intro; refine ⟨?_, ?_, ?_⟩; assumption; assumption; go_simp; go_big_quiet_on) | (refine quiet_load3 _ _ _ _ rfl rfl ?_ ?_ ?_ ?_; (focus (intro _; simp; done)); (focus (intro _; simp; done)); (focus (first | assumption | omega | (simp; done) | (simp; omega))); apply Exists.intro; apply Exists.intro; apply Exists.intro; refine ⟨?_, ?_, ?_, ?_⟩; assumption; assumption; assumption; go_simp; go_big_quiet_on) | (refine quiet_load4 _ _ _ _ rfl rfl ?_ ?_ ?_ ?_; (focus (intro _; simp; done)); (focus (intro _; simp; done)); (focus (first | assumption | omega | (simp; done) | (simp; omega))); apply Exists.intro; apply Exists.intro; apply Exists.intro; apply Exists.intro; refine ⟨?_, ?_, ?_, ?_, ?_⟩; assumption; assumption; assumption; assumption; go_simp; go_big_quiet_on) | (go_big_quiet_op; first | go_big_quiet_on | (apply Exists.intro; refine ⟨fun x hx => ?_, ?_⟩; (first | (with_reducible exact call_below hx (HD.out x)) | (with_reducible exact call_below hx (HY.out x)) | exact call_below hx (HD.out x) | exact call_below hx (HY.out x)); go_big_quiet_on))))
  refine wpQuiet_nil ?_
  clear hall
  intro x3 hx3
  go_wp2_with fail
  go_ret2
  exact ⟨rfl, bt hW2 hx3⟩
theorem ref14_Print (y n : Int) (l : Bool) (d : Int) (w : World) (hy : I64 y) (hd : I64 d) :
    Calls Tryz.prog 12 #[.agg #[.int .i64 (y), .int .i64 (n), .bool (l), .int .i64 (d)]] w fun e w' => e = .returned (.tuple #[.string (if D10.dateE y n l d = 0 then wordsV y n l d else ⟨#[]⟩), .int .i64 (D10.dateE y n l d)]) ∧ Below w.heap.size w w' := by
  have HC := Lib.hid (fun w => ref10_Check y n l d w hy)
  by_cases c : D10.dateE y n l d = 0
  · rw [c] at HC
    rw [c, if_pos rfl]
    obtain ⟨⟨y1, y2, m1, m2, d1, d2⟩, hp⟩ := D10.date_valid c
    have hlb := (D10.len_bd y _ y1 y2 m1 m2).2
    have hL0 : D10.lastE y n l = 0 := by
      unfold D10.lastE
      rw [show Cal.yearIn y = true by simp [Cal.yearIn]; omega, hp]; rfl
    have HM := Lib.hid (fun w => ref14_Month y n l w hy)
    rw [hL0, if_pos rfl] at HM
    have hr : 1 ≤ n ∧ n ≤ 12 := by
      simp [Cal.plOk, Cal.right] at hp; omega
    exact ref14_Print_ok y n l d _ _ _ w HC HM (Lib.hid (fun w => ref14_digits d (by omega) (by omega) w)) (Lib.hid (fun w => ref14_digits y (by omega) (by omega) w)) (nameV_size y n l hr)
      (by have := Lib.itoa_length_le d hd.1 hd.2; simp [ByteArray.size]; omega) (by have := Lib.itoa_length_le y hy.1 hy.2; simp [ByteArray.size]; omega)
  · rw [if_neg c]
    exact ref14_Print_err y n l d _ w HC (by simpa using c)
end Go.Proofs.YtagmdglmflcegaaGreatDoor
/- Layer 14: the document's code of a name. -/
namespace Go.Proofs.YtagmdglmflcegaaGreatDoor
open Go.ChangeShapes Go.WideShapes Go.ChangeAt Go.RowKit
set_option linter.unusedVariables false
set_option maxRecDepth 100000
def nmAt (k : Nat) : ByteArray := ([⟨#[84, 105, 115, 104, 114, 105]⟩, ⟨#[72, 101, 115, 104, 118, 97, 110]⟩, ⟨#[75, 105, 115, 108, 101, 118]⟩, ⟨#[84, 101, 118, 101, 116]⟩, ⟨#[83, 104, 101, 118, 97, 116]⟩, ⟨#[65, 100, 97, 114]⟩, ⟨#[78, 105, 115, 97, 110]⟩, ⟨#[73, 121, 97, 114]⟩, ⟨#[83, 105, 118, 97, 110]⟩, ⟨#[84, 97, 109, 109, 117, 122]⟩, ⟨#[65, 118]⟩, ⟨#[69, 108, 117, 108]⟩] : List ByteArray).getD k ByteArray.empty
theorem nm_cell (k : Nat) (hk : k < 12) : ∀ W : World, (W.alloc (.cells nameCells.toArray 9)).cell? ⟨W.heap.size, k, none⟩ = some (.string (nmAt k)) := fun W => by
  refine (World.cell?_alloc_mark W _ _ _ k).trans ?_
  rcases (show k = 0 ∨ k = 1 ∨ k = 2 ∨ k = 3 ∨ k = 4 ∨ k = 5 ∨ k = 6 ∨ k = 7 ∨ k = 8 ∨ k = 9 ∨ k = 10 ∨ k = 11 by omega) with rfl | rfl | rfl | rfl | rfl | rfl | rfl | rfl | rfl | rfl | rfl | rfl <;> rfl
theorem nm_row (k : Nat) (hk : k < 12) : D14.isRow (nmAt k) ((k : Int) + 1) false := by
  rcases (show k = 0 ∨ k = 1 ∨ k = 2 ∨ k = 3 ∨ k = 4 ∨ k = 5 ∨ k = 6 ∨ k = 7 ∨ k = 8 ∨ k = 9 ∨ k = 10 ∨ k = 11 by omega) with rfl | rfl | rfl | rfl | rfl | rfl | rfl | rfl | rfl | rfl | rfl | rfl <;> simp [D14.isRow, D14.rows, nmAt]
set_option maxHeartbeats 4000000 in
theorem ref14_code_I (mt : ByteArray) (y : Int) (w : World) (a1 : (mt.toList == (⟨#[65, 100, 97, 114, 32, 73]⟩ : ByteArray).toList) = true) (a2 : (mt.toList == [65, 100, 97, 114, 32, 73]) = true) :
    Calls Tryz.prog 43 #[.string mt, .int .i64 y] w fun e w' => e = .returned (.tuple #[.agg #[.int .i64 (5), .bool true], .int .i64 (0)]) ∧ Below w.heap.size w w' := by
  go_enter Tryz.func43, Tryz.ntmps43
  go_wp2_with fail
  refine bodyPost_ret (v := .tuple #[.agg #[.int .i64 (5), .bool true], .int .i64 (0)]) (by simp [results, Tryz.results43, go_sem, *]) rfl ⟨rfl, ?_⟩
  repeat (first | (with_reducible exact Below.refl _ _) | (with_reducible assumption) | (with_reducible refine bdrew ?_) | (with_reducible refine baa ?_ _) | (with_reducible refine bs ?_ (by first | exact Nat.le_refl _ | omega | (simp; done) | (simp; omega)) _) | (with_reducible refine bt ?_ (by with_reducible assumption)))
set_option maxHeartbeats 4000000 in
theorem ref14_code_II (mt : ByteArray) (y : Int) (w : World) (a1 : (mt.toList == (⟨#[65, 100, 97, 114, 32, 73]⟩ : ByteArray).toList) = false) (a2 : (mt.toList == [65, 100, 97, 114, 32, 73]) = false) (b1 : (mt.toList == (⟨#[65, 100, 97, 114, 32, 73, 73]⟩ : ByteArray).toList) = true) (b2 : (mt.toList == [65, 100, 97, 114, 32, 73, 73]) = true) (HI : Hid (∀ w : World, Calls Tryz.prog 32 #[.int .i64 y] w fun e w' => e = .returned (.bool true) ∧ w = w')) :
    Calls Tryz.prog 43 #[.string mt, .int .i64 y] w fun e w' => e = .returned (.tuple #[.agg #[.int .i64 (6), .bool false], .int .i64 (0)]) ∧ Below w.heap.size w w' := by
  go_enter Tryz.func43, Tryz.ntmps43
  go_wp2_with fail
  refine (HI.out _).mono ?_
  rintro e w' ⟨rfl, rfl⟩
  go_wp2_with fail
  refine bodyPost_ret (v := .tuple #[.agg #[.int .i64 (6), .bool false], .int .i64 (0)]) (by simp [results, Tryz.results43, go_sem, *]) rfl ⟨rfl, ?_⟩
  repeat (first | (with_reducible exact Below.refl _ _) | (with_reducible assumption) | (with_reducible refine bdrew ?_) | (with_reducible refine baa ?_ _) | (with_reducible refine bs ?_ (by first | exact Nat.le_refl _ | omega | (simp; done) | (simp; omega)) _) | (with_reducible refine bt ?_ (by with_reducible assumption)))
set_option maxHeartbeats 4000000 in
theorem ref14_code_no (mt : ByteArray) (y : Int) (w : World) (a1 : (mt.toList == (⟨#[65, 100, 97, 114, 32, 73]⟩ : ByteArray).toList) = false) (a2 : (mt.toList == [65, 100, 97, 114, 32, 73]) = false) (b1 : (mt.toList == (⟨#[65, 100, 97, 114, 32, 73, 73]⟩ : ByteArray).toList) = true) (b2 : (mt.toList == [65, 100, 97, 114, 32, 73, 73]) = true) (HI : Hid (∀ w : World, Calls Tryz.prog 32 #[.int .i64 y] w fun e w' => e = .returned (.bool false) ∧ w = w')) :
    Calls Tryz.prog 43 #[.string mt, .int .i64 y] w fun e w' => e = .returned (.tuple #[.agg #[.int .i64 (0), .bool false], .int .i64 (2)]) ∧ Below w.heap.size w w' := by
  go_enter Tryz.func43, Tryz.ntmps43
  go_wp2_with fail
  refine (HI.out _).mono ?_
  rintro e w' ⟨rfl, rfl⟩
  go_wp2_with fail
  refine bodyPost_ret (v := .tuple #[.agg #[.int .i64 (0), .bool false], .int .i64 (2)]) (by simp [results, Tryz.results43, go_sem, *]) rfl ⟨rfl, ?_⟩
  repeat (first | (with_reducible exact Below.refl _ _) | (with_reducible assumption) | (with_reducible refine bdrew ?_) | (with_reducible refine baa ?_ _) | (with_reducible refine bs ?_ (by first | exact Nat.le_refl _ | omega | (simp; done) | (simp; omega)) _) | (with_reducible refine bt ?_ (by with_reducible assumption)))
set_option maxHeartbeats 4000000 in
theorem ref14_code_at (mt : ByteArray) (y : Int) (k0 : Nat) (hk0 : k0 < 12) (w : World) (a1 : (mt.toList == (⟨#[65, 100, 97, 114, 32, 73]⟩ : ByteArray).toList) = false) (a2 : (mt.toList == [65, 100, 97, 114, 32, 73]) = false) (b1 : (mt.toList == (⟨#[65, 100, 97, 114, 32, 73, 73]⟩ : ByteArray).toList) = false) (b2 : (mt.toList == [65, 100, 97, 114, 32, 73, 73]) = false) (Hno : Hid (∀ j, j < k0 → ((nmAt j).toList == mt.toList) = false)) (Hyes : ((nmAt k0).toList == mt.toList) = true) :
    Calls Tryz.prog 43 #[.string mt, .int .i64 y] w fun e w' => e = .returned (.tuple #[.agg #[.int .i64 ((k0 : Int) + 1), .bool false], .int .i64 (0)]) ∧ Below w.heap.size w w' := by
  go_enter Tryz.func43, Tryz.ntmps43
  go_wp2_with fail
  go_loopw [6] (fun i wr => ∃ k : Nat, k ≤ k0 ∧ i = .int .i64 (k : Int) ∧ wr.cell? ⟨w.heap.size, 0, none⟩ = some (.int .i64 0) ∧ wr.cell? ⟨w.heap.size, 1, none⟩ = some (.bool false) ∧ wr.frozen? ⟨w.heap.size, 0, none⟩ = false ∧ wr.frozen? ⟨w.heap.size, 1, none⟩ = false ∧ w.heap.size < wr.heap.size ∧ Below w.heap.size w wr) (fun i _ => (k0 - (intOf i).toNat))
  case atStart => exact ⟨0, by omega, rfl, by simp [go_sem], by simp [go_sem], by simp [go_sem], by simp [go_sem], by simp, ba _ _⟩
  case round =>
    obtain ⟨k, hk, rfl, g0, g1, f0, f1, hlt, hB⟩ := hrel
    by_cases hn : k < k0
    · have hno := Hno.out k hn
      clear Hyes Hno
      have kk : (0 : Int) ≤ (k : Int) := by omega
      have kl : (k : Int) < 12 := by omega
      have HN := nm_cell k (by omega)
      go_wp2_with fail
      refine (ref14_names _).mono ?_
      rintro e w4 ⟨rfl, rfl⟩
      go_wp2_with fail
      go_roundw
      case rel => exact ⟨k + 1, by omega, by go_num, by simp [go_sem, *], by simp [go_sem, *], by simp [go_sem, *], by simp [go_sem, *], by simp; omega, baa hB _⟩
      case measure => simp [intOf]; omega
    · obtain rfl : k = k0 := by omega
      clear hn Hno
      have kk : (0 : Int) ≤ (k : Int) := by omega
      have kl : (k : Int) < 12 := by omega
      have HN := nm_cell k (by omega)
      go_wp2_with fail
      refine (ref14_names _).mono ?_
      rintro e w4 ⟨rfl, rfl⟩
      go_wp2_with fail
      refine bodyPost_ret (v := .tuple #[.agg #[.int .i64 ((k : Int) + 1), .bool false], .int .i64 (0)]) (by simp [results, Tryz.results43, go_sem, *]) rfl ⟨rfl, ?_⟩
      repeat (first | (with_reducible exact Below.refl _ _) | (with_reducible assumption) | (with_reducible refine bdrew ?_) | (with_reducible refine baa ?_ _) | (with_reducible refine bs ?_ (by first | exact Nat.le_refl _ | omega | (simp; done) | (simp; omega)) _) | (with_reducible refine bt ?_ (by with_reducible assumption)))
set_option maxHeartbeats 4000000 in
theorem ref14_code_none (mt : ByteArray) (y : Int) (w : World) (a1 : (mt.toList == (⟨#[65, 100, 97, 114, 32, 73]⟩ : ByteArray).toList) = false) (a2 : (mt.toList == [65, 100, 97, 114, 32, 73]) = false) (b1 : (mt.toList == (⟨#[65, 100, 97, 114, 32, 73, 73]⟩ : ByteArray).toList) = false) (b2 : (mt.toList == [65, 100, 97, 114, 32, 73, 73]) = false) (Hno : Hid (∀ j, j < 12 → ((nmAt j).toList == mt.toList) = false)) :
    Calls Tryz.prog 43 #[.string mt, .int .i64 y] w fun e w' => e = .returned (.tuple #[.agg #[.int .i64 (0), .bool false], .int .i64 (5)]) ∧ Below w.heap.size w w' := by
  go_enter Tryz.func43, Tryz.ntmps43
  go_wp2_with fail
  go_loopw [6] (fun i wr => ∃ k : Nat, k ≤ 12 ∧ i = .int .i64 (k : Int) ∧ wr.cell? ⟨w.heap.size, 0, none⟩ = some (.int .i64 0) ∧ wr.cell? ⟨w.heap.size, 1, none⟩ = some (.bool false) ∧ wr.frozen? ⟨w.heap.size, 0, none⟩ = false ∧ wr.frozen? ⟨w.heap.size, 1, none⟩ = false ∧ w.heap.size < wr.heap.size ∧ Below w.heap.size w wr) (fun i _ => (12 - (intOf i).toNat))
  case atStart => exact ⟨0, by omega, rfl, by simp [go_sem], by simp [go_sem], by simp [go_sem], by simp [go_sem], by simp, ba _ _⟩
  case round =>
    obtain ⟨k, hk, rfl, g0, g1, f0, f1, hlt, hB⟩ := hrel
    by_cases hn : k < 12
    · have hno := Hno.out k hn
      clear Hno
      have kk : (0 : Int) ≤ (k : Int) := by omega
      have kl : (k : Int) < 12 := by omega
      have HN := nm_cell k (by omega)
      go_wp2_with fail
      refine (ref14_names _).mono ?_
      rintro e w4 ⟨rfl, rfl⟩
      go_wp2_with fail
      go_roundw
      case rel => exact ⟨k + 1, by omega, by go_num, by simp [go_sem, *], by simp [go_sem, *], by simp [go_sem, *], by simp [go_sem, *], by simp; omega, baa hB _⟩
      case measure => simp [intOf]; omega
    · obtain rfl : k = 12 := by omega
      clear hn Hno
      go_wp2_with fail
      refine bodyPost_ret (v := .tuple #[.agg #[.int .i64 (0), .bool false], .int .i64 (5)]) (by simp [results, Tryz.results43, go_sem, *]) rfl ⟨rfl, ?_⟩
      repeat (first | (with_reducible exact Below.refl _ _) | (with_reducible assumption) | (with_reducible refine bdrew ?_) | (with_reducible refine baa ?_ _) | (with_reducible refine bs ?_ (by first | exact Nat.le_refl _ | omega | (simp; done) | (simp; omega)) _) | (with_reducible refine bt ?_ (by with_reducible assumption)))
theorem ref14_code (mt : ByteArray) (y : Int) (h0 : -1099511627776 ≤ y) (h1 : y ≤ 1099511627776) : ∃ (cn : Int) (cl : Bool) (ce : Int), D14.CodeIs mt y cn cl ce ∧ ∀ w : World,
    Calls Tryz.prog 43 #[.string mt, .int .i64 y] w fun e w' => e = .returned (.tuple #[.agg #[.int .i64 (cn), .bool cl], .int .i64 (ce)]) ∧ Below w.heap.size w w' := by
  have eq2 : ∀ (c : ByteArray) (b : Bool), (mt.toList == c.toList) = b → (mt.toList == c.data.toList) = b := fun c b h => by rw [← Lib.toList_data c]; exact h
  by_cases e1 : mt = ⟨#[65, 100, 97, 114, 32, 73]⟩
  · have a : (mt.toList == (⟨#[65, 100, 97, 114, 32, 73]⟩ : ByteArray).toList) = true := by rw [e1]; simp
    exact ⟨5, true, 0, .inr (.inr ⟨rfl, by rw [e1]; simp [D14.isRow, D14.rows], fun h => absurd (e1.symm.trans h) (fun e => absurd (congrArg (fun b : ByteArray => b.data.toList) e) (by decide))⟩), fun w => ref14_code_I mt y w a (eq2 _ _ a)⟩
  have a := D14.str_ne e1
  have HI := Lib.hid (fun w => ref3_Is y w h0 h1)
  by_cases e2 : mt = ⟨#[65, 100, 97, 114, 32, 73, 73]⟩
  · have b : (mt.toList == (⟨#[65, 100, 97, 114, 32, 73, 73]⟩ : ByteArray).toList) = true := by rw [e2]; simp
    cases hl : Cal.leap y
    · rw [hl] at HI
      exact ⟨0, false, 2, .inr (.inl ⟨rfl, rfl, rfl, e2, hl⟩), fun w => ref14_code_no mt y w a (eq2 _ _ a) b (eq2 _ _ b) HI⟩
    · rw [hl] at HI
      exact ⟨6, false, 0, .inr (.inr ⟨rfl, by rw [e2]; exact D14.row_II, fun _ => hl⟩), fun w => ref14_code_II mt y w a (eq2 _ _ a) b (eq2 _ _ b) HI⟩
  have b := D14.str_ne e2
  by_cases h : ∃ k : Nat, k < 12 ∧ nmAt k = mt
  · obtain ⟨k, hk, e⟩ := h
    have hno : ∀ j, j < k → ((nmAt j).toList == mt.toList) = false := fun j hj => D14.str_ne fun e' => by
      have r1 := nm_row j (by omega)
      have r2 := nm_row k hk
      rw [e'] at r1
      rw [e] at r2
      have := (D14.row_one r1 r2).1
      omega
    exact ⟨(k : Int) + 1, false, 0, .inr (.inr ⟨rfl, by rw [← e]; exact nm_row k hk, fun h => absurd h e2⟩), fun w => ref14_code_at mt y k hk w a (eq2 _ _ a) b (eq2 _ _ b) (Lib.hid hno) (by rw [e]; simp)⟩
  · have hno : ∀ j, j < 12 → ((nmAt j).toList == mt.toList) = false := fun j hj => D14.str_ne fun e' => h ⟨j, hj, e'⟩
    refine ⟨0, false, 5, .inl ⟨rfl, rfl, rfl, ?_⟩, fun w => ref14_code_none mt y w a (eq2 _ _ a) b (eq2 _ _ b) (Lib.hid hno)⟩
    intro n l hr
    simp only [D14.isRow, D14.rows, List.mem_cons, Prod.mk.injEq, List.not_mem_nil, or_false] at hr
    rcases hr with ⟨e, _⟩ | ⟨e, _⟩ | ⟨e, _⟩ | ⟨e, _⟩ | ⟨e, _⟩ | ⟨e, _⟩ | ⟨e, _⟩ | ⟨e, _⟩ | ⟨e, _⟩ | ⟨e, _⟩ | ⟨e, _⟩ | ⟨e, _⟩ | ⟨e, _⟩ | ⟨e, _⟩
    · exact e1 e
    · exact e2 e
    · exact h ⟨0, by omega, e.symm⟩
    · exact h ⟨1, by omega, e.symm⟩
    · exact h ⟨2, by omega, e.symm⟩
    · exact h ⟨3, by omega, e.symm⟩
    · exact h ⟨4, by omega, e.symm⟩
    · exact h ⟨5, by omega, e.symm⟩
    · exact h ⟨6, by omega, e.symm⟩
    · exact h ⟨7, by omega, e.symm⟩
    · exact h ⟨8, by omega, e.symm⟩
    · exact h ⟨9, by omega, e.symm⟩
    · exact h ⟨10, by omega, e.symm⟩
    · exact h ⟨11, by omega, e.symm⟩
end Go.Proofs.YtagmdglmflcegaaGreatDoor
/- Layer 14: the document's reading of words. -/
namespace Go.Proofs.YtagmdglmflcegaaGreatDoor
open Go.ChangeShapes Go.WideShapes Go.ChangeAt Go.RowKit
set_option linter.unusedVariables false
set_option maxRecDepth 100000
def ReadRes (s : ByteArray) (e : Ending) : Prop := ∃ (ry rn : Int) (rl : Bool) (rd er : Int), e = .returned (.tuple #[.agg #[.int .i64 (ry), .int .i64 (rn), .bool (rl), .int .i64 (rd)], .int .i64 (er)]) ∧ D14.ReadIs s ry rn rl rd er
theorem ReadRes.mk {s : ByteArray} {ry rn rd er : Int} {rl : Bool} (h : D14.ReadIs s ry rn rl rd er) : ReadRes s (.returned (.tuple #[.agg #[.int .i64 (ry), .int .i64 (rn), .bool (rl), .int .i64 (rd)], .int .i64 (er)])) := ⟨ry, rn, rl, rd, er, rfl, h⟩
set_option maxHeartbeats 8000000 in
theorem ref14_Read_go (s : ByteArray) (hs : s.size ≤ 100000) (w : World) :
    Calls Tryz.prog 14 #[.string s] w fun e w' => ReadRes s e ∧ Below w.heap.size w w' := by
  go_enter Tryz.func14, Tryz.ntmps14
  go_wp2_with fail
  go_loop [4, 5, 6] (fun f t i => ∃ (A B : Int) (k : Nat), k ≤ s.size ∧ f = .int .i64 A ∧ t = .int .i64 B ∧ i = .int .i64 (k : Int) ∧ Hid (D14.Scan (s.data.toList.take k) A B)) (fun _ _ i => s.size - (intOf i).toNat)
  case atStart => exact ⟨-1, -1, 0, Nat.zero_le _, rfl, rfl, rfl, Lib.hid D14.Scan.start⟩
  case round =>
    obtain ⟨A, B, k, hk, rfl, rfl, rfl, HS⟩ := hrel
    have hlen : s.data.toList.length = s.size := by simp
    by_cases hlt : k < s.size
    · have hl : (s.data.toList.take k).length = k := by rw [List.length_take]; omega
      have hts := take_snoc' s k hlt
      have HB := Lib.hid (And.intro hl hts)
      clear hl hts hlen
      by_cases h32 : s[k] = 32
      · have hb : ((s[k].toNat : Int) == 32) = true := by rw [h32]; rfl
        have H32 := Lib.hid h32
        clear h32
        by_cases hA : A < 0
        · have HA := Lib.hid hA
          go_wp2_with fail
          go_round
          case rel => exact ⟨(k : Int), (k : Int), k + 1, by omega, rfl, rfl, by go_num, Lib.hid (by have := HS.out.first HA.out; rw [HB.out.1] at this; rw [HB.out.2, H32.out]; exact this)⟩
          case measure => simp [intOf]; omega
        · have HA := Lib.hid hA
          go_wp2_with fail
          go_round
          case rel => exact ⟨A, (k : Int), k + 1, by omega, rfl, rfl, by go_num, Lib.hid (by have := HS.out.more HA.out; rw [HB.out.1] at this; rw [HB.out.2, H32.out]; exact this)⟩
          case measure => simp [intOf]; omega
      · have hb : ((s[k].toNat : Int) == 32) = false := by
          rw [beq_eq_false_iff_ne]
          intro e
          exact h32 (by rw [← UInt8.toNat_inj]; show s[k].toNat = 32; omega)
        have H32 := Lib.hid h32
        clear h32
        go_wp2_with fail
        go_round
        case rel => exact ⟨A, B, k + 1, by omega, rfl, rfl, by go_num, Lib.hid (by rw [HB.out.2]; exact HS.out.other H32.out)⟩
        case measure => simp [intOf]; omega
    · obtain rfl : k = s.size := by omega
      rw [show s.data.toList.take s.size = s.data.toList from List.take_of_length_le (by omega)] at HS
      have hbd := HS.out.bounds
      clear hlt hk
      by_cases hA : A < 0
      · have HX := Lib.hid (HS.out.no_none hA)
        clear HS hbd hlen
        go_wp2_with fail
        refine bodyPost_ret (v := .tuple #[.agg #[.int .i64 (0), .int .i64 (0), .bool (false), .int .i64 (0)], .int .i64 (5)]) (by simp [results, Tryz.results14, go_sem, *]) rfl ⟨ReadRes.mk (.inl ⟨rfl, rfl, rfl, rfl, rfl, HX.out⟩), ?_⟩
        repeat (first | (with_reducible exact Below.refl _ _) | (with_reducible assumption) | (with_reducible refine bdrew ?_) | (with_reducible refine baa ?_ _) | (with_reducible refine bs ?_ (by first | exact Nat.le_refl _ | omega | (simp; done) | (simp; omega)) _) | (with_reducible refine bt ?_ (by with_reducible assumption)))
      have hA0 : 0 ≤ A := by omega
      obtain ⟨b1, b2, b3⟩ := hbd.2.2.2.2 hA
      rw [hlen] at b3
      clear hbd hlen
      by_cases hAB : A = B
      · have HX := Lib.hid (HS.out.no_one hA hAB)
        clear HS
        subst hAB
        go_wp2_with fail
        refine bodyPost_ret (v := .tuple #[.agg #[.int .i64 (0), .int .i64 (0), .bool (false), .int .i64 (0)], .int .i64 (5)]) (by simp [results, Tryz.results14, go_sem, *]) rfl ⟨ReadRes.mk (.inl ⟨rfl, rfl, rfl, rfl, rfl, HX.out⟩), ?_⟩
        repeat (first | (with_reducible exact Below.refl _ _) | (with_reducible assumption) | (with_reducible refine bdrew ?_) | (with_reducible refine baa ?_ _) | (with_reducible refine bs ?_ (by first | exact Nat.le_refl _ | omega | (simp; done) | (simp; omega)) _) | (with_reducible refine bt ?_ (by with_reducible assumption)))
      obtain ⟨f, rfl⟩ := Int.eq_ofNat_of_zero_le hA0
      obtain ⟨t, rfl⟩ := Int.eq_ofNat_of_zero_le b1
      have hft : f < t := by omega
      have HP := Lib.hid (HS.out.parts hft)
      have k1 : (f : Int) ≤ (s.size : Int) := by omega
      have k2 : (0 : Int) ≤ (f : Int) + 1 := by omega
      have k3 : (f : Int) + 1 ≤ (t : Int) := by omega
      have k4 : (t : Int) ≤ (s.size : Int) := by omega
      have k5 : (0 : Int) ≤ (t : Int) + 1 := by omega
      have k6 : (t : Int) + 1 ≤ (s.size : Int) := by omega
      have k7 : ((f : Int) + 1).toNat = f + 1 := by omega
      have k8 : ((t : Int) + 1).toNat = t + 1 := by omega
      have k9 : ((f : Int) == (t : Int)) = false := by rw [beq_eq_false_iff_ne]; omega
      have z1 : (s.extract 0 f).size ≤ 9223372036854775807 := by simp; omega
      have z3 : (s.extract (t + 1) s.size).size ≤ 9223372036854775807 := by simp; omega
      clear HS hA b1 b2 b3 hAB hft
      generalize e1 : s.extract 0 f = fs at *
      generalize e2 : s.extract (f + 1) t = mt at *
      generalize e3 : s.extract (t + 1) s.size = ls at *
      have HN1 := Lib.hid (fun w => ref14_number fs 2 w (by omega) z1)
      have HN2 := Lib.hid (fun w => ref14_number ls 4 w (by omega) z3)
      clear z1 z3
      obtain ⟨o1, ho1⟩ : ∃ o, nOk fs 2 = o := ⟨_, rfl⟩
      obtain ⟨o2, ho2⟩ : ∃ o, nOk ls 4 = o := ⟨_, rfl⟩
      obtain ⟨v1, hv1⟩ : ∃ v, nVal fs 2 = v := ⟨_, rfl⟩
      obtain ⟨v2, hv2⟩ : ∃ v, nVal ls 4 = v := ⟨_, rfl⟩
      rw [ho1, hv1] at HN1
      rw [ho2, hv2] at HN2
      have HO := Lib.hid (And.intro ho1 (And.intro ho2 (And.intro hv1 hv2)))
      clear ho1 ho2 hv1 hv2
      have hno : (o1 = false ∨ o2 = false) → Hid (¬ ∃ fs mt ls n l, D14.Parts s fs mt ls ∧ nOk fs 2 = true ∧ nOk ls 4 = true ∧ D14.isRow mt n l) := fun h => Lib.hid (by
        rintro ⟨fs', mt', ls', n', l', hp', g1, g2, g3⟩
        obtain ⟨rfl, rfl, rfl⟩ := D14.parts_one HP.out hp'
        rw [HO.out.1] at g1
        rw [HO.out.2.1] at g2
        rcases h with h | h
        · rw [h] at g1; cases g1
        · rw [h] at g2; cases g2)
      cases o1
      · have HX := hno (.inl rfl)
        clear hno HP HO
        go_wp2_with fail
        refine (HN1.out _).mono ?_
        rintro e w' ⟨rfl, rfl⟩
        go_wp2_with fail
        refine (HN2.out _).mono ?_
        rintro e w' ⟨rfl, rfl⟩
        go_wp2_with fail
        refine bodyPost_ret (v := .tuple #[.agg #[.int .i64 (0), .int .i64 (0), .bool (false), .int .i64 (0)], .int .i64 (5)]) (by simp [results, Tryz.results14, go_sem, *]) rfl ⟨ReadRes.mk (.inl ⟨rfl, rfl, rfl, rfl, rfl, HX.out⟩), ?_⟩
        repeat (first | (with_reducible exact Below.refl _ _) | (with_reducible assumption) | (with_reducible refine bdrew ?_) | (with_reducible refine baa ?_ _) | (with_reducible refine bs ?_ (by first | exact Nat.le_refl _ | omega | (simp; done) | (simp; omega)) _) | (with_reducible refine bt ?_ (by with_reducible assumption)))
      cases o2
      · have HX := hno (.inr rfl)
        clear hno HP HO
        go_wp2_with fail
        refine (HN1.out _).mono ?_
        rintro e w' ⟨rfl, rfl⟩
        go_wp2_with fail
        refine (HN2.out _).mono ?_
        rintro e w' ⟨rfl, rfl⟩
        go_wp2_with fail
        refine bodyPost_ret (v := .tuple #[.agg #[.int .i64 (0), .int .i64 (0), .bool (false), .int .i64 (0)], .int .i64 (5)]) (by simp [results, Tryz.results14, go_sem, *]) rfl ⟨ReadRes.mk (.inl ⟨rfl, rfl, rfl, rfl, rfl, HX.out⟩), ?_⟩
        repeat (first | (with_reducible exact Below.refl _ _) | (with_reducible assumption) | (with_reducible refine bdrew ?_) | (with_reducible refine baa ?_ _) | (with_reducible refine bs ?_ (by first | exact Nat.le_refl _ | omega | (simp; done) | (simp; omega)) _) | (with_reducible refine bt ?_ (by with_reducible assumption)))
      clear hno
      have hvb : 0 ≤ v2 ∧ v2 ≤ 99999 := by
        have h9 := HO.out.2.1
        have hv : nVal ls 4 = numFold ls.data.toList := by unfold nVal; rw [if_pos h9]
        unfold nOk at h9
        simp only [Bool.and_eq_true, decide_eq_true_eq] at h9
        have hbd := numFold_bd _ h9.2.2.2
        have hl4 : ls.data.toList.length ≤ 4 := by
          have : ls.data.toList.length = ls.size := by simp
          omega
        have hpw : (10 : Int) ^ ls.data.toList.length ≤ 10000 := by
          generalize ls.data.toList.length = q at hl4
          rcases (show q = 0 ∨ q = 1 ∨ q = 2 ∨ q = 3 ∨ q = 4 by omega) with h | h | h | h | h <;> rw [h] <;> decide
        rw [HO.out.2.2.2] at hv
        omega
      obtain ⟨cn, cl, ce, hC, HC0⟩ := ref14_code mt v2 (by omega) (by omega)
      have HCo := Lib.hid HC0
      have HCI := Lib.hid hC
      have HCk := Lib.hid (fun w => ref10_Check v2 cn cl v1 w ⟨by omega, by omega⟩)
      clear HC0 hC hvb
      by_cases hce : ce = 0
      · have HR : Hid (D14.isRow mt cn cl ∧ (nameV v2 cn cl = mt ∨ mt = ⟨#[65, 100, 97, 114]⟩)) := Lib.hid (by
          rcases HCI.out with ⟨g, _⟩ | ⟨g, _⟩ | ⟨_, g, g2⟩
          · omega
          · omega
          · exact ⟨g, D14.name_same g g2⟩)
        subst hce
        obtain ⟨de, hde⟩ : ∃ v, D10.dateE v2 cn cl v1 = v := ⟨_, rfl⟩
        rw [hde] at HCk
        by_cases h0 : de = 0
        · subst h0
          have HX : Hid (D14.ReadIs s v2 cn cl v1 0) := Lib.hid (by
            refine .inr ⟨fs, mt, ls, cn, cl, HP.out, HO.out.1, HO.out.2.1, HR.out.1, .inr ⟨rfl, HO.out.2.2.2.symm, rfl, rfl, HO.out.2.2.1.symm, ?_, ?_⟩⟩
            · rw [HO.out.2.2.1, HO.out.2.2.2]; exact hde
            · rw [HO.out.2.2.2]; exact HR.out.2)
          clear HR HP HO HCI hde
          go_wp2_with fail
          refine (HN1.out _).mono ?_
          rintro e w' ⟨rfl, rfl⟩
          go_wp2_with fail
          refine (HN2.out _).mono ?_
          rintro e w' ⟨rfl, rfl⟩
          go_wp2_with fail
          refine (HCo.out _).mono ?_
          rintro e w2 ⟨rfl, hb2⟩
          obtain ⟨hc2, hf2⟩ := bcell hb2
          have hz2 := hb2.size
          try simp at hz2
          have hs2x0 : w.heap.size < w2.heap.size := by omega
          have g2x0 : w2.cell? ⟨w.heap.size, 0, none⟩ = some (.int .i64 (0)) := (hc2 _ _ (by first | omega | (simp; done) | (simp; omega))).trans (by first | (with_reducible assumption) | (simp [go_sem]; done) | (simp [go_sem, *]; done) | assumption)
          have g2x1 : w2.cell? ⟨w.heap.size, 1, none⟩ = some (.int .i64 (0)) := (hc2 _ _ (by first | omega | (simp; done) | (simp; omega))).trans (by first | (with_reducible assumption) | (simp [go_sem]; done) | (simp [go_sem, *]; done) | assumption)
          have g2x2 : w2.cell? ⟨w.heap.size, 2, none⟩ = some (.bool (false)) := (hc2 _ _ (by first | omega | (simp; done) | (simp; omega))).trans (by first | (with_reducible assumption) | (simp [go_sem]; done) | (simp [go_sem, *]; done) | assumption)
          have g2x3 : w2.cell? ⟨w.heap.size, 3, none⟩ = some (.int .i64 (0)) := (hc2 _ _ (by first | omega | (simp; done) | (simp; omega))).trans (by first | (with_reducible assumption) | (simp [go_sem]; done) | (simp [go_sem, *]; done) | assumption)
          have z2x0 : w2.frozen? ⟨w.heap.size, 0, none⟩ = false := (hf2 _ _ (by first | omega | (simp; done) | (simp; omega))).trans (by first | (with_reducible assumption) | (simp [go_sem]; done) | (simp [go_sem, *]; done))
          have z2x1 : w2.frozen? ⟨w.heap.size, 1, none⟩ = false := (hf2 _ _ (by first | omega | (simp; done) | (simp; omega))).trans (by first | (with_reducible assumption) | (simp [go_sem]; done) | (simp [go_sem, *]; done))
          have z2x2 : w2.frozen? ⟨w.heap.size, 2, none⟩ = false := (hf2 _ _ (by first | omega | (simp; done) | (simp; omega))).trans (by first | (with_reducible assumption) | (simp [go_sem]; done) | (simp [go_sem, *]; done))
          have z2x3 : w2.frozen? ⟨w.heap.size, 3, none⟩ = false := (hf2 _ _ (by first | omega | (simp; done) | (simp; omega))).trans (by first | (with_reducible assumption) | (simp [go_sem]; done) | (simp [go_sem, *]; done))
          go_wp2_with fail
          have hq5 : w.heap.size < w2.heap.size + 1 + 1 := by omega
          refine (HCk.out _).mono ?_
          rintro e w3 ⟨rfl, hb3⟩
          obtain ⟨hc3, hf3⟩ := bcell hb3
          have hz3 := hb3.size
          try simp at hz3
          have hs3x0 : w.heap.size < w3.heap.size := by omega
          have hs3x1 : (w2.heap.size + 1) < w3.heap.size := by omega
          have g3x0 : w3.cell? ⟨w.heap.size, 0, none⟩ = some (.int .i64 (0)) := (hc3 _ _ (by first | omega | (simp; done) | (simp; omega))).trans (by first | (with_reducible assumption) | (simp [go_sem]; done) | (simp [go_sem, *]; done) | assumption)
          have g3x1 : w3.cell? ⟨w.heap.size, 1, none⟩ = some (.int .i64 (0)) := (hc3 _ _ (by first | omega | (simp; done) | (simp; omega))).trans (by first | (with_reducible assumption) | (simp [go_sem]; done) | (simp [go_sem, *]; done) | assumption)
          have g3x2 : w3.cell? ⟨w.heap.size, 2, none⟩ = some (.bool (false)) := (hc3 _ _ (by first | omega | (simp; done) | (simp; omega))).trans (by first | (with_reducible assumption) | (simp [go_sem]; done) | (simp [go_sem, *]; done) | assumption)
          have g3x3 : w3.cell? ⟨w.heap.size, 3, none⟩ = some (.int .i64 (0)) := (hc3 _ _ (by first | omega | (simp; done) | (simp; omega))).trans (by first | (with_reducible assumption) | (simp [go_sem]; done) | (simp [go_sem, *]; done) | assumption)
          have g3x4 : w3.cell? ⟨(w2.heap.size + 1), 0, none⟩ = some (.int .i64 (v2)) := (hc3 _ _ (by first | omega | (simp; done) | (simp; omega))).trans (by first | (with_reducible assumption) | (simp [go_sem]; done) | (simp [go_sem, *]; done) | assumption)
          have g3x5 : w3.cell? ⟨(w2.heap.size + 1), 1, none⟩ = some (.int .i64 (cn)) := (hc3 _ _ (by first | omega | (simp; done) | (simp; omega))).trans (by first | (with_reducible assumption) | (simp [go_sem]; done) | (simp [go_sem, *]; done) | assumption)
          have g3x6 : w3.cell? ⟨(w2.heap.size + 1), 2, none⟩ = some (.bool (cl)) := (hc3 _ _ (by first | omega | (simp; done) | (simp; omega))).trans (by first | (with_reducible assumption) | (simp [go_sem]; done) | (simp [go_sem, *]; done) | assumption)
          have g3x7 : w3.cell? ⟨(w2.heap.size + 1), 3, none⟩ = some (.int .i64 (v1)) := (hc3 _ _ (by first | omega | (simp; done) | (simp; omega))).trans (by first | (with_reducible assumption) | (simp [go_sem]; done) | (simp [go_sem, *]; done) | assumption)
          have z3x0 : w3.frozen? ⟨w.heap.size, 0, none⟩ = false := (hf3 _ _ (by first | omega | (simp; done) | (simp; omega))).trans (by first | (with_reducible assumption) | (simp [go_sem]; done) | (simp [go_sem, *]; done))
          have z3x1 : w3.frozen? ⟨w.heap.size, 1, none⟩ = false := (hf3 _ _ (by first | omega | (simp; done) | (simp; omega))).trans (by first | (with_reducible assumption) | (simp [go_sem]; done) | (simp [go_sem, *]; done))
          have z3x2 : w3.frozen? ⟨w.heap.size, 2, none⟩ = false := (hf3 _ _ (by first | omega | (simp; done) | (simp; omega))).trans (by first | (with_reducible assumption) | (simp [go_sem]; done) | (simp [go_sem, *]; done))
          have z3x3 : w3.frozen? ⟨w.heap.size, 3, none⟩ = false := (hf3 _ _ (by first | omega | (simp; done) | (simp; omega))).trans (by first | (with_reducible assumption) | (simp [go_sem]; done) | (simp [go_sem, *]; done))
          go_wp2_with fail
          clear hc3
          refine bodyPost_ret (v := .tuple #[.agg #[.int .i64 (v2), .int .i64 (cn), .bool (cl), .int .i64 (v1)], .int .i64 (0)]) (by simp [results, Tryz.results14, go_sem, *]) rfl ⟨ReadRes.mk (HX.out), ?_⟩
          repeat (first | (with_reducible exact Below.refl _ _) | (with_reducible assumption) | (with_reducible refine bdrew ?_) | (with_reducible refine baa ?_ _) | (with_reducible refine bs ?_ (by first | exact Nat.le_refl _ | omega | (simp; done) | (simp; omega)) _) | (with_reducible refine bt ?_ (by with_reducible assumption)))
        · have HX : Hid (D14.ReadIs s 0 0 false 0 2) := Lib.hid (by
            refine .inr ⟨fs, mt, ls, cn, cl, HP.out, HO.out.1, HO.out.2.1, HR.out.1, .inl ⟨rfl, rfl, rfl, rfl, rfl, fun h => h0 ?_⟩⟩
            have := h.1
            rw [HO.out.2.2.1, HO.out.2.2.2] at this
            exact hde.symm.trans this)
          have hne : (de != 0) = true := by simpa using h0
          clear HR HP HO HCI hde h0
          go_wp2_with fail
          refine (HN1.out _).mono ?_
          rintro e w' ⟨rfl, rfl⟩
          go_wp2_with fail
          refine (HN2.out _).mono ?_
          rintro e w' ⟨rfl, rfl⟩
          go_wp2_with fail
          refine (HCo.out _).mono ?_
          rintro e w2 ⟨rfl, hb2⟩
          obtain ⟨hc2, hf2⟩ := bcell hb2
          have hz2 := hb2.size
          try simp at hz2
          have hs2x0 : w.heap.size < w2.heap.size := by omega
          have g2x0 : w2.cell? ⟨w.heap.size, 0, none⟩ = some (.int .i64 (0)) := (hc2 _ _ (by first | omega | (simp; done) | (simp; omega))).trans (by first | (with_reducible assumption) | (simp [go_sem]; done) | (simp [go_sem, *]; done) | assumption)
          have g2x1 : w2.cell? ⟨w.heap.size, 1, none⟩ = some (.int .i64 (0)) := (hc2 _ _ (by first | omega | (simp; done) | (simp; omega))).trans (by first | (with_reducible assumption) | (simp [go_sem]; done) | (simp [go_sem, *]; done) | assumption)
          have g2x2 : w2.cell? ⟨w.heap.size, 2, none⟩ = some (.bool (false)) := (hc2 _ _ (by first | omega | (simp; done) | (simp; omega))).trans (by first | (with_reducible assumption) | (simp [go_sem]; done) | (simp [go_sem, *]; done) | assumption)
          have g2x3 : w2.cell? ⟨w.heap.size, 3, none⟩ = some (.int .i64 (0)) := (hc2 _ _ (by first | omega | (simp; done) | (simp; omega))).trans (by first | (with_reducible assumption) | (simp [go_sem]; done) | (simp [go_sem, *]; done) | assumption)
          have z2x0 : w2.frozen? ⟨w.heap.size, 0, none⟩ = false := (hf2 _ _ (by first | omega | (simp; done) | (simp; omega))).trans (by first | (with_reducible assumption) | (simp [go_sem]; done) | (simp [go_sem, *]; done))
          have z2x1 : w2.frozen? ⟨w.heap.size, 1, none⟩ = false := (hf2 _ _ (by first | omega | (simp; done) | (simp; omega))).trans (by first | (with_reducible assumption) | (simp [go_sem]; done) | (simp [go_sem, *]; done))
          have z2x2 : w2.frozen? ⟨w.heap.size, 2, none⟩ = false := (hf2 _ _ (by first | omega | (simp; done) | (simp; omega))).trans (by first | (with_reducible assumption) | (simp [go_sem]; done) | (simp [go_sem, *]; done))
          have z2x3 : w2.frozen? ⟨w.heap.size, 3, none⟩ = false := (hf2 _ _ (by first | omega | (simp; done) | (simp; omega))).trans (by first | (with_reducible assumption) | (simp [go_sem]; done) | (simp [go_sem, *]; done))
          go_wp2_with fail
          have hq5 : w.heap.size < w2.heap.size + 1 + 1 := by omega
          refine (HCk.out _).mono ?_
          rintro e w3 ⟨rfl, hb3⟩
          obtain ⟨hc3, hf3⟩ := bcell hb3
          have hz3 := hb3.size
          try simp at hz3
          have hs3x0 : w.heap.size < w3.heap.size := by omega
          have hs3x1 : (w2.heap.size + 1) < w3.heap.size := by omega
          have g3x0 : w3.cell? ⟨w.heap.size, 0, none⟩ = some (.int .i64 (0)) := (hc3 _ _ (by first | omega | (simp; done) | (simp; omega))).trans (by first | (with_reducible assumption) | (simp [go_sem]; done) | (simp [go_sem, *]; done) | assumption)
          have g3x1 : w3.cell? ⟨w.heap.size, 1, none⟩ = some (.int .i64 (0)) := (hc3 _ _ (by first | omega | (simp; done) | (simp; omega))).trans (by first | (with_reducible assumption) | (simp [go_sem]; done) | (simp [go_sem, *]; done) | assumption)
          have g3x2 : w3.cell? ⟨w.heap.size, 2, none⟩ = some (.bool (false)) := (hc3 _ _ (by first | omega | (simp; done) | (simp; omega))).trans (by first | (with_reducible assumption) | (simp [go_sem]; done) | (simp [go_sem, *]; done) | assumption)
          have g3x3 : w3.cell? ⟨w.heap.size, 3, none⟩ = some (.int .i64 (0)) := (hc3 _ _ (by first | omega | (simp; done) | (simp; omega))).trans (by first | (with_reducible assumption) | (simp [go_sem]; done) | (simp [go_sem, *]; done) | assumption)
          have g3x4 : w3.cell? ⟨(w2.heap.size + 1), 0, none⟩ = some (.int .i64 (v2)) := (hc3 _ _ (by first | omega | (simp; done) | (simp; omega))).trans (by first | (with_reducible assumption) | (simp [go_sem]; done) | (simp [go_sem, *]; done) | assumption)
          have g3x5 : w3.cell? ⟨(w2.heap.size + 1), 1, none⟩ = some (.int .i64 (cn)) := (hc3 _ _ (by first | omega | (simp; done) | (simp; omega))).trans (by first | (with_reducible assumption) | (simp [go_sem]; done) | (simp [go_sem, *]; done) | assumption)
          have g3x6 : w3.cell? ⟨(w2.heap.size + 1), 2, none⟩ = some (.bool (cl)) := (hc3 _ _ (by first | omega | (simp; done) | (simp; omega))).trans (by first | (with_reducible assumption) | (simp [go_sem]; done) | (simp [go_sem, *]; done) | assumption)
          have g3x7 : w3.cell? ⟨(w2.heap.size + 1), 3, none⟩ = some (.int .i64 (v1)) := (hc3 _ _ (by first | omega | (simp; done) | (simp; omega))).trans (by first | (with_reducible assumption) | (simp [go_sem]; done) | (simp [go_sem, *]; done) | assumption)
          have z3x0 : w3.frozen? ⟨w.heap.size, 0, none⟩ = false := (hf3 _ _ (by first | omega | (simp; done) | (simp; omega))).trans (by first | (with_reducible assumption) | (simp [go_sem]; done) | (simp [go_sem, *]; done))
          have z3x1 : w3.frozen? ⟨w.heap.size, 1, none⟩ = false := (hf3 _ _ (by first | omega | (simp; done) | (simp; omega))).trans (by first | (with_reducible assumption) | (simp [go_sem]; done) | (simp [go_sem, *]; done))
          have z3x2 : w3.frozen? ⟨w.heap.size, 2, none⟩ = false := (hf3 _ _ (by first | omega | (simp; done) | (simp; omega))).trans (by first | (with_reducible assumption) | (simp [go_sem]; done) | (simp [go_sem, *]; done))
          have z3x3 : w3.frozen? ⟨w.heap.size, 3, none⟩ = false := (hf3 _ _ (by first | omega | (simp; done) | (simp; omega))).trans (by first | (with_reducible assumption) | (simp [go_sem]; done) | (simp [go_sem, *]; done))
          go_wp2_with fail
          clear hc3
          refine bodyPost_ret (v := .tuple #[.agg #[.int .i64 (0), .int .i64 (0), .bool (false), .int .i64 (0)], .int .i64 (2)]) (by simp [results, Tryz.results14, go_sem, *]) rfl ⟨ReadRes.mk (HX.out), ?_⟩
          repeat (first | (with_reducible exact Below.refl _ _) | (with_reducible assumption) | (with_reducible refine bdrew ?_) | (with_reducible refine baa ?_ _) | (with_reducible refine bs ?_ (by first | exact Nat.le_refl _ | omega | (simp; done) | (simp; omega)) _) | (with_reducible refine bt ?_ (by with_reducible assumption)))
      · have HX : Hid (D14.ReadIs s 0 0 false 0 ce) := Lib.hid (by
          rcases HCI.out with ⟨rfl, _, _, g⟩ | ⟨rfl, _, _, rfl, g⟩ | ⟨g, _⟩
          · refine .inl ⟨rfl, rfl, rfl, rfl, rfl, ?_⟩
            rintro ⟨fs', mt', ls', n', l', hp', _, _, g3⟩
            obtain ⟨rfl, rfl, rfl⟩ := D14.parts_one HP.out hp'
            exact g _ _ g3
          · refine .inr ⟨fs, _, ls, 6, false, HP.out, HO.out.1, HO.out.2.1, D14.row_II, .inl ⟨rfl, rfl, rfl, rfl, rfl, fun h => ?_⟩⟩
            have := h.2
            rw [HO.out.2.2.2] at this
            exact D14.name_other g this
          · exact absurd g hce)
        have hne : (ce != 0) = true := by simpa using hce
        clear HP HO HCI HCk hce
        go_wp2_with fail
        refine (HN1.out _).mono ?_
        rintro e w' ⟨rfl, rfl⟩
        go_wp2_with fail
        refine (HN2.out _).mono ?_
        rintro e w' ⟨rfl, rfl⟩
        go_wp2_with fail
        refine (HCo.out _).mono ?_
        rintro e w2 ⟨rfl, hb2⟩
        obtain ⟨hc2, hf2⟩ := bcell hb2
        have hz2 := hb2.size
        try simp at hz2
        have hs2x0 : w.heap.size < w2.heap.size := by omega
        have g2x0 : w2.cell? ⟨w.heap.size, 0, none⟩ = some (.int .i64 (0)) := (hc2 _ _ (by first | omega | (simp; done) | (simp; omega))).trans (by first | (with_reducible assumption) | (simp [go_sem]; done) | (simp [go_sem, *]; done) | assumption)
        have g2x1 : w2.cell? ⟨w.heap.size, 1, none⟩ = some (.int .i64 (0)) := (hc2 _ _ (by first | omega | (simp; done) | (simp; omega))).trans (by first | (with_reducible assumption) | (simp [go_sem]; done) | (simp [go_sem, *]; done) | assumption)
        have g2x2 : w2.cell? ⟨w.heap.size, 2, none⟩ = some (.bool (false)) := (hc2 _ _ (by first | omega | (simp; done) | (simp; omega))).trans (by first | (with_reducible assumption) | (simp [go_sem]; done) | (simp [go_sem, *]; done) | assumption)
        have g2x3 : w2.cell? ⟨w.heap.size, 3, none⟩ = some (.int .i64 (0)) := (hc2 _ _ (by first | omega | (simp; done) | (simp; omega))).trans (by first | (with_reducible assumption) | (simp [go_sem]; done) | (simp [go_sem, *]; done) | assumption)
        have z2x0 : w2.frozen? ⟨w.heap.size, 0, none⟩ = false := (hf2 _ _ (by first | omega | (simp; done) | (simp; omega))).trans (by first | (with_reducible assumption) | (simp [go_sem]; done) | (simp [go_sem, *]; done))
        have z2x1 : w2.frozen? ⟨w.heap.size, 1, none⟩ = false := (hf2 _ _ (by first | omega | (simp; done) | (simp; omega))).trans (by first | (with_reducible assumption) | (simp [go_sem]; done) | (simp [go_sem, *]; done))
        have z2x2 : w2.frozen? ⟨w.heap.size, 2, none⟩ = false := (hf2 _ _ (by first | omega | (simp; done) | (simp; omega))).trans (by first | (with_reducible assumption) | (simp [go_sem]; done) | (simp [go_sem, *]; done))
        have z2x3 : w2.frozen? ⟨w.heap.size, 3, none⟩ = false := (hf2 _ _ (by first | omega | (simp; done) | (simp; omega))).trans (by first | (with_reducible assumption) | (simp [go_sem]; done) | (simp [go_sem, *]; done))
        go_wp2_with fail
        clear hc2
        refine bodyPost_ret (v := .tuple #[.agg #[.int .i64 (0), .int .i64 (0), .bool (false), .int .i64 (0)], .int .i64 (ce)]) (by simp [results, Tryz.results14, go_sem, *]) rfl ⟨ReadRes.mk (HX.out), ?_⟩
        repeat (first | (with_reducible exact Below.refl _ _) | (with_reducible assumption) | (with_reducible refine bdrew ?_) | (with_reducible refine baa ?_ _) | (with_reducible refine bs ?_ (by first | exact Nat.le_refl _ | omega | (simp; done) | (simp; omega)) _) | (with_reducible refine bt ?_ (by with_reducible assumption)))
theorem ref14_Read (s : ByteArray) (hs : s.size ≤ 100000) (ry rn : Int) (rl : Bool) (rd er : Int) (hR : D14.ReadIs s ry rn rl rd er) (w : World) :
    Calls Tryz.prog 14 #[.string s] w fun e w' => e = .returned (.tuple #[.agg #[.int .i64 (ry), .int .i64 (rn), .bool (rl), .int .i64 (rd)], .int .i64 (er)]) ∧ Below w.heap.size w w' := by
  refine (ref14_Read_go s hs w).mono ?_
  rintro e w' ⟨⟨qy, qn, ql, qd, qe, rfl, h⟩, hB⟩
  obtain ⟨rfl, rfl, rfl, rfl, rfl⟩ := hR.one h
  exact ⟨rfl, hB⟩
end Go.Proofs.YtagmdglmflcegaaGreatDoor
/- Layer 14: the walk of NameTells, by its calls' contracts. -/
namespace Go.Proofs.YtagmdglmflcegaaGreatDoor
open Go.ChangeShapes Go.WideShapes Go.ChangeAt Go.RowKit
set_option linter.unusedVariables false
set_option maxRecDepth 100000
set_option maxHeartbeats 4000000 in
theorem NameTells_long (y n : Int) (l : Bool) (d : Int) (s : ByteArray) (w : World) (hT : Tab w 2 kevCells) (hL : Tab w 3 lenCells) (hN : Tab w 0 nameCells) (hI : Lib.TabIs Tryz.prog w "internal/strconv.uint64pow10" .u64 Lib.pow10Tab) (m : Int) (hm : MaxAt w m) (h100 : (100 : Int) < (s.size : Int)) (HW : Hid (∀ w : World, Tab w 2 kevCells → Tab w 3 lenCells → Tab w 0 nameCells → Lib.TabIs Tryz.prog w "internal/strconv.uint64pow10" .u64 Lib.pow10Tab → MaxAt w m → Calls Tryz.prog 8 #[] w fun e w' => e = .returned (.bool true) ∧ Below w.heap.size w w')) :
    Calls Tryz.prog 3 #[.agg #[.int .i64 (y), .int .i64 (n), .bool (l), .int .i64 (d)], .string s] w fun e w' => e = .returned (.bool true) ∧ Below w.heap.size w w' := by
  go_enter Tryz.func3, Tryz.ntmps3
  go_wp2_with fail
  refine (HW.out _ (Tab.below hT (by repeat (first | (with_reducible exact Below.refl _ _) | (with_reducible assumption) | (with_reducible refine bdrew ?_) | (with_reducible refine baa ?_ _) | (with_reducible refine bs ?_ (by first | exact Nat.le_refl _ | omega | (simp; done) | (simp; omega)) _) | (with_reducible refine bt ?_ (by with_reducible assumption))))) (Tab.below hL (by repeat (first | (with_reducible exact Below.refl _ _) | (with_reducible assumption) | (with_reducible refine bdrew ?_) | (with_reducible refine baa ?_ _) | (with_reducible refine bs ?_ (by first | exact Nat.le_refl _ | omega | (simp; done) | (simp; omega)) _) | (with_reducible refine bt ?_ (by with_reducible assumption))))) (Tab.below hN (by repeat (first | (with_reducible exact Below.refl _ _) | (with_reducible assumption) | (with_reducible refine bdrew ?_) | (with_reducible refine baa ?_ _) | (with_reducible refine bs ?_ (by first | exact Nat.le_refl _ | omega | (simp; done) | (simp; omega)) _) | (with_reducible refine bt ?_ (by with_reducible assumption))))) (pow_stays hI (by repeat (first | (with_reducible exact Below.refl _ _) | (with_reducible assumption) | (with_reducible refine bdrew ?_) | (with_reducible refine baa ?_ _) | (with_reducible refine bs ?_ (by first | exact Nat.le_refl _ | omega | (simp; done) | (simp; omega)) _) | (with_reducible refine bt ?_ (by with_reducible assumption))))) (MaxAt.below hm (by repeat (first | (with_reducible exact Below.refl _ _) | (with_reducible assumption) | (with_reducible refine bdrew ?_) | (with_reducible refine baa ?_ _) | (with_reducible refine bs ?_ (by first | exact Nat.le_refl _ | omega | (simp; done) | (simp; omega)) _) | (with_reducible refine bt ?_ (by with_reducible assumption)))))).mono ?_
  rintro e w1 ⟨rfl, hb1⟩
  obtain ⟨hc1, hf1⟩ := bcell hb1
  have hz1 := hb1.size
  try simp at hz1
  go_wp2_with fail
  go_ret
  refine ⟨by first | rfl | (simp [*]; done), ?_⟩
  repeat (first | (with_reducible exact Below.refl _ _) | (with_reducible assumption) | (with_reducible refine bdrew ?_) | (with_reducible refine baa ?_ _) | (with_reducible refine bs ?_ (by first | exact Nat.le_refl _ | omega | (simp; done) | (simp; omega)) _) | (with_reducible refine bt ?_ (by with_reducible assumption)))
set_option maxHeartbeats 8000000 in
theorem NameTells_go (y n : Int) (l : Bool) (d : Int) (s a b : ByteArray) (e1 e2 f hy hn : Int) (hl : Bool) (hd : Int) (w : World) (hT : Tab w 2 kevCells) (hL : Tab w 3 lenCells) (hN : Tab w 0 nameCells) (hI : Lib.TabIs Tryz.prog w "internal/strconv.uint64pow10" .u64 Lib.pow10Tab) (m : Int) (hm : MaxAt w m) (h100 : ¬ (100 : Int) < (s.size : Int)) (HW : Hid (∀ w : World, Tab w 2 kevCells → Tab w 3 lenCells → Tab w 0 nameCells → Lib.TabIs Tryz.prog w "internal/strconv.uint64pow10" .u64 Lib.pow10Tab → MaxAt w m → Calls Tryz.prog 8 #[] w fun e w' => e = .returned (.bool true) ∧ Below w.heap.size w w'))
    (HA : Hid (∀ w : World, Tab w 2 kevCells → Tab w 3 lenCells → Tab w 0 nameCells → Calls Tryz.prog 9 #[.int .i64 (y), .agg #[.int .i64 (n), .bool (l)]] w fun e w' => e = .returned (.tuple #[.string a, .int .i64 (e1)]) ∧ Below w.heap.size w w')) (HA2 : Hid (∀ w : World, Calls Tryz.prog 10 #[.int .i64 (y), .agg #[.int .i64 (n), .bool (l)]] w fun e w' => e = .returned (.tuple #[.string a, .int .i64 (e1)]) ∧ Below w.heap.size w w'))
    (HB : Hid (∀ w : World, Tab w 2 kevCells → Tab w 3 lenCells → Tab w 0 nameCells → Lib.TabIs Tryz.prog w "internal/strconv.uint64pow10" .u64 Lib.pow10Tab → Calls Tryz.prog 11 #[.agg #[.int .i64 (y), .int .i64 (n), .bool (l), .int .i64 (d)]] w fun e w' => e = .returned (.tuple #[.string b, .int .i64 (e2)]) ∧ Below w.heap.size w w')) (HB2 : Hid (∀ w : World, Calls Tryz.prog 12 #[.agg #[.int .i64 (y), .int .i64 (n), .bool (l), .int .i64 (d)]] w fun e w' => e = .returned (.tuple #[.string b, .int .i64 (e2)]) ∧ Below w.heap.size w w'))
    (HR : Hid (∀ w : World, Tab w 2 kevCells → Tab w 3 lenCells → Tab w 0 nameCells → MaxAt w m → Calls Tryz.prog 13 #[.string s] w fun e w' => e = .returned (.tuple #[.agg #[.int .i64 (hy), .int .i64 (hn), .bool (hl), .int .i64 (hd)], .int .i64 (f)]) ∧ Below w.heap.size w w')) (HR2 : Hid (∀ w : World, Calls Tryz.prog 14 #[.string s] w fun e w' => e = .returned (.tuple #[.agg #[.int .i64 (hy), .int .i64 (hn), .bool (hl), .int .i64 (hd)], .int .i64 (f)]) ∧ Below w.heap.size w w')) :
    Calls Tryz.prog 3 #[.agg #[.int .i64 (y), .int .i64 (n), .bool (l), .int .i64 (d)], .string s] w fun e w' => e = .returned (.bool true) ∧ Below w.heap.size w w' := by
  go_enter Tryz.func3, Tryz.ntmps3
  go_wp2_with fail
  refine (HA.out _ (Tab.below hT (by repeat (first | (with_reducible exact Below.refl _ _) | (with_reducible assumption) | (with_reducible refine bdrew ?_) | (with_reducible refine baa ?_ _) | (with_reducible refine bs ?_ (by first | exact Nat.le_refl _ | omega | (simp; done) | (simp; omega)) _) | (with_reducible refine bt ?_ (by with_reducible assumption))))) (Tab.below hL (by repeat (first | (with_reducible exact Below.refl _ _) | (with_reducible assumption) | (with_reducible refine bdrew ?_) | (with_reducible refine baa ?_ _) | (with_reducible refine bs ?_ (by first | exact Nat.le_refl _ | omega | (simp; done) | (simp; omega)) _) | (with_reducible refine bt ?_ (by with_reducible assumption))))) (Tab.below hN (by repeat (first | (with_reducible exact Below.refl _ _) | (with_reducible assumption) | (with_reducible refine bdrew ?_) | (with_reducible refine baa ?_ _) | (with_reducible refine bs ?_ (by first | exact Nat.le_refl _ | omega | (simp; done) | (simp; omega)) _) | (with_reducible refine bt ?_ (by with_reducible assumption)))))).mono ?_
  rintro e w1 ⟨rfl, hb1⟩
  obtain ⟨hc1, hf1⟩ := bcell hb1
  have hz1 := hb1.size
  try simp at hz1
  have hl1w : w.heap.size < w1.heap.size := by omega
  have hm1w : w.heap.size ≤ w1.heap.size := by omega
  have g1x0 : w1.cell? ⟨w.heap.size, 0, none⟩ = some (.int .i64 (y)) := (hc1 _ _ (by first | omega | (simp; done) | (simp; omega))).trans (by first | (with_reducible assumption) | (simp [go_sem]; done) | (simp [go_sem, *]; done) | assumption)
  have g1x1 : w1.cell? ⟨w.heap.size, 1, none⟩ = some (.int .i64 (n)) := (hc1 _ _ (by first | omega | (simp; done) | (simp; omega))).trans (by first | (with_reducible assumption) | (simp [go_sem]; done) | (simp [go_sem, *]; done) | assumption)
  have g1x2 : w1.cell? ⟨w.heap.size, 2, none⟩ = some (.bool (l)) := (hc1 _ _ (by first | omega | (simp; done) | (simp; omega))).trans (by first | (with_reducible assumption) | (simp [go_sem]; done) | (simp [go_sem, *]; done) | assumption)
  have g1x3 : w1.cell? ⟨w.heap.size, 3, none⟩ = some (.int .i64 (d)) := (hc1 _ _ (by first | omega | (simp; done) | (simp; omega))).trans (by first | (with_reducible assumption) | (simp [go_sem]; done) | (simp [go_sem, *]; done) | assumption)
  go_wp2_with fail
  refine (HA2.out _).mono ?_
  rintro e w2 ⟨rfl, hb2⟩
  obtain ⟨hc2, hf2⟩ := bcell hb2
  have hz2 := hb2.size
  try simp at hz2
  have hl2w : w.heap.size < w2.heap.size := by omega
  have hm2w : w.heap.size ≤ w2.heap.size := by omega
  have g2x0 : w2.cell? ⟨w.heap.size, 0, none⟩ = some (.int .i64 (y)) := (hc2 _ _ (by first | omega | (simp; done) | (simp; omega))).trans (by first | (with_reducible assumption) | (simp [go_sem]; done) | (simp [go_sem, *]; done) | assumption)
  have g2x1 : w2.cell? ⟨w.heap.size, 1, none⟩ = some (.int .i64 (n)) := (hc2 _ _ (by first | omega | (simp; done) | (simp; omega))).trans (by first | (with_reducible assumption) | (simp [go_sem]; done) | (simp [go_sem, *]; done) | assumption)
  have g2x2 : w2.cell? ⟨w.heap.size, 2, none⟩ = some (.bool (l)) := (hc2 _ _ (by first | omega | (simp; done) | (simp; omega))).trans (by first | (with_reducible assumption) | (simp [go_sem]; done) | (simp [go_sem, *]; done) | assumption)
  have g2x3 : w2.cell? ⟨w.heap.size, 3, none⟩ = some (.int .i64 (d)) := (hc2 _ _ (by first | omega | (simp; done) | (simp; omega))).trans (by first | (with_reducible assumption) | (simp [go_sem]; done) | (simp [go_sem, *]; done) | assumption)
  go_wp2_with fail
  refine (HB.out _ (Tab.below hT (by repeat (first | (with_reducible exact Below.refl _ _) | (with_reducible assumption) | (with_reducible refine bdrew ?_) | (with_reducible refine baa ?_ _) | (with_reducible refine bs ?_ (by first | exact Nat.le_refl _ | omega | (simp; done) | (simp; omega)) _) | (with_reducible refine bt ?_ (by with_reducible assumption))))) (Tab.below hL (by repeat (first | (with_reducible exact Below.refl _ _) | (with_reducible assumption) | (with_reducible refine bdrew ?_) | (with_reducible refine baa ?_ _) | (with_reducible refine bs ?_ (by first | exact Nat.le_refl _ | omega | (simp; done) | (simp; omega)) _) | (with_reducible refine bt ?_ (by with_reducible assumption))))) (Tab.below hN (by repeat (first | (with_reducible exact Below.refl _ _) | (with_reducible assumption) | (with_reducible refine bdrew ?_) | (with_reducible refine baa ?_ _) | (with_reducible refine bs ?_ (by first | exact Nat.le_refl _ | omega | (simp; done) | (simp; omega)) _) | (with_reducible refine bt ?_ (by with_reducible assumption))))) (pow_stays hI (by repeat (first | (with_reducible exact Below.refl _ _) | (with_reducible assumption) | (with_reducible refine bdrew ?_) | (with_reducible refine baa ?_ _) | (with_reducible refine bs ?_ (by first | exact Nat.le_refl _ | omega | (simp; done) | (simp; omega)) _) | (with_reducible refine bt ?_ (by with_reducible assumption)))))).mono ?_
  rintro e w3 ⟨rfl, hb3⟩
  obtain ⟨hc3, hf3⟩ := bcell hb3
  have hz3 := hb3.size
  try simp at hz3
  have hl3w : w.heap.size < w3.heap.size := by omega
  have hm3w : w.heap.size ≤ w3.heap.size := by omega
  have g3x0 : w3.cell? ⟨w.heap.size, 0, none⟩ = some (.int .i64 (y)) := (hc3 _ _ (by first | omega | (simp; done) | (simp; omega))).trans (by first | (with_reducible assumption) | (simp [go_sem]; done) | (simp [go_sem, *]; done) | assumption)
  have g3x1 : w3.cell? ⟨w.heap.size, 1, none⟩ = some (.int .i64 (n)) := (hc3 _ _ (by first | omega | (simp; done) | (simp; omega))).trans (by first | (with_reducible assumption) | (simp [go_sem]; done) | (simp [go_sem, *]; done) | assumption)
  have g3x2 : w3.cell? ⟨w.heap.size, 2, none⟩ = some (.bool (l)) := (hc3 _ _ (by first | omega | (simp; done) | (simp; omega))).trans (by first | (with_reducible assumption) | (simp [go_sem]; done) | (simp [go_sem, *]; done) | assumption)
  have g3x3 : w3.cell? ⟨w.heap.size, 3, none⟩ = some (.int .i64 (d)) := (hc3 _ _ (by first | omega | (simp; done) | (simp; omega))).trans (by first | (with_reducible assumption) | (simp [go_sem]; done) | (simp [go_sem, *]; done) | assumption)
  go_wp2_with fail
  refine (HB2.out _).mono ?_
  rintro e w4 ⟨rfl, hb4⟩
  obtain ⟨hc4, hf4⟩ := bcell hb4
  have hz4 := hb4.size
  try simp at hz4
  have hl4w : w.heap.size < w4.heap.size := by omega
  have hm4w : w.heap.size ≤ w4.heap.size := by omega
  have g4x0 : w4.cell? ⟨w.heap.size, 0, none⟩ = some (.int .i64 (y)) := (hc4 _ _ (by first | omega | (simp; done) | (simp; omega))).trans (by first | (with_reducible assumption) | (simp [go_sem]; done) | (simp [go_sem, *]; done) | assumption)
  have g4x1 : w4.cell? ⟨w.heap.size, 1, none⟩ = some (.int .i64 (n)) := (hc4 _ _ (by first | omega | (simp; done) | (simp; omega))).trans (by first | (with_reducible assumption) | (simp [go_sem]; done) | (simp [go_sem, *]; done) | assumption)
  have g4x2 : w4.cell? ⟨w.heap.size, 2, none⟩ = some (.bool (l)) := (hc4 _ _ (by first | omega | (simp; done) | (simp; omega))).trans (by first | (with_reducible assumption) | (simp [go_sem]; done) | (simp [go_sem, *]; done) | assumption)
  have g4x3 : w4.cell? ⟨w.heap.size, 3, none⟩ = some (.int .i64 (d)) := (hc4 _ _ (by first | omega | (simp; done) | (simp; omega))).trans (by first | (with_reducible assumption) | (simp [go_sem]; done) | (simp [go_sem, *]; done) | assumption)
  go_wp2_with fail
  refine (HR.out _ (Tab.below hT (by repeat (first | (with_reducible exact Below.refl _ _) | (with_reducible assumption) | (with_reducible refine bdrew ?_) | (with_reducible refine baa ?_ _) | (with_reducible refine bs ?_ (by first | exact Nat.le_refl _ | omega | (simp; done) | (simp; omega)) _) | (with_reducible refine bt ?_ (by with_reducible assumption))))) (Tab.below hL (by repeat (first | (with_reducible exact Below.refl _ _) | (with_reducible assumption) | (with_reducible refine bdrew ?_) | (with_reducible refine baa ?_ _) | (with_reducible refine bs ?_ (by first | exact Nat.le_refl _ | omega | (simp; done) | (simp; omega)) _) | (with_reducible refine bt ?_ (by with_reducible assumption))))) (Tab.below hN (by repeat (first | (with_reducible exact Below.refl _ _) | (with_reducible assumption) | (with_reducible refine bdrew ?_) | (with_reducible refine baa ?_ _) | (with_reducible refine bs ?_ (by first | exact Nat.le_refl _ | omega | (simp; done) | (simp; omega)) _) | (with_reducible refine bt ?_ (by with_reducible assumption))))) (MaxAt.below hm (by repeat (first | (with_reducible exact Below.refl _ _) | (with_reducible assumption) | (with_reducible refine bdrew ?_) | (with_reducible refine baa ?_ _) | (with_reducible refine bs ?_ (by first | exact Nat.le_refl _ | omega | (simp; done) | (simp; omega)) _) | (with_reducible refine bt ?_ (by with_reducible assumption)))))).mono ?_
  rintro e w5 ⟨rfl, hb5⟩
  obtain ⟨hc5, hf5⟩ := bcell hb5
  have hz5 := hb5.size
  try simp at hz5
  go_wp2_with fail
  refine (HR2.out _).mono ?_
  rintro e w6 ⟨rfl, hb6⟩
  obtain ⟨hc6, hf6⟩ := bcell hb6
  have hz6 := hb6.size
  try simp at hz6
  have hl6w5 : w5.heap.size < w6.heap.size := by omega
  have hm6w5 : w5.heap.size ≤ w6.heap.size := by omega
  have g6x0 : w6.cell? ⟨w5.heap.size, 0, none⟩ = some (.int .i64 (hy)) := (hc6 _ _ (by first | omega | (simp; done) | (simp; omega))).trans (by first | (with_reducible assumption) | (simp [go_sem]; done) | (simp [go_sem, *]; done) | assumption)
  have g6x1 : w6.cell? ⟨w5.heap.size, 1, none⟩ = some (.int .i64 (hn)) := (hc6 _ _ (by first | omega | (simp; done) | (simp; omega))).trans (by first | (with_reducible assumption) | (simp [go_sem]; done) | (simp [go_sem, *]; done) | assumption)
  have g6x2 : w6.cell? ⟨w5.heap.size, 2, none⟩ = some (.bool (hl)) := (hc6 _ _ (by first | omega | (simp; done) | (simp; omega))).trans (by first | (with_reducible assumption) | (simp [go_sem]; done) | (simp [go_sem, *]; done) | assumption)
  have g6x3 : w6.cell? ⟨w5.heap.size, 3, none⟩ = some (.int .i64 (hd)) := (hc6 _ _ (by first | omega | (simp; done) | (simp; omega))).trans (by first | (with_reducible assumption) | (simp [go_sem]; done) | (simp [go_sem, *]; done) | assumption)
  go_wp2_with fail
  refine (HW.out _ (Tab.below hT (by repeat (first | (with_reducible exact Below.refl _ _) | (with_reducible assumption) | (with_reducible refine bdrew ?_) | (with_reducible refine baa ?_ _) | (with_reducible refine bs ?_ (by first | exact Nat.le_refl _ | omega | (simp; done) | (simp; omega)) _) | (with_reducible refine bt ?_ (by with_reducible assumption))))) (Tab.below hL (by repeat (first | (with_reducible exact Below.refl _ _) | (with_reducible assumption) | (with_reducible refine bdrew ?_) | (with_reducible refine baa ?_ _) | (with_reducible refine bs ?_ (by first | exact Nat.le_refl _ | omega | (simp; done) | (simp; omega)) _) | (with_reducible refine bt ?_ (by with_reducible assumption))))) (Tab.below hN (by repeat (first | (with_reducible exact Below.refl _ _) | (with_reducible assumption) | (with_reducible refine bdrew ?_) | (with_reducible refine baa ?_ _) | (with_reducible refine bs ?_ (by first | exact Nat.le_refl _ | omega | (simp; done) | (simp; omega)) _) | (with_reducible refine bt ?_ (by with_reducible assumption))))) (pow_stays hI (by repeat (first | (with_reducible exact Below.refl _ _) | (with_reducible assumption) | (with_reducible refine bdrew ?_) | (with_reducible refine baa ?_ _) | (with_reducible refine bs ?_ (by first | exact Nat.le_refl _ | omega | (simp; done) | (simp; omega)) _) | (with_reducible refine bt ?_ (by with_reducible assumption))))) (MaxAt.below hm (by repeat (first | (with_reducible exact Below.refl _ _) | (with_reducible assumption) | (with_reducible refine bdrew ?_) | (with_reducible refine baa ?_ _) | (with_reducible refine bs ?_ (by first | exact Nat.le_refl _ | omega | (simp; done) | (simp; omega)) _) | (with_reducible refine bt ?_ (by with_reducible assumption)))))).mono ?_
  rintro e w7 ⟨rfl, hb7⟩
  obtain ⟨hc7, hf7⟩ := bcell hb7
  have hz7 := hb7.size
  try simp at hz7
  have hl7w5 : w5.heap.size < w7.heap.size := by omega
  have hm7w5 : w5.heap.size ≤ w7.heap.size := by omega
  have hl7w6 : w6.heap.size < w7.heap.size := by omega
  have hm7w6 : w6.heap.size ≤ w7.heap.size := by omega
  have g7x0 : w7.cell? ⟨w5.heap.size, 0, none⟩ = some (.int .i64 (hy)) := (hc7 _ _ (by first | omega | (simp; done) | (simp; omega))).trans (by first | (with_reducible assumption) | (simp [go_sem]; done) | (simp [go_sem, *]; done) | assumption)
  have g7x1 : w7.cell? ⟨w5.heap.size, 1, none⟩ = some (.int .i64 (hn)) := (hc7 _ _ (by first | omega | (simp; done) | (simp; omega))).trans (by first | (with_reducible assumption) | (simp [go_sem]; done) | (simp [go_sem, *]; done) | assumption)
  have g7x2 : w7.cell? ⟨w5.heap.size, 2, none⟩ = some (.bool (hl)) := (hc7 _ _ (by first | omega | (simp; done) | (simp; omega))).trans (by first | (with_reducible assumption) | (simp [go_sem]; done) | (simp [go_sem, *]; done) | assumption)
  have g7x3 : w7.cell? ⟨w5.heap.size, 3, none⟩ = some (.int .i64 (hd)) := (hc7 _ _ (by first | omega | (simp; done) | (simp; omega))).trans (by first | (with_reducible assumption) | (simp [go_sem]; done) | (simp [go_sem, *]; done) | assumption)
  have g7x4 : w7.cell? ⟨w6.heap.size, 0, none⟩ = some (.int .i64 (hy)) := (hc7 _ _ (by first | omega | (simp; done) | (simp; omega))).trans (by first | (with_reducible assumption) | (simp [go_sem]; done) | (simp [go_sem, *]; done) | assumption)
  have g7x5 : w7.cell? ⟨w6.heap.size, 1, none⟩ = some (.int .i64 (hn)) := (hc7 _ _ (by first | omega | (simp; done) | (simp; omega))).trans (by first | (with_reducible assumption) | (simp [go_sem]; done) | (simp [go_sem, *]; done) | assumption)
  have g7x6 : w7.cell? ⟨w6.heap.size, 2, none⟩ = some (.bool (hl)) := (hc7 _ _ (by first | omega | (simp; done) | (simp; omega))).trans (by first | (with_reducible assumption) | (simp [go_sem]; done) | (simp [go_sem, *]; done) | assumption)
  have g7x7 : w7.cell? ⟨w6.heap.size, 3, none⟩ = some (.int .i64 (hd)) := (hc7 _ _ (by first | omega | (simp; done) | (simp; omega))).trans (by first | (with_reducible assumption) | (simp [go_sem]; done) | (simp [go_sem, *]; done) | assumption)
  go_wp2_with fail
  go_ret
  refine ⟨by first | rfl | (simp [*]; done), ?_⟩
  repeat (first | (with_reducible exact Below.refl _ _) | (with_reducible assumption) | (with_reducible refine bdrew ?_) | (with_reducible refine baa ?_ _) | (with_reducible refine bs ?_ (by first | exact Nat.le_refl _ | omega | (simp; done) | (simp; omega)) _) | (with_reducible refine bt ?_ (by with_reducible assumption)))
theorem NameTells_walk (y n : Int) (l : Bool) (d : Int) (s : ByteArray) (hy : I64 y) (hn : I64 n) (hd : I64 d) (hsz : s.size ≤ maxLen) (m : Int) (w : World) (hm : MaxAt w m) (hT : Tab w 2 kevCells) (hL : Tab w 3 lenCells) (hI : Lib.TabIs Tryz.prog w "internal/strconv.uint64pow10" .u64 Lib.pow10Tab) (hN : Tab w 0 nameCells) :
    Calls Tryz.prog 3 #[.agg #[.int .i64 (y), .int .i64 (n), .bool (l), .int .i64 (d)], .string s] w fun e w' => e = .returned (.bool true) ∧ Below w.heap.size w w' := by
  have HW := Lib.hid (fun w hT hL hN hI hm => awake14 w hT hL hN hI m hm)
  by_cases h100 : (100 : Int) < (s.size : Int)
  · exact NameTells_long y n l d s w hT hL hN hI m hm h100 HW
  have hs : s.size ≤ 100000 := by omega
  obtain ⟨ry, rn, rl, rd, er, hR, hc⟩ := name_Read s hs m
  exact NameTells_go y n l d s _ _ _ _ er ry rn rl rd w hT hL hN hI m hm h100 HW
    (Lib.hid (fun w hT hL hN => name_Month y n l w hy hT hL hN)) (Lib.hid (fun w => ref14_Month y n l w hy))
    (Lib.hid (fun w hT hL hN hI => name_Print y n l d w hy hd hT hL hN hI)) (Lib.hid (fun w => ref14_Print y n l d w hy hd))
    (Lib.hid (fun w hT hL hN hm => hc w hT hL hN hm)) (Lib.hid (fun w => ref14_Read s hs ry rn rl rd er hR w))
end Go.Proofs.YtagmdglmflcegaaGreatDoor
