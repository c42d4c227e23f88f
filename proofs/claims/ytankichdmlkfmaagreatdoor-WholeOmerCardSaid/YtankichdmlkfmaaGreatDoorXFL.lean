import Derived.Test.YtankichdmlkfmaaGreatDoorXBB
import Derived.WalkKit
import Derived.ProofKit
import Derived.OpenShut
import Derived.LaidMore
import Derived.MakeChecks
import Derived.Lib.LaidTab
set_option maxHeartbeats 8000000
set_option maxRecDepth 100000
set_option linter.unusedVariables false
namespace Go.Proofs.YtankichdmlkfmaaGreatDoor
open Go.ChangeShapes Go.WideShapes Go.ChangeAt Go.RowKit
def offsOk (P : Program) : Nat → List Field → Option Nat
 | o, [] => some o
 | o, f :: fs => if f.offset = o then offsOk P (o + P.cellsOf f.type) fs else none
def plainTy (P : Program) : Nat → TypeId → Bool
 | 0, _ => false
 | n + 1, t => match P.underlying t with
  | some (.int _) => true
  | some .bool => true
  | some .string => true
  | some (.array k e) => plainTy P n e && decide (P.cellsOf t = k * P.cellsOf e)
  | some (.struct fs) => fs.toList.all (fun f => plainTy P n f.type) && decide (offsOk P 0 fs.toList = some (P.cellsOf t))
  | _ => false
theorem flat_pieces (c : Nat) : ∀ (xs : List (DataW Unit × List MemPlace)) (cs : List Value), cs.length = xs.length * c → (∀ i x, xs[i]? = some x → (cs.drop (i * c)).take c = flat x.1) → cs = flatAll (xs.map (·.1))
 | [], cs, hl, _ => by
  have : cs = [] := List.eq_nil_of_length_eq_zero (by simpa using hl)
  subst this
  rfl
 | x :: xs, cs, hl, h => by
  have h0 := h 0 x rfl
  simp only [Nat.zero_mul, List.drop_zero] at h0
  have hr := flat_pieces c xs (cs.drop c) (by rw [List.length_drop, hl, List.length_cons, Nat.succ_mul]; omega) (fun i y hy => by
   have := h (i + 1) y (by simpa using hy)
   rwa [List.drop_drop, Nat.add_comm c, ← Nat.succ_mul])
  show cs = flat x.1 ++ flatAll (xs.map (·.1))
  rw [← h0, ← hr, List.take_append_drop]
theorem flat_fields (P : Program) : ∀ (fs : List Field) (xs : List (DataW Unit × List MemPlace)) (o e : Nat) (cs : List Value), offsOk P o fs = some e → cs.length = e → xs.length = fs.length →
  (∀ (i : Nat) f x, fs[i]? = some f → xs[i]? = some x → (cs.drop f.offset).take (P.cellsOf f.type) = flat x.1) → cs.drop o = flatAll (xs.map (·.1))
 | [], xs, o, e, cs, ho, hl, hn, _ => by
  have hx : xs = [] := List.eq_nil_of_length_eq_zero (by simpa using hn)
  subst hx
  simp only [offsOk, Option.some.injEq] at ho
  subst ho
  rw [List.drop_eq_nil_of_le (by omega)]
  rfl
 | f :: fs, [], _, _, _, _, _, hn, _ => by simp at hn
 | f :: fs, x :: xs, o, e, cs, ho, hl, hn, h => by
  simp only [offsOk] at ho
  split at ho
  ·rename_i hf
   have h0 := h 0 f x rfl rfl
   rw [hf] at h0
   have hr := flat_fields P fs xs _ e cs ho hl (by simpa using hn) (fun i g y hg hy => h (i + 1) g y (by simpa using hg) (by simpa using hy))
   show cs.drop o = flat x.1 ++ flatAll (xs.map (·.1))
   rw [← h0, ← hr, ← List.drop_drop, List.take_append_drop]
  ·cases ho
theorem flat_of_trod {P : Program} {w : World} {base : Nat} {sp : Nat → Bool} {held : Bool} {enc : TypeId × Value → Unit} : ∀ (n fuel : Nat) (t : TypeId) (cs : List Value) (x : DataW Unit × List MemPlace), plainTy P n t = true → DataW.trod enc P w base sp held fuel t cs = some x → cs = flat x.1
 | 0, _, _, _, _, hp, _ => by simp [plainTy] at hp
 | n + 1, fuel, t, cs, x, hp, h => by
  simp only [plainTy] at hp
  split at hp
  ·rename_i k hu
   obtain ⟨z, rfl, rfl, _⟩ := DataW.trod_int hu h
   rfl
  ·rename_i hu
   obtain ⟨z, rfl, rfl⟩ := DataW.trod_bool hu h
   rfl
  ·rename_i hu
   obtain ⟨z, rfl, rfl, _⟩ := DataW.trod_string hu h
   rfl
  ·rename_i k e hu
   rw [Bool.and_eq_true, decide_eq_true_eq] at hp
   obtain ⟨xs, m, _, rfl, hl, hn, hg⟩ := DataW.trod_array hu h
   refine flat_pieces (P.cellsOf e) xs cs (by rw [hl, hp.2, hn]) (fun i y hy => ?_)
   have hi : i < k := by rw [← hn]; exact (List.getElem?_eq_some_iff.1 hy).1
   exact flat_of_trod n m e _ y hp.1 ((hg i hi).trans hy)
  ·rename_i fs hu
   rw [Bool.and_eq_true, decide_eq_true_eq] at hp
   obtain ⟨xs, m, _, rfl, hl, hn, hg⟩ := DataW.trod_struct hu h
   have := flat_fields P fs.toList xs 0 _ cs hp.2 hl (by simpa using hn) (fun i f y hf hy =>
    flat_of_trod n m f.type _ y (List.all_eq_true.1 hp.1 f (List.mem_of_getElem? hf)) ((hg i f (by simpa using hf)).trans hy))
   rw [List.drop_zero] at this
   exact this
  ·cases hp
def Tabs (P : Program) (w : World) : List (String × DataW Unit) → Prop
 | [] => True
 | (n, d) :: r => (∀ g, P.globalNamed n = some g → Tab w g (flat d)) ∧ Tabs P w r
def tabOk (P : Program) (x : String × DataW Unit) : Bool :=
 match (P.globalNamed x.1).bind fun g => (P.globals[g]?).map (·.type) with
 | some t => plainTy P 5 t && !(flat x.2).isEmpty
 | none => false
theorem tabs_of_laidVars {P : Program} {w : World} : ∀ (l : List (String × DataW Unit)) (ps : List MemPlace), l.all (tabOk P) = true → DataW.LaidVars P w l ps →
  (∀ b off, MemPlace.cell b off ∈ ps → ∃ c t, w.heap[b]? = some (.cells c t (0, 0))) → Tabs P w l
 | [], _, _, _, _ => trivial
 | (n, d) :: r, ps, hok, h, hm => by
  obtain ⟨g, t, cs, fuel, p, q, hg, ht, hv, hd, hr, rfl⟩ := h
  rw [List.all_cons, Bool.and_eq_true] at hok
  refine ⟨fun g' hg' => ?_, tabs_of_laidVars r q hok.2 hr (fun b off hb => hm b off (by simp [hb]))⟩
  obtain rfl := Option.some.inj (hg.symm.trans hg')
  have h1 := hok.1
  unfold tabOk at h1
  simp only [hg, Option.bind_some, ht, Bool.and_eq_true] at h1
  have hc := flat_of_trod 5 fuel t cs.toList (d, p) h1.1 hd
  have hne : 0 < cs.size := by
   rcases Nat.eq_zero_or_pos cs.size with h0 | h0
   ·have : cs.toList = [] := List.eq_nil_of_length_eq_zero (by simpa using h0)
    rw [this] at hc
    simp only at hc
    rw [← hc] at h1
    simp at h1
   ·exact h0
  obtain ⟨c, t', hb⟩ := hm g 0 (by
   apply List.mem_append_left
   apply List.mem_append_left
   simp [MemPlace.row, hne])
  simp only [World.var?, hg, Option.bind_some, hb, Option.some.injEq] at hv
  subst hv
  exact ⟨t', by rw [hb, ← hc]⟩
theorem tabs_of_laid {P : Program} {w : World} {l : List (String × DataW Unit)} (hok : l.all (tabOk P) = true) (hh : (l.all fun x => x.2.handleName?.isNone) = true) (h : laidMetH P l w) : Tabs P w l := by
 rw [MakeChecks.laidMetH_plain _ _ _ hh] at h
 obtain ⟨ps, h1, _, h3⟩ := h
 exact tabs_of_laidVars l ps hok h1 (fun b off hb => (h3 b off hb).1)
end Go.Proofs.YtankichdmlkfmaaGreatDoor
