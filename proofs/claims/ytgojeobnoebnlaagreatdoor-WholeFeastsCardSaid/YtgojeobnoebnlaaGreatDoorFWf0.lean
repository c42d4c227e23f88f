import Derived.Test.YtgojeobnoebnlaaGreatDoorQDA
import Derived.Test.YtgojeobnoebnlaaGreatDoorQW28
set_option maxHeartbeats 8000000
set_option maxRecDepth 100000
set_option linter.unusedSimpArgs false
set_option linter.unusedVariables false
namespace Go.Proofs
open Go Go.Sq Go.Proofs.YtgojeobnoebnlaaGreatDoor.Sat
@[simp] theorem Tryo.func3 : Tryo.prog.funcs[3]? = some Tryz.f3 := fn_o (by simp) (by decide)
@[simp] theorem Tryo.call3 (args : Array Value) (w : World) : (callFunc 3 args).run Tryo.prog w = .ok (.enter 3 args) w := call_o Tryo.func3 rfl (by rfl) args w
@[simp] theorem Tryo.func5 : Tryo.prog.funcs[5]? = some Tryz.f5 := fn_o (by simp) (by decide)
@[simp] theorem Tryo.call5 (args : Array Value) (w : World) : (callFunc 5 args).run Tryo.prog w = .ok (.enter 5 args) w := call_o Tryo.func5 rfl (by rfl) args w
end Go.Proofs
namespace Go.Proofs.YtgojeobnoebnlaaGreatDoor
open Go.ChangeShapes Go.WideShapes Go.ChangeAt Go.RowKit Go.Lib Go.Sort Go.Shelf
namespace Dy
def go9 (kd num d wd : Int) (lf : Bool) : Bool :=
 if kd = 2 then decide (num = 1) && ((decide (d = 3) && decide (wd ≠ 6)) || (decide (d = 4) && decide (wd = 0))) else
 if kd = 3 then decide (num = 1) && decide (d = 10) else
 if kd = 10 then decide (num = 4) && (decide (d = 10) && decide (wd ≠ 6)) else
 if kd = 13 then decide (num = 6) && ((decide (d = 13) && decide (wd ≠ 6)) || (decide (d = 11) && decide (wd = 4))) else
 if kd = 14 then decide (num = 6) && (decide (d = 14) && decide (lf = false)) else
 if kd = 16 then decide (num = 7) && ((decide (d = 14) && decide (wd ≠ 6)) || (decide (d = 12) && decide (wd = 4))) else
 if kd = 26 then decide (num = 10) && ((decide (d = 17) && decide (wd ≠ 6)) || (decide (d = 18) && decide (wd = 0))) else
 if kd = 27 then decide (num = 11) && ((decide (d = 9) && decide (wd ≠ 6)) || (decide (d = 10) && decide (wd = 0))) else
 if kd = 21 then decide (num = 8) && ((decide (d = 5) && decide (wd = 3)) || ((decide (d = 4) && decide (wd = 4)) || ((decide (d = 3) && decide (wd = 4)) || (decide (d = 6) && decide (wd = 2))))) else
 if 30 ≤ kd ∧ kd ≤ 37 then decide (wd = 6) else true
theorem go9_of {kd num d wd : Int} {lf : Bool} (h : go9 kd num d wd lf = true) :
  (kd = 2 ∧ num = 1 ∧ ((d = 3 ∧ wd ≠ 6) ∨ (d = 4 ∧ wd = 0))) ∨ (kd = 3 ∧ num = 1 ∧ d = 10) ∨ (kd = 10 ∧ num = 4 ∧ d = 10 ∧ wd ≠ 6) ∨ (kd = 13 ∧ num = 6 ∧ ((d = 13 ∧ wd ≠ 6) ∨ (d = 11 ∧ wd = 4))) ∨ (kd = 14 ∧ num = 6 ∧ d = 14 ∧ lf = false) ∨ (kd = 16 ∧ num = 7 ∧ ((d = 14 ∧ wd ≠ 6) ∨ (d = 12 ∧ wd = 4))) ∨ (kd = 26 ∧ num = 10 ∧ ((d = 17 ∧ wd ≠ 6) ∨ (d = 18 ∧ wd = 0))) ∨ (kd = 27 ∧ num = 11 ∧ ((d = 9 ∧ wd ≠ 6) ∨ (d = 10 ∧ wd = 0))) ∨ (kd = 21 ∧ num = 8 ∧ ((d = 5 ∧ wd = 3) ∨ (d = 4 ∧ wd = 4) ∨ (d = 3 ∧ wd = 4) ∨ (d = 6 ∧ wd = 2))) ∨ (30 ≤ kd ∧ kd ≤ 37 ∧ wd = 6) ∨ (kd ≠ 2 ∧ kd ≠ 3 ∧ kd ≠ 10 ∧ kd ≠ 13 ∧ kd ≠ 14 ∧ kd ≠ 16 ∧ kd ≠ 26 ∧ kd ≠ 27 ∧ kd ≠ 21 ∧ (kd < 30 ∨ 37 < kd)) := by
 by_cases c1 : kd = 2
 ·subst c1; unfold go9 at h; simp only [if_true, Bool.and_eq_true, Bool.or_eq_true, decide_eq_true_eq] at h; exact Or.inl ⟨rfl, h⟩
 refine Or.inr ?_
 by_cases c2 : kd = 3
 ·subst c2; unfold go9 at h; rw [if_neg c1, if_pos rfl] at h; simp only [Bool.and_eq_true, Bool.or_eq_true, decide_eq_true_eq] at h; exact Or.inl ⟨rfl, h⟩
 refine Or.inr ?_
 by_cases c3 : kd = 10
 ·subst c3; unfold go9 at h; rw [if_neg c1, if_neg c2, if_pos rfl] at h; simp only [Bool.and_eq_true, Bool.or_eq_true, decide_eq_true_eq] at h; exact Or.inl ⟨rfl, h⟩
 refine Or.inr ?_
 by_cases c4 : kd = 13
 ·subst c4; unfold go9 at h; rw [if_neg c1, if_neg c2, if_neg c3, if_pos rfl] at h; simp only [Bool.and_eq_true, Bool.or_eq_true, decide_eq_true_eq] at h; exact Or.inl ⟨rfl, h⟩
 refine Or.inr ?_
 by_cases c5 : kd = 14
 ·subst c5; unfold go9 at h; rw [if_neg c1, if_neg c2, if_neg c3, if_neg c4, if_pos rfl] at h; simp only [Bool.and_eq_true, Bool.or_eq_true, decide_eq_true_eq] at h; exact Or.inl ⟨rfl, h⟩
 refine Or.inr ?_
 by_cases c6 : kd = 16
 ·subst c6; unfold go9 at h; rw [if_neg c1, if_neg c2, if_neg c3, if_neg c4, if_neg c5, if_pos rfl] at h; simp only [Bool.and_eq_true, Bool.or_eq_true, decide_eq_true_eq] at h; exact Or.inl ⟨rfl, h⟩
 refine Or.inr ?_
 by_cases c7 : kd = 26
 ·subst c7; unfold go9 at h; rw [if_neg c1, if_neg c2, if_neg c3, if_neg c4, if_neg c5, if_neg c6, if_pos rfl] at h; simp only [Bool.and_eq_true, Bool.or_eq_true, decide_eq_true_eq] at h; exact Or.inl ⟨rfl, h⟩
 refine Or.inr ?_
 by_cases c8 : kd = 27
 ·subst c8; unfold go9 at h; rw [if_neg c1, if_neg c2, if_neg c3, if_neg c4, if_neg c5, if_neg c6, if_neg c7, if_pos rfl] at h; simp only [Bool.and_eq_true, Bool.or_eq_true, decide_eq_true_eq] at h; exact Or.inl ⟨rfl, h⟩
 refine Or.inr ?_
 by_cases c9 : kd = 21
 ·subst c9; unfold go9 at h; rw [if_neg c1, if_neg c2, if_neg c3, if_neg c4, if_neg c5, if_neg c6, if_neg c7, if_neg c8, if_pos rfl] at h; simp only [Bool.and_eq_true, Bool.or_eq_true, decide_eq_true_eq] at h; exact Or.inl ⟨rfl, h⟩
 refine Or.inr ?_
 by_cases c10 : 30 ≤ kd ∧ kd ≤ 37
 ·unfold go9 at h; rw [if_neg c1, if_neg c2, if_neg c3, if_neg c4, if_neg c5, if_neg c6, if_neg c7, if_neg c8, if_neg c9, if_pos c10] at h; exact Or.inl ⟨c10.1, c10.2, of_decide_eq_true h⟩
 exact Or.inr ⟨c1, c2, c3, c4, c5, c6, c7, c8, c9, by omega⟩
def all4 (i : Nat) (p : Bool) : List (Int × Int) := Fe.feastL i p ++ (Fa.fastL i ++ (Ch.chL i ++ Sp.spL i))
def ok9 (i : Nat) (kd o : Int) : Bool := decide (0 ≤ o) && (decide (o < Yr.lenV i) && (decide (1 ≤ Cal.ofN (kevL i) (findV (kevB i) (kevK i) (kevL i) (o + 1)).1 ∧ Cal.ofN (kevL i) (findV (kevB i) (kevK i) (kevL i) (o + 1)).1 ≤ 13) && go9 kd (Cal.ofN (kevL i) (findV (kevB i) (kevK i) (kevL i) (o + 1)).1) (findV (kevB i) (kevK i) (kevL i) (o + 1)).2.1 ((kevB i + o) % 7) (Cal.ofL (kevL i) (findV (kevB i) (kevK i) (kevL i) (o + 1)).1)))
theorem ok9_all : ((List.range 14).all fun i => [false, true].all fun p => (all4 i p).all fun e => ok9 i e.1 e.2) = true := by decide +kernel
theorem in_yr9 (y D : Int) (h1 : 1 ≤ y) (h2 : y ≤ 9999) (f1 : Cal.first y ≤ D) (f2 : D < Cal.first (y + 1)) : ∃ m d, D10.Valid y m d ∧ D = D10.dayOf y m d := by
 obtain ⟨m, d, m1, m2, d1, d2, e⟩ := D10.ahead_there y (D - Cal.first y + 1) h1 h2 (by omega) (by unfold Cal.long; omega)
 exact ⟨m, d, ⟨h1, h2, m1, m2, d1, d2⟩, by unfold D10.dayOf; omega⟩
theorem evs_all (i : Nat) (p : Bool) (F : Int) : (evs i p F).Perm ((all4 i p).map (Ev.sh F)) := by
 unfold evs all4
 rw [List.map_append, List.map_append, List.map_append]
 exact Ev.sort_perm _
theorem ev_good {y : Int} {i : Nat} (h : Yr.Is y i) (p : Bool) (kd D : Int) (hm : (kd, D) ∈ evs i p (Cal.first y)) : ∃ m d, D10.Valid y m d ∧ D = D10.dayOf y m d ∧ 1 ≤ Cal.ofN (Cal.leap y) m ∧ Cal.ofN (Cal.leap y) m ≤ 13 ∧ d ≤ 30 ∧ go9 kd (Cal.ofN (Cal.leap y) m) d (D % 7) (Cal.ofL (Cal.leap y) m) = true := by
 have hn := Yr.next_first h
 obtain ⟨h1, h2, hi, hb, hk, hl⟩ := h
 obtain ⟨⟨k0, o⟩, hx, he⟩ := List.mem_map.1 ((evs_all i p (Cal.first y)).mem_iff.1 hm)
 have he' : (k0, Cal.first y + o) = (kd, D) := he
 simp only [Prod.mk.injEq] at he'
 obtain ⟨rfl, rfl⟩ := he'
 have hpm : p ∈ [false, true] := by cases p <;> simp
 have hg := List.all_eq_true.1 (List.all_eq_true.1 (List.all_eq_true.1 ok9_all i (List.mem_range.2 hi)) p hpm) _ hx
 unfold ok9 at hg
 simp only [Bool.and_eq_true, decide_eq_true_eq] at hg
 obtain ⟨o0, o1, ⟨n1, n2⟩, hg⟩ := hg
 obtain ⟨m, d, hv, e⟩ := in_yr9 y (Cal.first y + o) h1 h2 (by omega) (by omega)
 have hf := D10.day_find hv
 have hd := (D10.len_bd y m h1 h2 hv.2.2.1 hv.2.2.2.1).2
 have hd2 := hv.2.2.2.2.2
 rw [← e, hb, hk, hl, show Cal.first y + o - Cal.first y + 1 = o + 1 by omega] at hf
 rw [hf] at hg n1 n2
 refine ⟨m, d, hv, e, by rw [hl]; exact n1, by rw [hl]; exact n2, by omega, ?_⟩
 rw [hl, show (Cal.first y + o) % 7 = (kevB i + o) % 7 by omega]
 exact hg
theorem evs_more (i : Nat) (p : Bool) (F : Int) : ((Fe.feastL i p).map (Ev.sh F)).length + ((Fa.fastL i).map (Ev.sh F)).length + ((Sp.spL i).map (Ev.sh F)).length ≤ (evs i p F).length := by
 rw [(evs_all i p F).length_eq]
 unfold all4
 simp only [List.length_map, List.length_append]
 omega
end Dy
theorem top_year9 (y : Int) (hy : 0 ≤ y ∧ y ≤ 65535) (w : World) : Calls Tryo.prog 5 #[.int .u16 y] w fun e w' => e = .returned (.int .i64 (1 + y % 9999)) ∧ w = w' := by
 obtain ⟨y1, y2⟩ := hy
 have k0 : y.tmod 9999 = y % 9999 := Int.tmod_eq_emod_of_nonneg y1
 have k1 := Int.emod_nonneg y (show (9999 : Int) ≠ 0 by decide)
 have k2 := Int.emod_lt_of_pos y (show (0 : Int) < 9999 by decide)
 go_enter Tryo.func5, Tryz.ntmps5
 go_wp2_with fail
 go_ret
 exact ⟨rfl, rfl⟩
end Go.Proofs.YtgojeobnoebnlaaGreatDoor
