/- Lists of events: the document's order of them, and whether two are the same. -/
import Derived.Test.YtoofgalkchnpnaaGreatDoorZEV
import Derived.Test.YtoofgalkchnpnaaGreatDoorZHR
import Derived.Test.YtoofgalkchnpnaaGreatDoorZW10
import Derived.LoopTactic
import Derived.Maps.AppendAt
import Derived.Laws.AppendOwnNone
import Derived.Deep.RegionLaw
namespace Go.Proofs.YtoofgalkchnpnaaGreatDoor
open Go.ChangeShapes Go.WideShapes Go.ChangeAt Go.RowKit Go.Lib Go.Sort Go.Shelf
set_option linter.unusedVariables false
set_option maxRecDepth 100000
/-- append onto a row of the call's own, as one step of a region that draws. -/
theorem step_append_any {P : Program} {w : World} {ops : Array Oper} {o : Oper} {a : Act} {K : Act → World → Prop} {Q : Exit → Act → World → Prop} {E : Prop} (hgd : o.guard = none) (s x : Operand) (t : TypeId)
    (ho : o.op = .call { callee := .builtin .append, args := #[s, x], argTypes := #[t, t] })
    (base : Nat) (e : TypeId) (i : TypeInfo) (z : Value) (size bytes : Nat) (ht : P.underlying t = some (.slice e)) (hi : P.info? e = some i) (hz : i.zero = some z)
    (hsize : i.size = size) (hby : i.bytes = bytes) (hzs : z.cells.size = size) (hsz : 0 < size)
    (v : Value) (n : Nat) (xs : List Value) (hs : a.eval s = v) (hown : w.ownsRow base e size v n xs)
    (ad : Addr) (m c : Nat) (news : List Value) (hx : a.eval x = .slice (some ad) m c) (hl : news.length = m * size) (hnews : ∀ j u, news[j]? = some u → w.cell? (ad.add j) = some u) (h1 : ∀ u ∈ news, u.oneCell' = true)
    (h63 : n + m ≤ maxLen) (hbytes : (n + m) * bytes ≤ 140737488355328) (hbase : base ≤ w.heap.size)
    (h : ∀ v' w', w'.ownsRow base e size v' (n + m) (xs ++ news) → w.grownBy w' v.ownBlock → (v'.ownBlock = v.ownBlock ∨ v'.ownBlock = some w.heap.size) → K (a.put o.dst v') w') :
    if Region.wanted o (yielded ops a.tmps) = true then Oper.wp P o a w K Q else E := by
  have hw : Region.wanted o (yielded ops a.tmps) = true := by simp [Region.wanted, hgd]
  rw [if_pos hw]
  obtain ⟨v', w', hr, h2, h3, _, h5⟩ := run_append_own_at (P := P) w base t o.type e i z size bytes ht hi hz hsize hby hzs hsz v n xs hown ad m c news hl hnews h1 h63 hbytes hbase
  unfold Oper.wp execOp
  simp only [ho, resolve, invoke, builtin, Sem.run_bind, Sem.run_pure, Result.andThen_ok, List.map_toArray, List.map_cons, List.map_nil, hs, hx, hr]
  exact h v' w' h2 h3 h5
namespace Ev
theorem srt_get {S : List (Int × Int)} (h : Srt S) {i j : Nat} (hij : i < j) (hj : j < S.length) : lt S[j] S[i] = false := List.pairwise_iff_getElem.1 h i j (by omega) hj hij
/-- Put in between, order stays. -/
theorem srt_put {S : List (Int × Int)} {x : Int × Int} {p : Nat} (hp : p ≤ S.length) (h : Srt S) (h1 : ∀ j y, p ≤ j → S[j]? = some y → lt x y = true) (h2 : ∀ y, p ≠ 0 → S[p - 1]? = some y → lt x y = false) :
    Srt (S.take p ++ x :: S.drop p) ∧ (S.take p ++ x :: S.drop p).Perm (x :: S) := by
  have hs := h
  unfold Srt at hs
  rw [← List.take_append_drop p S, List.pairwise_append] at hs
  obtain ⟨a1, a2, a3⟩ := hs
  refine ⟨List.pairwise_append.2 ⟨a1, List.pairwise_cons.2 ⟨fun y hy => ?_, a2⟩, fun a ha b hb => ?_⟩, ?_⟩
  · obtain ⟨j, hj, e⟩ := List.getElem_of_mem hy
    rw [List.getElem_drop] at e
    have := h1 (p + j) y (by omega) (by rw [← e]; exact List.getElem?_eq_getElem _)
    rw [lt_iff] at this
    rw [lt_no]; omega
  · rcases List.mem_cons.1 hb with rfl | hb
    · obtain ⟨i, hi, e⟩ := List.getElem_of_mem ha
      rw [List.length_take] at hi
      rw [List.getElem_take] at e
      have hlt : p - 1 < S.length := by omega
      have g2 := h2 S[p - 1] (by omega) (List.getElem?_eq_getElem hlt)
      rcases Nat.lt_or_ge i (p - 1) with c | c
      · have g := srt_get h c hlt
        rw [e] at g
        rw [lt_no] at g g2 ⊢
        omega
      · have : i = p - 1 := by omega
        subst this
        rw [← e]; exact g2
    · exact a3 a ha b hb
  · refine List.perm_middle.trans ?_
    rw [List.take_append_drop]
theorem own_take {w : World} {B g cap : Nat} {l : List (Int × Int)} (h : Own w B (.slice (some ⟨g, 0, none⟩) l.length cap) l) (p : Nat) (hp : p ≤ l.length) : Own w B (.slice (some ⟨g, 0, none⟩) p cap) (l.take p) := by
  have hl : (l.take p).length = p := by rw [List.length_take]; omega
  unfold Own
  rw [hl]
  rcases h.2 with ⟨e0, _⟩ | ⟨g', cap', cur, e0, hb, hg, hn, hm, hs, ht⟩
  · cases e0
  · injection e0 with e1 _ e3
    injection e1 with e1
    injection e1 with e1
    subst e1; subst e3
    refine ⟨by rw [flat_len, hl], .inr ⟨g, cap, cur, rfl, hb, hg, by omega, hm, hs, ?_⟩⟩
    have e : flat l = flat (l.take p) ++ flat (l.drop p) := by rw [← flat_app, List.take_append_drop]
    have := congrArg (List.take (p * 2)) ht
    rw [List.take_take, show min (p * 2) (l.length * 2) = p * 2 by omega, e, List.take_append_of_le_length (by rw [flat_len, hl]; omega), show List.take (p * 2) (flat (l.take p)) = flat (l.take p) from List.take_of_length_le (by rw [flat_len, hl]; omega)] at this
    exact this
theorem flat_drop (l : List (Int × Int)) (p j : Nat) (u : Value) (hp : p ≤ l.length) (h : (flat (l.drop p))[j]? = some u) : (flat l)[p * 2 + j]? = some u := by
  have e : flat l = flat (l.take p) ++ flat (l.drop p) := by rw [← flat_app, List.take_append_drop]
  have hl : (flat (l.take p)).length = p * 2 := by rw [flat_len, List.length_take]; omega
  rw [e, List.getElem?_append_right (by omega), hl, Nat.add_sub_cancel_left]
  exact h
end Ev
set_option maxHeartbeats 2000000 in
theorem ref19_before_lt (a b c d : Int) (w : World) (h : b < d) :
    Calls Tryo.prog 128 #[.agg #[.int .i64 a, .int .i64 b], .agg #[.int .i64 c, .int .i64 d]] w fun e w' => e = .returned (.bool true) ∧ Below w.heap.size w w' := by
  go_enter Tryo.func128, Tryz.ntmps128
  go_wp2_with fail
  go_ret
  exact ⟨rfl, baa (ba _ _) _⟩
set_option maxHeartbeats 2000000 in
theorem ref19_before_gt (a b c d : Int) (w : World) (h : ¬ b < d) (h2 : (b == d) = false) :
    Calls Tryo.prog 128 #[.agg #[.int .i64 a, .int .i64 b], .agg #[.int .i64 c, .int .i64 d]] w fun e w' => e = .returned (.bool false) ∧ Below w.heap.size w w' := by
  go_enter Tryo.func128, Tryz.ntmps128
  go_wp2_with fail
  go_ret
  exact ⟨rfl, baa (ba _ _) _⟩
set_option maxHeartbeats 2000000 in
theorem ref19_before_eq (a b c : Int) (w : World) (h : a < c) :
    Calls Tryo.prog 128 #[.agg #[.int .i64 a, .int .i64 b], .agg #[.int .i64 c, .int .i64 b]] w fun e w' => e = .returned (.bool true) ∧ Below w.heap.size w w' := by
  go_enter Tryo.func128, Tryz.ntmps128
  go_wp2_with fail
  go_ret
  exact ⟨rfl, baa (ba _ _) _⟩
set_option maxHeartbeats 2000000 in
theorem ref19_before_ne (a b c : Int) (w : World) (h : ¬ a < c) :
    Calls Tryo.prog 128 #[.agg #[.int .i64 a, .int .i64 b], .agg #[.int .i64 c, .int .i64 b]] w fun e w' => e = .returned (.bool false) ∧ Below w.heap.size w w' := by
  go_enter Tryo.func128, Tryz.ntmps128
  go_wp2_with fail
  go_ret
  exact ⟨rfl, baa (ba _ _) _⟩
theorem ref19_before (a b c d : Int) (w : World) : Calls Tryo.prog 128 #[.agg #[.int .i64 a, .int .i64 b], .agg #[.int .i64 c, .int .i64 d]] w fun e w' => e = .returned (.bool (Ev.lt (a, b) (c, d))) ∧ Below w.heap.size w w' := by
  rcases Int.lt_trichotomy b d with h | rfl | h
  · rw [(Ev.lt_iff (a, b) (c, d)).2 (.inl h)]; exact ref19_before_lt a b c d w h
  · by_cases g : a < c
    · rw [(Ev.lt_iff (a, b) (c, b)).2 (.inr ⟨rfl, g⟩)]; exact ref19_before_eq a b c w g
    · rw [(Ev.lt_no (a, b) (c, b)).2 (by simp; omega)]; exact ref19_before_ne a b c w g
  · rw [(Ev.lt_no (a, b) (c, d)).2 (by simp; omega)]; exact ref19_before_gt a b c d w (by omega) (by rw [beq_eq_false_iff_ne]; omega)
set_option maxHeartbeats 2000000 in
theorem ref19_Day (y n d : Int) (w : World) (hy : I64 y) : Calls Tryo.prog 31 #[.int .i64 y, .int .i64 n, .int .i64 d] w fun e w' => e = .returned (.int .i64 (D10.dayV y n false d)) ∧ Below w.heap.size w w' := by
  have HC := Lib.hid (fun w => ref10_ToDay y n false d w hy)
  generalize D10.dayV y n false d = v at *
  generalize D10.dateE y n false d = e at *
  go_enter Tryo.func31, Tryz.ntmps31
  go_wp2_with fail
  refine (HC.out _).mono ?_
  rintro e w1 ⟨rfl, hb1⟩
  obtain ⟨hc1, hf1⟩ := bcell hb1
  have hz1 := hb1.size
  try simp at hz1
  go_wp2_with fail
  go_ret
  exact ⟨rfl, hb1⟩
end Go.Proofs.YtoofgalkchnpnaaGreatDoor
