/- A range over a function whose body only lays new blocks until it leaves: the iterator may keep cells of its own. -/
import Derived.RangeFuncIn
import Derived.RangeFuncSeq
import Derived.RangeFuncRecord
import Derived.RangeFuncLeaves
import Derived.RangeFuncCalls
import Derived.Below
namespace Go.Proofs.YtgcpflbpiifdbaaDoor
open Go.RowKit
variable {P : Program} {n : Nat}
/-- What lay at or above B lies as it lay. -/
structure Upper (B : Nat) (W W' : World) : Prop where
  size : W.heap.size ≤ W'.heap.size
  same : ∀ j, B ≤ j → j < W.heap.size → W'.heap[j]? = W.heap[j]?
theorem Upper.refl (B : Nat) (W : World) : Upper B W W := ⟨Nat.le_refl _, fun _ _ _ => rfl⟩
theorem Upper.trans {B : Nat} {X Y Z : World} (h : Upper B X Y) (k : Upper B Y Z) : Upper B X Z := ⟨Nat.le_trans h.size k.size, fun j h1 h2 => (k.same j h1 (by have := h.size; omega)).trans (h.same j h1 h2)⟩
theorem Upper.alloc {B : Nat} {X Y : World} (h : Upper B X Y) (o : Obj) : Upper B X (Y.alloc o) := h.trans ⟨by simp, fun j _ hj => Below.heap_alloc Y o j hj⟩
theorem Upper.setCell {B : Nat} {X Y : World} (h : Upper B X Y) {p : Addr} (hp : p.block < B) (u : Value) : Upper B X (Y.setCell p u) :=
  h.trans ⟨by show Y.heap.size ≤ (Y.heap.modify _ _).size; rw [Array.size_modify]; exact Nat.le_refl _, fun j h1 _ => Below.heap_setCell Y p u j (by omega)⟩
theorem Upper.drew {B : Nat} {X Y : World} (h : Upper B X Y) : Upper B X Y.drew := ⟨h.size, h.same⟩
theorem Upper.of_below {B : Nat} {X Y : World} (h : Below X.heap.size X Y) : Upper B X Y := ⟨h.size, fun j _ hj => h.block j hj⟩
/-- The same cells and, below B, the same blocks. -/
structure Alike2 (B : Nat) (X Y : World) : Prop where
  size : Y.heap.size = X.heap.size
  below : Below B X Y
  cell : ∀ p, Y.cell? p = X.cell? p
  frozen : ∀ p, Y.frozen? p = X.frozen? p
theorem alike_putLoop {B l : Nat} {X : World} {r r' : Loop} (hB : B ≤ l) (h : X.heap[l]? = some (.loop r)) : Alike2 B X (X.putObj l (.loop r')) := by
  have hlt := (Array.getElem?_eq_some_iff.1 h).1
  refine ⟨by simp [World.putObj], ⟨rfl, rfl, rfl, by simp [World.putObj], fun k hk => World.putObj_heap_other (by omega)⟩, fun p => ?_, fun p => ?_⟩
  · unfold World.cell?
    by_cases e : p.block = l
    · rw [e, World.putObj_heap_same hlt, h]
    · rw [World.putObj_heap_other e]
  · unfold World.frozen?
    by_cases e : p.block = l
    · rw [e, World.putObj_heap_same hlt, h]
    · rw [World.putObj_heap_other e]
/-- How a round's body may be left. -/
def iterPost (B : Nat) (G : Prop) (Jb : Code → World → Prop) (W : World) : Exit → Act → World → Prop
  | .normal, _, W' => G ∧ Below W.heap.size W W'
  | .ret, _, W' => Upper B W W' ∧ Jb .ret W'
  | .exit id, _, W' => Upper B W W' ∧ Jb (.exit id) W'
  | _, _, _ => False
theorem wpIn_range_quiet {g : Operand} {ps : Array Tmp} {assign body : Code} {Q : Exit → Act → World → Prop} {a : Act} {w : World} {gf : Nat} {lb : Array Value}
    (hg : a.eval g = .func (.func gf) #[] lb) (eg : ∀ args w, (callFunc gf args).run P w = .ok (.enter gf args) w) (encs : Nat → Array Value) (N : Nat) (hps : ∀ k, (encs k).size = ps.size)
    (G : Nat → Prop) (Jb : Nat → Code → World → Prop) (hJ : ∀ k c X Y, Alike2 w.heap.size X Y → Jb k c X → Jb k c Y)
    (hit : ∀ (l : Nat) (W0 : World) (Jx : Nat → World → Prop), Below w.heap.size w W0 →
      (∀ k W1, k ≤ N → Below W0.heap.size W0 W1 → YieldAt Fence.wide (n - 1 - 1) P l (encs k) W1 fun e W' => (e = .returned (.bool true) ∧ G k ∧ Below W1.heap.size W1 W') ∨ (e = .returned (.bool false) ∧ Jx k W')) →
      CallsIn Fence.wide (n - 1) P gf (#[.func (.yield l) #[] #[]] ++ lb) W0 fun e W' => (∃ v, e = .returned v) ∧ (((∀ k, k ≤ N → G k) ∧ Below W0.heap.size W0 W') ∨ ∃ k, k ≤ N ∧ (∀ j, j < k → G j) ∧ Jx k W'))
    (hround : ∀ (l k : Nat) (W : World), k ≤ N → Below w.heap.size w W → l < W.heap.size → assign.wpIn (Fence.wide.inRound l) (n - 1 - 1) P
      (Exit.then (fun a₁ W₁ => Below W.heap.size W W₁ ∧ ∀ W₂, Alike2 w.heap.size W₁ W₂ → body.wpIn (Fence.wide.inRound l) (n - 1 - 1) P (iterPost w.heap.size (G k) (Jb k) W₂) a₁ W₂) (fun _ _ _ => False))
      { tmps := (ps.zip (encs k)).foldl (fun t (p, v) => t.setIfInBounds p v) a.tmps, defers := [] } W)
    (hdone : ∀ W, Below w.heap.size w W → (∀ k, k ≤ N → G k) → W.heap[w.heap.size]? = some (.deferred (some [])) → Q .normal { a with defers := { target := .collected w.heap.size, args := #[] } :: a.defers } W)
    (hstop : ∀ k c W, k ≤ N → (∀ j, j < k → G j) → Jb k c W → W.heap[w.heap.size]? = some (.deferred (some [])) → c.wpIn Fence.wide n P Q { a with defers := { target := .collected w.heap.size, args := #[] } :: a.defers } W) :
    (Code.rangeFunc g ps assign body).wpIn Fence.wide n P Q a w := by
  refine wpIn_rangeFunc fun fn _ => ?_
  obtain ⟨rec, hrec⟩ : ∃ rec : LoopState → Option Code → Loop, rec = fun st pe => { state := st, pending := pe, fn, tmps := a.tmps, params := ps, assign, body, defers := w.heap.size } := ⟨_, rfl⟩
  obtain ⟨W0, hW0⟩ : ∃ W0, (w.alloc (.deferred (some []))).alloc (.loop (rec .ready none)) = W0 := ⟨_, rfl⟩
  have hsz : W0.heap.size = w.heap.size + 2 := by rw [← hW0]; simp
  have hL0 : W0.heap[w.heap.size + 1]? = some (.loop (rec .ready none)) := by
    rw [← hW0]; have := World.alloc_heap_new (w.alloc (.deferred (some []))) (.loop (rec .ready none)); rwa [World.size_alloc] at this
  have hD0 : W0.heap[w.heap.size]? = some (.deferred (some [])) := by
    rw [← hW0]; exact (Below.heap_alloc _ _ _ (by simp)).trans (World.alloc_heap_new w _)
  have hB0 : Below w.heap.size w W0 := by rw [← hW0]; exact ((Below.refl _ w).alloc (Nat.le_refl _) _).alloc (by simp) _
  refine ⟨w.heap.size + 1, [{ target := .collected w.heap.size, args := #[] }], W0, { target := .fn (.func gf) lb, args := #[.func (.yield (w.heap.size + 1)) #[] #[]] }, W0, gf, #[.func (.yield (w.heap.size + 1)) #[] #[]] ++ lb, W0, ?_, ?_, ?_, ?_, ?_, ?_⟩
  · rw [← hW0, hrec]; exact run_enterLoop_outer _ _ _ _ _
  · simp only [resolve, hg]
    simp [go_sem]
  · intro f' _; trivial
  · simp [invoke, go_sem, eg]
  · intro h; cases h
  · refine (hit (w.heap.size + 1) W0 (fun k W => ∃ c, Jb k c W ∧ W.heap[w.heap.size + 1]? = some (.loop (rec .done (some c))) ∧ W.heap[w.heap.size]? = some (.deferred (some []))) hB0 (fun k W1 hk hB1 => ?_)).mono ?_
    · have hl : W1.heap[w.heap.size + 1]? = some (.loop (rec .ready none)) := (hB1.block _ (by omega)).trans hL0
      have hd : W1.heap[w.heap.size]? = some (.deferred (some [])) := (hB1.block _ (by omega)).trans hD0
      have hlt := (Array.getElem?_eq_some_iff.1 hl).1
      have hw1 : Below w.heap.size w W1 := hB0.trans (hB1.mono (by omega))
      have hy := run_yield (P := P) (args := encs k) hl (by rw [hrec]; exact hps k)
      rw [hrec] at hy
      refine ⟨fn, _, assign, body, hy, roundIn_of_wpIn trivial (wpIn_mono (hround (w.heap.size + 1) k W1 hk hw1 hlt) ?_)⟩
      intro e a₁ Wa hp
      cases e with
      | normal =>
        obtain ⟨hba, hbd⟩ := hp
        have hla : Wa.heap[w.heap.size + 1]? = some (.loop (rec .ready none)) := (hba.block _ hlt).trans hl
        have hda : Wa.heap[w.heap.size]? = some (.deferred (some [])) := (hba.block _ (by omega)).trans hd
        have hlta := (Array.getElem?_eq_some_iff.1 hla).1
        refine ⟨_, run_beginRound hla (by rw [hrec]), ?_⟩
        have hlb : (Wa.putObj (w.heap.size + 1) (.loop { rec .ready none with state := .busy })).heap[w.heap.size + 1]? = some (.loop { rec .ready none with state := .busy }) := World.putObj_heap_same hlta
        have hdb : (Wa.putObj (w.heap.size + 1) (.loop { rec .ready none with state := .busy })).heap[w.heap.size]? = some (.deferred (some [])) := (World.putObj_heap_other (by omega)).trans hda
        have hsb : (Wa.putObj (w.heap.size + 1) (.loop { rec .ready none with state := .busy })).heap.size = Wa.heap.size := by simp [World.putObj]
        have hob : ∀ j, j ≠ w.heap.size + 1 → (Wa.putObj (w.heap.size + 1) (.loop { rec .ready none with state := .busy })).heap[j]? = Wa.heap[j]? := fun j hj => World.putObj_heap_other hj
        refine wpIn_mono (hbd _ (alike_putLoop (by omega) hla)) ?_
        have hos : ∀ Wb, Wb = Wa.putObj (w.heap.size + 1) (.loop { rec .ready none with state := .busy }) → Wb.os = Wa.os ∧ Wb.tape = Wa.tape ∧ Wb.output = Wa.output := fun Wb h => by subst h; exact ⟨rfl, rfl, rfl⟩
        generalize hWb : Wa.putObj (w.heap.size + 1) (.loop { rec .ready none with state := .busy }) = Wb at *
        obtain ⟨o1, o2, o3⟩ := hos Wb rfl
        have leave : ∀ (c : Code) (W3 : World), Upper w.heap.size Wb W3 → Jb k c W3 → ∃ v w', (Instr.endRound (w.heap.size + 1) (some c)).run P W3 = .ok v w' ∧
            (((Ending.returned v = .returned (.bool true)) ∧ G k ∧ Below W1.heap.size W1 w') ∨ (Ending.returned v = .returned (.bool false) ∧ ∃ c, Jb k c w' ∧ w'.heap[w.heap.size + 1]? = some (.loop (rec .done (some c))) ∧ w'.heap[w.heap.size]? = some (.deferred (some [])))) := fun c W3 hu hj => by
          have hl3 : W3.heap[w.heap.size + 1]? = some (.loop { rec .ready none with state := .busy }) := (hu.same _ (by omega) (by omega)).trans hlb
          have hd3 : W3.heap[w.heap.size]? = some (.deferred (some [])) := (hu.same _ (Nat.le_refl _) (by omega)).trans hdb
          have hlt3 := (Array.getElem?_eq_some_iff.1 hl3).1
          have hr := run_endRound (P := P) (some c) hl3
          refine ⟨_, _, hr, .inr ⟨rfl, c, hJ k c _ _ (alike_putLoop (by omega) hl3) hj, ?_, (World.putObj_heap_other (by omega)).trans hd3⟩⟩
          rw [World.putObj_heap_same hlt3, hrec]
          rfl
        rintro e a3 W3 hp3
        cases e with
        | normal =>
          obtain ⟨hG, hb3⟩ := hp3
          have hl3 : W3.heap[w.heap.size + 1]? = some (.loop { rec .ready none with state := .busy }) := (hb3.block _ (by omega)).trans hlb
          have hlt3 := (Array.getElem?_eq_some_iff.1 hl3).1
          have hr := run_endRound (P := P) none hl3
          refine ⟨_, _, hr, .inl ⟨rfl, hG, ?_⟩⟩
          have hba1 := hba.size
          have hb31 := hb3.size
          refine ⟨hb3.os.trans (o1.trans hba.os), hb3.tape.trans (o2.trans hba.tape), hb3.output.trans (o3.trans hba.output), by simp [World.putObj]; omega, fun j hj => ?_⟩
          by_cases e : j = w.heap.size + 1
          · subst e
            rw [World.putObj_heap_same hlt3, hl, hrec]
            rfl
          · rw [World.putObj_heap_other e, hb3.block j (by omega), hob j e, hba.block j hj]
        | ret => exact leave .ret W3 hp3.1 hp3.2
        | exit id => exact leave (.exit id) W3 hp3.1 hp3.2
        | goto t => exact hp3.elim
        | panic ch => exact hp3.elim
        | outgrown => exact hp3.elim
      | ret => exact hp.elim
      | exit id => exact hp.elim
      | goto t => exact hp.elim
      | panic ch => exact hp.elim
      | outgrown => exact hp.elim
    · rintro e W2 ⟨⟨v, rfl⟩, (⟨hG, hB⟩ | ⟨k, hk, hG, c, hj, hl, hd⟩)⟩
      · have hl : W2.heap[w.heap.size + 1]? = some (.loop (rec .ready none)) := (hB.block _ (by omega)).trans hL0
        have hd : W2.heap[w.heap.size]? = some (.deferred (some [])) := (hB.block _ (by omega)).trans hD0
        refine ⟨none, _, by have := run_endLoop (P := P) hl (by rw [hrec]; simp); rw [hrec] at this; exact this, hdone _ ?_ hG ((World.putObj_heap_other (by omega)).trans hd)⟩
        exact (hB0.trans (hB.mono (by omega))).trans (alike_putLoop (r' := { rec .ready none with state := .exhausted }) (by omega) hl).below |> fun h => by rw [hrec] at h; exact h
      · exact ⟨some c, _, by have := run_endLoop (P := P) hl (by rw [hrec]; simp); rw [hrec] at this; exact this, hstop k c _ hk hG (hJ k c _ _ (by have := alike_putLoop (B := w.heap.size) (r' := { rec .done (some c) with state := .exhausted }) (by omega) hl; rw [hrec] at this; exact this) hj) ((World.putObj_heap_other (by omega)).trans hd)⟩
end Go.Proofs.YtgcpflbpiifdbaaDoor
