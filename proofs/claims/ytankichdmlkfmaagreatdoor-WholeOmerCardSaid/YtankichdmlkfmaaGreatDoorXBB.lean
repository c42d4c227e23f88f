import Derived.Test.YtankichdmlkfmaaGreatDoorXPo
import Derived.Test.YtankichdmlkfmaaGreatDoorXLA
import Derived.WalkKit
import Derived.ProofKit
import Derived.OpenShut
import Derived.Carry
import Derived.Lib.SmallJoins
import Derived.LaidMore
import Derived.MakeChecks
import Derived.Lib.LaidTab
import Derived.Deep.AppendLies
import Derived.OwnWalk
import Derived.BigQuiet
import Derived.BigCall
import Derived.Below
import Derived.Laws.Rows
import Derived.Laws.Cells
set_option maxHeartbeats 8000000
set_option maxRecDepth 100000
set_option linter.unusedVariables false
namespace Go.Proofs.YtankichdmlkfmaaGreatDoor
section
open Go.ChangeShapes Go.WideShapes Go.ChangeAt Go.RowKit Go.Joins
section
variable {H : Type} {enc : TypeId × Value → H} {P : Program} {w : World} {base : Nat} {spare : Nat → Bool} {held : Bool}
end
end
section
open Go.ChangeShapes Go.WideShapes Go.ChangeAt Go.RowKit
mutual
def flat : DataW Unit → List Value
 | .lit (.int k n) => [.int k n]
 | .lit (.bool b) => [.bool b]
 | .lit (.string s) => [.string ⟨s.toArray⟩]
 | .agg ps => flatAll ps
 | _ => []
def flatAll : List (DataW Unit) → List Value
 | [] => []
 | d :: ds => flat d ++ flatAll ds
end
def Tab (w : World) (g : Nat) (cs : List Value) : Prop := ∃ t, w.heap[g]? = some (.cells cs.toArray t (0, 0))
theorem Tab.lt {w : World} {g : Nat} {cs : List Value} (h : Tab w g cs) : g < w.heap.size := by
 obtain ⟨t, h⟩ := h
 exact (Array.getElem?_eq_some_iff.1 h).1
theorem Tab.below {a b : World} {g : Nat} {cs : List Value} (h : Tab a g cs) (hb : Below a.heap.size a b) : Tab b g cs := by
 have hl := h.lt
 obtain ⟨t, h⟩ := h
 exact ⟨t, (hb.block g hl).trans h⟩
theorem Tab.cell {w : World} {g : Nat} {cs : List Value} (h : Tab w g cs) (i : Nat) : w.cell? ⟨g, i, none⟩ = cs[i]? := by
 obtain ⟨t, h⟩ := h
 simp [World.cell?, h]
end
section
open Go.ChangeShapes Go.WideShapes Go.ChangeAt Go.RowKit
theorem news_at (w : World) (cs : Array Value) (t g : Nat) (hg : g = w.heap.size) : ∀ j u, cs.toList[j]? = some u → (w.alloc (.cells cs t)).cell? ((⟨g, 0, none⟩ : Addr).add j) = some u := by
 subst hg
 exact World.news_of_block (heap_alloc_new w _)
theorem bgrown {w a b : World} {row : Option Nat} (h : Below w.heap.size w a) (hg : a.grownBy b row) (hr : ∀ k, row = some k → w.heap.size ≤ k) : Below w.heap.size w b := h.grown hg h.size hr
end
section
open Go.RowKit
section
variable {P : Program} {W : World}
theorem class_all (q : Prop) : (∀ x, Below W.heap.size W x → q) = q := propext ⟨fun h => h W (Below.refl _ _), fun h _ _ => h⟩
theorem settleC {f : FuncId} {args : Array Value} {R : Ending → World → Prop} {w : World} (F : World → Prop) (h : F w) (k : ∀ x, F x → Calls P f args x R) : Calls P f args w R := k w h
theorem class_self (w : World) : Below w.heap.size w { w with drawn := w.drawn + 1 } := ⟨rfl, rfl, rfl, Nat.le_refl _, fun _ _ => rfl⟩
theorem wp_region_class {id : Nat} {Q : Exit → Act → World → Prop} {a : Act} {l : List Oper} (hm : P.follows .mixedOrders = true) (hB : Region.lexB .any l.toArray = true)
  (h : (∀ q : Prop, (∀ x, Below W.heap.size W x → q) = q) → wpQuiet P l.toArray (Below W.heap.size W) (fun a' => ∀ x, Below W.heap.size W x → Q .normal a' x) l a) : (Code.region id l.toArray true).wp P Q a W :=
 wp_region_quiet (C := Below W.heap.size W) hm hB (class_self W) (by simpa using h class_all)
theorem settle {c : Code} {Q : Exit → Act → World → Prop} {a : Act} {w : World} (F : World → Prop) (h : F w) (k : ∀ x, F x → c.wp P Q a x) : c.wp P Q a w := k w h
theorem class_cell {x : World} (hx : Below W.heap.size W x) {p : Addr} (hp : p.block < W.heap.size) : x.cell? p = W.cell? p := hx.cell hp
theorem quiet_load1 {o : Oper} {a : Act} {K : Act → Prop} (t : TypeId) (y : Operand) (p : Addr) (ho : o.op = .load t y) (hp : a.eval y = .pointer (some p)) (hag : ∀ w : World, (isAgg t).run P w = .ok false w)
  (hb : p.block < W.heap.size) (h : ∃ v, W.cell? p = some v ∧ K (a.put o.dst v)) : o.quiet P a (Below W.heap.size W) K := by
 obtain ⟨v, hv, hk⟩ := h
 refine ⟨v, fun x hx => ?_, hk⟩
 unfold Oper.quietAt
 have e : (execOp a.eval o).run P x = .ok (.value v) x := by
  have hc := (class_cell hx hb).trans hv
  unfold execOp
  simp only [ho, hp, Instr.loadAt, Instr.sureAddr, Sem.run_bind, Sem.run_pure, Result.andThen_ok, loadVar, hag x, Bool.false_eq_true, if_false, run_load, hc]
 rw [e]
 exact ⟨rfl, rfl⟩
theorem quiet_loads {o : Oper} {a : Act} {K : Act → Prop} (t : TypeId) (y : Operand) (b off : Nat) (cs : List Value) (ho : o.op = .load t y) (hp : a.eval y = .pointer (some ⟨b, off, none⟩)) (hag : ∀ w : World, (isAgg t).run P w = .ok true w)
  (hs : ∀ w : World, (sizeOf t).run P w = .ok cs.length w) (hc : ∀ (j : Nat) u, cs[j]? = some u → W.cell? ⟨b, off + j, none⟩ = some u) (hb : b < W.heap.size) (hk : K (a.put o.dst (.agg cs.toArray))) : o.quiet P a (Below W.heap.size W) K := by
 refine ⟨.agg cs.toArray, fun x hx => ?_, hk⟩
 unfold Oper.quietAt
 have e : (execOp a.eval o).run P x = .ok (.value (.agg cs.toArray)) x := by
  have hl := run_loadCells_list (P := P) x ⟨b, off, none⟩ cs (fun j u hu => by
   have h1 : (⟨b, off, none⟩ : Addr).add j = ⟨b, off + j, none⟩ := by unfold Addr.add; split <;> simp_all
   rw [h1]
   exact (hx.cell (p := ⟨b, off + j, none⟩) hb).trans (hc j u hu))
  unfold execOp
  simp only [ho, hp, Instr.loadAt, Instr.sureAddr, Sem.run_bind, Sem.run_pure, Result.andThen_ok, loadVar, hag x, if_true, hs x, hl]
 rw [e]
 exact ⟨rfl, rfl⟩
theorem quiet_load2 {o : Oper} {a : Act} {K : Act → Prop} (t : TypeId) (y : Operand) (b off : Nat) (ho : o.op = .load t y) (hp : a.eval y = .pointer (some ⟨b, off, none⟩)) (hag : ∀ w : World, (isAgg t).run P w = .ok true w)
  (hs : ∀ w : World, (sizeOf t).run P w = .ok 2 w) (hb : b < W.heap.size) (h : ∃ v0 v1, W.cell? ⟨b, off, none⟩ = some v0 ∧ W.cell? ⟨b, off + 1, none⟩ = some v1 ∧ K (a.put o.dst (.agg #[v0, v1]))) : o.quiet P a (Below W.heap.size W) K :=
 let ⟨v0, v1, h0, h1, hk⟩ := h
 quiet_loads t y b off [v0, v1] ho hp hag hs (fun j u hu => by
  match j, hu with
  | 0, hu => simp at hu; subst hu; exact h0
  | 1, hu => simp at hu; subst hu; exact h1) hb hk
theorem quiet_load3 {o : Oper} {a : Act} {K : Act → Prop} (t : TypeId) (y : Operand) (b off : Nat) (ho : o.op = .load t y) (hp : a.eval y = .pointer (some ⟨b, off, none⟩)) (hag : ∀ w : World, (isAgg t).run P w = .ok true w)
  (hs : ∀ w : World, (sizeOf t).run P w = .ok 3 w) (hb : b < W.heap.size) (h : ∃ v0 v1 v2, W.cell? ⟨b, off, none⟩ = some v0 ∧ W.cell? ⟨b, off + 1, none⟩ = some v1 ∧ W.cell? ⟨b, off + 2, none⟩ = some v2 ∧ K (a.put o.dst (.agg #[v0, v1, v2]))) : o.quiet P a (Below W.heap.size W) K :=
 let ⟨v0, v1, v2, h0, h1, h2, hk⟩ := h
 quiet_loads t y b off [v0, v1, v2] ho hp hag hs (fun j u hu => by
  match j, hu with
  | 0, hu => simp at hu; subst hu; exact h0
  | 1, hu => simp at hu; subst hu; exact h1
  | 2, hu => simp at hu; subst hu; exact h2) hb hk
theorem quiet_load4 {o : Oper} {a : Act} {K : Act → Prop} (t : TypeId) (y : Operand) (b off : Nat) (ho : o.op = .load t y) (hp : a.eval y = .pointer (some ⟨b, off, none⟩)) (hag : ∀ w : World, (isAgg t).run P w = .ok true w)
  (hs : ∀ w : World, (sizeOf t).run P w = .ok 4 w) (hb : b < W.heap.size) (h : ∃ v0 v1 v2 v3, W.cell? ⟨b, off, none⟩ = some v0 ∧ W.cell? ⟨b, off + 1, none⟩ = some v1 ∧ W.cell? ⟨b, off + 2, none⟩ = some v2 ∧ W.cell? ⟨b, off + 3, none⟩ = some v3 ∧ K (a.put o.dst (.agg #[v0, v1, v2, v3]))) : o.quiet P a (Below W.heap.size W) K :=
 let ⟨v0, v1, v2, v3, h0, h1, h2, h3, hk⟩ := h
 quiet_loads t y b off [v0, v1, v2, v3] ho hp hag hs (fun j u hu => by
  match j, hu with
  | 0, hu => simp at hu; subst hu; exact h0
  | 1, hu => simp at hu; subst hu; exact h1
  | 2, hu => simp at hu; subst hu; exact h2
  | 3, hu => simp at hu; subst hu; exact h3) hb hk
theorem bdrew {a b : World} (h : Below a.heap.size a b) : Below a.heap.size a b.drew := h.drew
theorem call_below {f : FuncId} {args : Array Value} {x : World} {v : Value} (hx : Below W.heap.size W x)
  (c : Calls P f args x fun e w' => e = .returned v ∧ Below x.heap.size x w') : Calls P f args x fun e w' => e = .returned v ∧ Below W.heap.size W w' :=
 c.mono fun _ _ h => ⟨h.1, hx.trans (h.2.mono hx.size)⟩
theorem call_same {f : FuncId} {args : Array Value} {x : World} {v : Value} (hx : Below W.heap.size W x)
  (c : Calls P f args x fun e w' => e = .returned v ∧ x = w') : Calls P f args x fun e w' => e = .returned v ∧ Below W.heap.size W w' :=
 c.mono fun _ _ h => ⟨h.1, h.2 ▸ hx⟩
end
end
section
open Go.ChangeShapes Go.WideShapes Go.ChangeAt Go.RowKit
theorem cso {w : World} {a b : Addr} {v : Value} (h : a ≠ b := by simp) : (w.setCell a v).cell? b = w.cell? b := World.cell?_setCell_other _ _ _ _ h
theorem bel {B : Nat} {a b : World} (h : Below B a b := by repeat (first | (with_reducible exact Below.refl _ _) | (with_reducible assumption) | (with_reducible refine bdrew ?_) | (with_reducible refine baa ?_ _) | (with_reducible refine bs ?_ (by first | exact Nat.le_refl _ | omega | (simp; done) | (simp; omega)) _) | (with_reducible refine bt ?_ (by with_reducible assumption)))) : Below B a b := h
theorem cel {W w' : World} {b o : Nat} {v : Value} (hc : ∀ b o, b < W.heap.size → w'.cell? ⟨b, o, none⟩ = W.cell? ⟨b, o, none⟩) (h1 : b < W.heap.size := by first | omega | (simp; done) | (simp; omega)) (h2 : W.cell? ⟨b, o, none⟩ = some v := by first | (with_reducible assumption) | (simp [go_sem]; done) | (simp [go_sem, *]; done) | assumption) : w'.cell? ⟨b, o, none⟩ = some v := (hc b o h1).trans h2
theorem celB {W w' : World} {b o : Nat} {v : Value} (hc : ∀ b o, b < W.heap.size → w'.cell? ⟨b, o, none⟩ = W.cell? ⟨b, o, none⟩) (h1 : b < W.heap.size := by first | omega | (simp; done) | (simp; omega)) (h2 : W.cell? ⟨b, o, none⟩ = some v := by first | assumption | (simp [go_sem]; done) | (simp [go_sem, *]; done)) : w'.cell? ⟨b, o, none⟩ = some v := (hc b o h1).trans h2
end
end Go.Proofs.YtankichdmlkfmaaGreatDoor
