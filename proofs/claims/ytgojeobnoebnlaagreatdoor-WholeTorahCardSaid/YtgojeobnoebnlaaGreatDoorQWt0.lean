import Derived.Test.YtgojeobnoebnlaaGreatDoorQDA
set_option maxHeartbeats 8000000
set_option maxRecDepth 100000
set_option linter.unusedSimpArgs false
set_option linter.unusedVariables false
namespace Go.Proofs.YtgojeobnoebnlaaGreatDoor
open Go.ChangeShapes Go.WideShapes Go.ChangeAt Go.RowKit Go.Lib Go.Sort Go.Shelf
namespace Dy
def tor (S A E : Int) : List Rd → Int → Int → Int → Int → Bool
 | [], nx, be, vi, la => decide (nx = 54) && ((decide (be = 34) || decide (be = 35)) && (decide (vi = 44) && decide (la = 51)))
 | x :: r, nx, be, vi, la => if x.2.1 = 0 then tor S A E r nx be vi la else decide (x.1 = nx) && ((decide (x.2.1 = 1) || (decide (x.2.1 = 2) && decide (nx ∈ [(22 : Int), 27, 29, 32, 39, 42, 51]))) && tor S A E r (nx + x.2.1) (if x.2.2 < S then nx + x.2.1 - 1 else be) (if x.2.2 ≤ A then nx + x.2.1 - 1 else vi) (if x.2.2 < E then x.1 else la))
theorem tor_sh (S A E c : Int) : ∀ (L : List Rd) (nx be vi la : Int), tor (c + S) (c + A) (c + E) (L.map (Rd.sh c)) nx be vi la = tor S A E L nx be vi la
 | [], _, _, _, _ => rfl
 | (a, b, d) :: r, nx, be, vi, la => by
  rw [List.map_cons, show Rd.sh c (a, b, d) = (a, b, c + d) from rfl]
  unfold tor
  simp only [Int.add_lt_add_iff_left, Int.add_le_add_iff_left, tor_sh S A E c r]
theorem tor_all : ((List.range 14).all fun i => [false, true].all fun p => tor (kevB i + Yr.offV i 9 false 6) (kevB i + Yr.offV i 11 false 9) (kevB i + Yr.lenV i) (Rd.cyc0 i p) 1 0 0 0 && (Yr.okV i 9 false 6 && Yr.okV i 11 false 9)) = true := by decide +kernel
theorem uni_all : ((List.range 14).all fun i => [false, true].all fun p => (Rd.cyc0 i p).all fun x => decide ((Rd.cyc0 i p).find? (Rd.onDay x.2.2) = some x)) = true := by decide +kernel
def restU (i : Nat) (p : Bool) (o : Int) : Bool := (Fe.feastL i p ++ (Fa.fastL i ++ (Ch.chL i ++ Sp.spL i))).any fun e => decide (e.2 = o) && Fe.restV e.1
theorem rest_all : ((List.range 14).all fun i => [false, true].all fun p => (Rd.cyc0 i p).all fun x => decide (0 ≤ x.2.2 - kevB i) && (if x.2.2 - kevB i < Yr.lenV i then restU i p (x.2.2 - kevB i) == decide (x.2.1 = 0) else decide (x.2.2 - kevB i < Yr.lenV i + 30) && (List.range 14).all fun i2 => !(decide (kevB i2 = (kevB i + Yr.lenV i) % 7)) || (restU i2 p (x.2.2 - kevB i - Yr.lenV i) == decide (x.2.1 = 0)))) = true := by decide +kernel
theorem on_rest (D F : Int) (i : Nat) (p : Bool) : (Ev.on D (evs i p F)).any Fe.restV = restU i p (D - F) := by
 unfold Ev.on evs restU
 rw [List.any_map, List.any_filter, (Ev.sort_perm _).any_eq]
 rw [← List.map_append, ← List.map_append, ← List.map_append, List.any_map]
 congr 1
 funext e
 simp only [Function.comp_def, Ev.sh]
 congr 1
 exact decide_eq_decide.2 (by omega)
end Dy
end Go.Proofs.YtgojeobnoebnlaaGreatDoor
