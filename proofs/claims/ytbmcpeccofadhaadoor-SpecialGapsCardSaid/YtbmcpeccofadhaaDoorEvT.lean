/- Lists of events: the document's order of them. -/
import Derived.Test.YtbmcpeccofadhaaDoorEvR
namespace Go.Proofs.YtbmcpeccofadhaaDoor
open Go.ChangeShapes Go.WideShapes Go.ChangeAt Go.RowKit Go.Lib Go.Sort Go.Shelf
set_option linter.unusedVariables false
set_option maxRecDepth 100000
theorem ev_news (w : World) (x1 x2 : Int) : ∀ j u, [Value.int .i64 x1, .int .i64 x2][j]? = some u → (w.alloc (.cells #[.int .i64 x1, .int .i64 x2] 30)).cell? ((⟨w.heap.size, 0, none⟩ : Addr).add j) = some u := news_at w #[.int .i64 x1, .int .i64 x2] 30 w.heap.size rfl
theorem ev_one (x1 x2 : Int) : ∀ u ∈ [Value.int .i64 x1, .int .i64 x2], u.oneCell' = true := Ev.flat_one [(x1, x2)]
theorem Ev.own_cap {w : World} {B n c : Nat} {a : Addr} {l : List (Int × Int)} {m : Nat} (h : w.ownsRow B 30 2 (.slice (some a) n c) m (Ev.flat l)) : m ≤ c := by
  rcases h.2 with ⟨e0, _⟩ | ⟨g, cap, cur, e0, hb, hg, hn, hm, hs, ht⟩
  · cases e0
  · injection e0 with _ _ e3
    subst e3
    exact hn
theorem Ev.form0 {w : World} {B n : Nat} {v : Value} {xs : List Value} (h : w.ownsRow B 30 2 v n xs) (hv : v ≠ .slice none 0 0) : ∃ g c, v = .slice (some ⟨g, 0, none⟩) n c ∧ B ≤ g ∧ g < w.heap.size := by
  rcases h.2 with ⟨e, _⟩ | ⟨g, cap, cur, e, hb, hg, _⟩
  · exact absurd e hv
  · exact ⟨g, cap, e, hb, (Array.getElem?_eq_some_iff.1 hg).1⟩
theorem Ev.own_put2 {w : World} {B p k : Nat} {v : Value} {S : List (Int × Int)} {x1 x2 : Int} (hS : S.length = k) (hp : p ≤ k) (h : w.ownsRow B 30 2 v (p + 1 + (k - p)) (Ev.flat (S.take p) ++ [.int .i64 x1, .int .i64 x2] ++ Ev.flat (S.drop p))) : Ev.Own w B v (S.take p ++ (x1, x2) :: S.drop p) := by
  unfold Ev.Own
  have e : (S.take p ++ (x1, x2) :: S.drop p).length = p + 1 + (k - p) := by
    rw [List.length_append, List.length_take, List.length_cons, List.length_drop]; omega
  rw [e, Ev.flat_app, show Ev.flat ((x1, x2) :: S.drop p) = [.int .i64 x1, .int .i64 x2] ++ Ev.flat (S.drop p) from rfl, ← List.append_assoc]
  exact h
theorem perm_next {l S S' : List (Int × Int)} {k : Nat} {x : Int × Int} (hx : l[k]? = some x) (hp : S.Perm (l.take k)) (h' : S'.Perm (x :: S)) : S'.Perm (l.take (k + 1)) := by
  rw [List.take_add_one, hx]
  exact h'.trans ((hp.cons x).trans (List.perm_append_singleton x (l.take k)).symm)
end Go.Proofs.YtbmcpeccofadhaaDoor
