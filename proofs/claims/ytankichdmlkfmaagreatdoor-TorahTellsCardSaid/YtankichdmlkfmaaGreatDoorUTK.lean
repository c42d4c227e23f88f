/- Merged: Ti, Th, Tk. -/
import Derived.Test.YtankichdmlkfmaaGreatDoorUTu
import Derived.Test.YtankichdmlkfmaaGreatDoorUTV
import Derived.Test.YtankichdmlkfmaaGreatDoorURC
set_option linter.unusedSimpArgs false
set_option linter.unusedVariables false
section
/- Layer 24: the document's readings of a cycle, by the year's row. -/
namespace Go.Proofs.YtankichdmlkfmaaGreatDoor
open Go.ChangeShapes Go.WideShapes Go.ChangeAt Go.RowKit Go.Lib Go.Sort Go.Shelf
set_option maxRecDepth 100000
namespace Rd
theorem rst_sh (c : Int) (F T : List Int) (n : Int) (S : List Rd) (d : Int) : rst (F.map fun d => c + d) T (n, S.map (sh c)) (c + d) = ((rst F T (n, S) d).1, (rst F T (n, S) d).2.map (sh c)) := by
 have e : (c + d ∈ F.map fun d => c + d) ↔ d ∈ F := by
  rw [List.mem_map]
  constructor
  ·rintro ⟨x, hx, h⟩
   rwa [show d = x by omega]
  ·intro h
   exact ⟨d, h, rfl⟩
 unfold rst
 by_cases h : d ∈ F
 ·rw [if_pos h, if_pos (e.2 h)]
  simp [sh]
 ·rw [if_neg h, if_neg (fun x => h (e.1 x))]
  simp [sh]
theorem rfold_sh (c : Int) (F T : List Int) : ∀ (ds : List Int) (n : Int) (S : List Rd), (ds.map fun d => c + d).foldl (rst (F.map fun d => c + d) T) (n, S.map (sh c)) = ((ds.foldl (rst F T) (n, S)).1, (ds.foldl (rst F T) (n, S)).2.map (sh c))
 | [], n, S => rfl
 | d :: r, n, S => by
  rw [List.map_cons, List.foldl_cons, List.foldl_cons, rst_sh]
  exact rfold_sh c F T r _ _
theorem rcyc_sh (c : Int) (F T ds : List Int) : (rcyc (F.map fun d => c + d) T (ds.map fun d => c + d)).2 = (rcyc F T ds).2.map (sh c) := by
 have k := rfold_sh c F T ds 1 []
 unfold rcyc
 rw [List.map_nil] at k
 rw [k]
def two0 (i : Nat) (p : Bool) : List Int := two (kevL i) (cn (part0 i) (Sb.free0 i p) 1) (cn (part0 i) (Sb.free0 i p) 2) (cn (part0 i) (Sb.free0 i p) 3) (cn (part0 i) (Sb.free0 i p) 5)
theorem rc_all : ((List.range 14).all fun i => [false, true].all fun p => decide ((rcyc (Sb.free0 i p) (two0 i p) (Sb.sabs0 i p)).2 = cyc0 i p ∧ (two0 i p).length ≤ 100)) = true := by decide +kernel
theorem rc_at (i : Nat) (hi : i < 14) (p : Bool) : (rcyc (Sb.free0 i p) (two0 i p) (Sb.sabs0 i p)).2 = cyc0 i p ∧ (two0 i p).length ≤ 100 := by
 have h := List.all_eq_true.1 rc_all i (List.mem_range.2 hi)
 exact of_decide_eq_true (List.all_eq_true.1 h p (by cases p <;> simp))
end Rd
end Go.Proofs.YtankichdmlkfmaaGreatDoor
end
section
/- Layer 24: the document's cycle is the program's. -/
namespace Go.Proofs.YtankichdmlkfmaaGreatDoor
open Go.ChangeShapes Go.WideShapes Go.ChangeAt Go.RowKit Go.Lib Go.Sort Go.Shelf
set_option maxRecDepth 100000
namespace Rd
theorem cn_bdn (part : Int → Nat) (F : List Int) (q : Nat) (n : Nat) (h : F.length ≤ n) : 0 ≤ cn part F q ∧ cn part F q ≤ (n : Int) := by
 have := List.length_filter_le (fun d => decide (part d + 1 = q)) F
 unfold cn
 omega
end Rd
theorem ref24_Cycle (y : Int) (i i2 : Nat) (p : Bool) (w : World) (h : Yr.Is y i) (h2 : Yr.Is (y + 1) i2) :
  Calls Tryo.prog 8 #[.int .i64 y, .int .i64 (if p then 1 else 0)] w fun e w' => ∃ v, e = .returned (.tuple #[v, .int .i64 0]) ∧ Rd.Own w' w.heap.size v ((Rd.cyc0 i p).map (Rd.sh (Cal.first y - kevB i))) ∧ Below w.heap.size w w' := by
 have a1 := h.1
 have a2 := h2.2.1
 have hi := h.2.2.1
 have hf := Sb.free_off p h h2
 have hs := Rd.sabs_off p h h2
 have hcn := Sb.cnt_bd hi p
 have hl0 : (Sb.free0 i p).length ≤ 100 := by split at hcn <;> omega
 have hl : (Sb.free y i i2 p).length ≤ 100 := by rw [hf, List.length_map]; exact hl0
 obtain ⟨n1, n2, n3, n4⟩ := Sb.nSat_ok p h
 obtain ⟨r1, r2⟩ := Rd.rc_at i hi p
 have hcs : ∀ q, Rd.cn (Rd.partY y) (Sb.free y i i2 p) q = Rd.cn (Rd.part0 i) (Sb.free0 i p) q := fun q => by rw [hf]; exact Rd.cn_sh _ _ _ (Rd.partY_sh h h2) _ _
 have b1 := Rd.cn_bdn (Rd.part0 i) (Sb.free0 i p) 1 100 hl0
 have b2 := Rd.cn_bdn (Rd.part0 i) (Sb.free0 i p) 2 100 hl0
 have b3 := Rd.cn_bdn (Rd.part0 i) (Sb.free0 i p) 3 100 hl0
 have k := ref24_Cycle_go y (if p then 1 else 0) (Sb.sabs y p) (Sb.free y i i2 p) (Rd.two0 i p) _ (Sb.nSat y p) _ _ w (Sb.sabs_len _ _) rfl rfl (by omega) hl r2
  (Lib.hid fun w => ref23_All y i i2 p w h h2) (Lib.hid fun w => ref23_Free y i i2 p w h h2)
  (Lib.hid fun v w hr => ref24_counts y (Sb.free y i i2 p) (Rd.partY y) v _ w rfl hl hr
   (Lib.hid fun d => by have := Rd.part_in d (D10.dayV y 7 false 15) (D10.dayV y 9 false 5) (D10.dayV y 11 false 9) (D10.dayV (y + 1) 1 false 1); unfold Rd.partY; omega)
   (Lib.hid fun d w => ref23_Part y i i2 d w h h2))
  (Lib.hid fun w => by
   rw [hcs 0, hcs 1, hcs 2, hcs 3, hcs 4, hcs 5]
   exact ref24_pairs_go y _ _ _ _ _ _ (kevL i) _ _ _ w b1 b2 b3 rfl rfl rfl (Lib.hid fun w => by have := ref3_Is y w (by omega) (by omega); rwa [h.2.2.2.2.2] at this))
 rw [hs, hf, Rd.rcyc_sh, r1] at k
 exact k
end Go.Proofs.YtankichdmlkfmaaGreatDoor
end
section
/- Layer 24: the document's names. -/
namespace Go.Proofs.YtankichdmlkfmaaGreatDoor
open Go.ChangeShapes Go.WideShapes Go.ChangeAt Go.RowKit Go.Lib Go.Sort Go.Shelf
set_option maxRecDepth 100000
namespace Rd
def nmArr : Array Value := #[.string ⟨#[66, 101, 114, 101, 115, 104, 105, 116]⟩, .string ⟨#[78, 111, 97, 99, 104]⟩, .string ⟨#[76, 101, 99, 104, 32, 76, 101, 99, 104, 97]⟩, .string ⟨#[86, 97, 121, 101, 114, 97]⟩, .string ⟨#[67, 104, 97, 121, 101, 105, 32, 83, 97, 114, 97, 104]⟩, .string ⟨#[84, 111, 108, 100, 111, 116]⟩, .string ⟨#[86, 97, 121, 101, 116, 122, 101, 105]⟩, .string ⟨#[86, 97, 121, 105, 115, 104, 108, 97, 99, 104]⟩, .string ⟨#[86, 97, 121, 101, 115, 104, 101, 118]⟩, .string ⟨#[77, 105, 107, 101, 116, 122]⟩, .string ⟨#[86, 97, 121, 105, 103, 97, 115, 104]⟩, .string ⟨#[86, 97, 121, 101, 99, 104, 105]⟩, .string ⟨#[83, 104, 101, 109, 111, 116]⟩, .string ⟨#[86, 97, 101, 114, 97]⟩, .string ⟨#[66, 111]⟩, .string ⟨#[66, 101, 115, 104, 97, 108, 97, 99, 104]⟩, .string ⟨#[89, 105, 116, 114, 111]⟩, .string ⟨#[77, 105, 115, 104, 112, 97, 116, 105, 109]⟩, .string ⟨#[84, 101, 114, 117, 109, 97, 104]⟩, .string ⟨#[84, 101, 116, 122, 97, 118, 101, 104]⟩, .string ⟨#[75, 105, 32, 84, 105, 115, 97]⟩, .string ⟨#[86, 97, 121, 97, 107, 104, 101, 108]⟩, .string ⟨#[80, 101, 107, 117, 100, 101, 105]⟩, .string ⟨#[86, 97, 121, 105, 107, 114, 97]⟩, .string ⟨#[84, 122, 97, 118]⟩, .string ⟨#[83, 104, 101, 109, 105, 110, 105]⟩, .string ⟨#[84, 97, 122, 114, 105, 97]⟩, .string ⟨#[77, 101, 116, 122, 111, 114, 97]⟩, .string ⟨#[65, 99, 104, 97, 114, 101, 105, 32, 77, 111, 116]⟩, .string ⟨#[75, 101, 100, 111, 115, 104, 105, 109]⟩, .string ⟨#[69, 109, 111, 114]⟩, .string ⟨#[66, 101, 104, 97, 114]⟩, .string ⟨#[66, 101, 99, 104, 117, 107, 111, 116, 97, 105]⟩, .string ⟨#[66, 97, 109, 105, 100, 98, 97, 114]⟩, .string ⟨#[78, 97, 115, 111]⟩, .string ⟨#[66, 101, 104, 97, 97, 108, 111, 116, 99, 104, 97]⟩, .string ⟨#[83, 104, 101, 108, 97, 99, 104]⟩, .string ⟨#[75, 111, 114, 97, 99, 104]⟩, .string ⟨#[67, 104, 117, 107, 97, 116]⟩, .string ⟨#[66, 97, 108, 97, 107]⟩, .string ⟨#[80, 105, 110, 99, 104, 97, 115]⟩, .string ⟨#[77, 97, 116, 111, 116]⟩, .string ⟨#[77, 97, 115, 101, 105]⟩, .string ⟨#[68, 101, 118, 97, 114, 105, 109]⟩, .string ⟨#[86, 97, 101, 116, 99, 104, 97, 110, 97, 110]⟩, .string ⟨#[69, 107, 101, 118]⟩, .string ⟨#[82, 101, 101, 104]⟩, .string ⟨#[83, 104, 111, 102, 116, 105, 109]⟩, .string ⟨#[75, 105, 32, 84, 101, 105, 116, 122, 101, 105]⟩, .string ⟨#[75, 105, 32, 84, 97, 118, 111]⟩, .string ⟨#[78, 105, 116, 122, 97, 118, 105, 109]⟩, .string ⟨#[86, 97, 121, 101, 108, 101, 99, 104]⟩, .string ⟨#[72, 97, 97, 122, 105, 110, 117]⟩, .string ⟨#[86, 101, 122, 111, 116, 32, 72, 97, 98, 101, 114, 97, 99, 104, 97, 104]⟩]
theorem nmArr_eq : nmArr = nmCells.toArray := rfl
theorem nmArr_at (n : Int) (h1 : 1 ≤ n) (h2 : n ≤ 54) : nmArr[n.toNat - 1]? = some (.string (nm n)) := by
 rw [nmArr_eq, List.getElem?_toArray, show n.toNat - 1 = (n - 1).toNat by omega]
 exact nm_cell n h1 h2
end Rd
set_option maxHeartbeats 2000000 in
theorem ref24_Name_lo (n : Int) (w : World) (h : n < 1) :
  Calls Tryo.prog 14 #[.int .i64 n] w fun e w' => e = .returned (.string ⟨#[]⟩) ∧ Below w.heap.size w w' := by
 have d1 : decide (n < 1) = true := decide_eq_true h
 go_enter Tryo.func14, Tryz.ntmps14
 go_wp2_with fail
 go_ret
 refine ⟨rfl, ?_⟩
 exact bel
set_option maxHeartbeats 2000000 in
theorem ref24_Name_hi (n : Int) (w : World) (h : 54 < n) :
  Calls Tryo.prog 14 #[.int .i64 n] w fun e w' => e = .returned (.string ⟨#[]⟩) ∧ Below w.heap.size w w' := by
 have d0 : ¬ n < 1 := by omega
 have d1 : decide (n < 1) = false := decide_eq_false d0
 have d2 : decide (54 < n) = true := decide_eq_true h
 go_enter Tryo.func14, Tryz.ntmps14
 go_wp2_with fail
 go_ret
 refine ⟨rfl, ?_⟩
 exact bel
set_option maxHeartbeats 4000000 in
theorem ref24_Name_in (n : Int) (w : World) (h1 : 1 ≤ n) (h2 : n ≤ 54) :
  Calls Tryo.prog 14 #[.int .i64 n] w fun e w' => e = .returned (.string (Rd.nm n)) ∧ Below w.heap.size w w' := by
 have d0 : ¬ n < 1 := by omega
 have d1 : decide (n < 1) = false := decide_eq_false d0
 have d3 : ¬ 54 < n := by omega
 have d2 : decide (54 < n) = false := decide_eq_false d3
 have cx : (w.alloc (.cells #[.string ⟨#[66, 101, 114, 101, 115, 104, 105, 116]⟩, .string ⟨#[78, 111, 97, 99, 104]⟩, .string ⟨#[76, 101, 99, 104, 32, 76, 101, 99, 104, 97]⟩, .string ⟨#[86, 97, 121, 101, 114, 97]⟩, .string ⟨#[67, 104, 97, 121, 101, 105, 32, 83, 97, 114, 97, 104]⟩, .string ⟨#[84, 111, 108, 100, 111, 116]⟩, .string ⟨#[86, 97, 121, 101, 116, 122, 101, 105]⟩, .string ⟨#[86, 97, 121, 105, 115, 104, 108, 97, 99, 104]⟩, .string ⟨#[86, 97, 121, 101, 115, 104, 101, 118]⟩, .string ⟨#[77, 105, 107, 101, 116, 122]⟩, .string ⟨#[86, 97, 121, 105, 103, 97, 115, 104]⟩, .string ⟨#[86, 97, 121, 101, 99, 104, 105]⟩, .string ⟨#[83, 104, 101, 109, 111, 116]⟩, .string ⟨#[86, 97, 101, 114, 97]⟩, .string ⟨#[66, 111]⟩, .string ⟨#[66, 101, 115, 104, 97, 108, 97, 99, 104]⟩, .string ⟨#[89, 105, 116, 114, 111]⟩, .string ⟨#[77, 105, 115, 104, 112, 97, 116, 105, 109]⟩, .string ⟨#[84, 101, 114, 117, 109, 97, 104]⟩, .string ⟨#[84, 101, 116, 122, 97, 118, 101, 104]⟩, .string ⟨#[75, 105, 32, 84, 105, 115, 97]⟩, .string ⟨#[86, 97, 121, 97, 107, 104, 101, 108]⟩, .string ⟨#[80, 101, 107, 117, 100, 101, 105]⟩, .string ⟨#[86, 97, 121, 105, 107, 114, 97]⟩, .string ⟨#[84, 122, 97, 118]⟩, .string ⟨#[83, 104, 101, 109, 105, 110, 105]⟩, .string ⟨#[84, 97, 122, 114, 105, 97]⟩, .string ⟨#[77, 101, 116, 122, 111, 114, 97]⟩, .string ⟨#[65, 99, 104, 97, 114, 101, 105, 32, 77, 111, 116]⟩, .string ⟨#[75, 101, 100, 111, 115, 104, 105, 109]⟩, .string ⟨#[69, 109, 111, 114]⟩, .string ⟨#[66, 101, 104, 97, 114]⟩, .string ⟨#[66, 101, 99, 104, 117, 107, 111, 116, 97, 105]⟩, .string ⟨#[66, 97, 109, 105, 100, 98, 97, 114]⟩, .string ⟨#[78, 97, 115, 111]⟩, .string ⟨#[66, 101, 104, 97, 97, 108, 111, 116, 99, 104, 97]⟩, .string ⟨#[83, 104, 101, 108, 97, 99, 104]⟩, .string ⟨#[75, 111, 114, 97, 99, 104]⟩, .string ⟨#[67, 104, 117, 107, 97, 116]⟩, .string ⟨#[66, 97, 108, 97, 107]⟩, .string ⟨#[80, 105, 110, 99, 104, 97, 115]⟩, .string ⟨#[77, 97, 116, 111, 116]⟩, .string ⟨#[77, 97, 115, 101, 105]⟩, .string ⟨#[68, 101, 118, 97, 114, 105, 109]⟩, .string ⟨#[86, 97, 101, 116, 99, 104, 97, 110, 97, 110]⟩, .string ⟨#[69, 107, 101, 118]⟩, .string ⟨#[82, 101, 101, 104]⟩, .string ⟨#[83, 104, 111, 102, 116, 105, 109]⟩, .string ⟨#[75, 105, 32, 84, 101, 105, 116, 122, 101, 105]⟩, .string ⟨#[75, 105, 32, 84, 97, 118, 111]⟩, .string ⟨#[78, 105, 116, 122, 97, 118, 105, 109]⟩, .string ⟨#[86, 97, 121, 101, 108, 101, 99, 104]⟩, .string ⟨#[72, 97, 97, 122, 105, 110, 117]⟩, .string ⟨#[86, 101, 122, 111, 116, 32, 72, 97, 98, 101, 114, 97, 99, 104, 97, 104]⟩] 9)).cell? ⟨w.heap.size, n.toNat - 1, none⟩ = some (.string (Rd.nm n)) := (Joins.cell_alloc_mark_at _ _ _ _ _ _ (by simp)).trans (Rd.nmArr_at n h1 h2)
 generalize Rd.nm n = x at *
 go_enter Tryo.func14, Tryz.ntmps14
 go_wp2_with fail
 go_ret
 refine ⟨rfl, ?_⟩
 exact bel
end Go.Proofs.YtankichdmlkfmaaGreatDoor
end
