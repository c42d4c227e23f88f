import Derived.Test.YthnjjcoahdhmnaaGreatDoorELA
import Derived.LoopTactic
import Derived.Deep.RegionHeld
import Derived.Test.YthnjjcoahdhmnaaGreatDoorEBB
set_option maxHeartbeats 8000000
set_option maxRecDepth 100000
set_option linter.unusedVariables false
namespace Go.Proofs.YthnjjcoahdhmnaaGreatDoor
section
open Go.ChangeShapes Go.WideShapes Go.ChangeAt Go.RowKit
def Cal.right(n:Int)(l:Bool):Bool:=decide (1<=n/\n<=12/\(l=false∨n=5))
theorem fM(n:Int)(w:World)(h1:1<=n)(h2:n<=12):Calls Tryo.prog 127 #[.agg #[.int .i64 n,.bool false]] w fun e w'=>e= .returned (.bool true)/\Below w.heap.size w w':=by
 go_enter Tryo.func127,Tryz.ntmps127
 go_wp2_with fail
 go_ret
 exact⟨rfl,ba _ _⟩
theorem kM(w:World):Calls Tryo.prog 127 #[.agg #[.int .i64 5,.bool true]] w fun e w'=>e= .returned (.bool true)/\Below w.heap.size w w':=by
 go_enter Tryo.func127,Tryz.ntmps127
 go_wp2_with fail
 go_ret
 exact⟨rfl,ba _ _⟩
theorem fJ(n:Int)(l:Bool)(w:World)(h:Cal.right n l=false):Calls Tryo.prog 127 #[.agg #[.int .i64 n,.bool l]] w fun e w'=>e= .returned (.bool false)/\Below w.heap.size w w':=by
 rw [Cal.right,decide_eq_false_iff_not]at h
 rcases(show n<1∨(1<=n/\12<n)∨(1<=n/\n<=12/\¬ n=5/\l=true) by cases l <;> simp at h⊢ <;> omega)with c|⟨c1,c2⟩|⟨c1,c2,c3,rfl⟩
 ·skip
  go_enter Tryo.func127,Tryz.ntmps127
  go_wp2_with fail
  go_ret
  exact⟨rfl,ba _ _⟩
 ·skip
  go_enter Tryo.func127,Tryz.ntmps127
  go_wp2_with fail
  go_ret
  exact⟨rfl,ba _ _⟩
 ·have c4:(n==5)=false:=by rw [beq_eq_false_iff_ne];exact c3
  go_enter Tryo.func127,Tryz.ntmps127
  go_wp2_with fail
  go_ret
  exact⟨rfl,ba _ _⟩
end
section
open Go.ChangeShapes Go.WideShapes Go.ChangeAt Go.RowKit
end
section
open Go.ChangeShapes Go.WideShapes Go.ChangeAt Go.RowKit
theorem QI(m:Int)(w:World)(h:m<1):Calls Tryo.prog 73 #[.bool false,.int .i64 m] w fun e w'=>e= .returned (.tuple #[.agg #[.int .i64 0,.bool false],.bool false])/\Below w.heap.size w w':=by
 have HR:=Lib.hid (show Cal.right (m) false=false by rw [Cal.right,decide_eq_false_iff_not];omega)
 go_enter Tryo.func73,Tryz.ntmps73
 go_wp2_with fail
 refine(fJ (m) false _ HR.out).mono ?_
 rintro e w1 ⟨rfl,hb1⟩
 obtain⟨hc1,hf1⟩:=aA hb1
 have hz1:=hb1.size
 try simp at hz1
 have g1x0:w1.cell? ⟨w.heap.size,0,none⟩=some (.int .i64 0):=aH hc1
 have g1x1:w1.cell? ⟨w.heap.size,1,none⟩=some (.bool false):=aH hc1
 have g1x2:w1.cell? ⟨w.heap.size+1,0,none⟩=some (.int .i64 (m)):=aH hc1
 have g1x3:w1.cell? ⟨w.heap.size+1,1,none⟩=some (.bool false):=aH hc1
 go_wp2_with fail
 refine bodyPost_ret (v:= .tuple #[.agg #[.int .i64 0,.bool false],.bool false]) (by simp [results,Tryz.results73,go_sem,g1x0,g1x1]) rfl ⟨rfl, ?_⟩
 first
  |exact bt (baa (ba _ _) _) hb1
  |exact bs (bs (bt (baa (ba _ _) _) hb1) (Nat.le_refl _) _) (Nat.le_refl _) _
theorem NK(m:Int)(w:World)(h:12<m):Calls Tryo.prog 73 #[.bool false,.int .i64 m] w fun e w'=>e= .returned (.tuple #[.agg #[.int .i64 0,.bool false],.bool false])/\Below w.heap.size w w':=by
 have HR:=Lib.hid (show Cal.right (m) false=false by rw [Cal.right,decide_eq_false_iff_not];omega)
 go_enter Tryo.func73,Tryz.ntmps73
 go_wp2_with fail
 refine(fJ (m) false _ HR.out).mono ?_
 rintro e w1 ⟨rfl,hb1⟩
 obtain⟨hc1,hf1⟩:=aA hb1
 have hz1:=hb1.size
 try simp at hz1
 have g1x0:w1.cell? ⟨w.heap.size,0,none⟩=some (.int .i64 0):=aH hc1
 have g1x1:w1.cell? ⟨w.heap.size,1,none⟩=some (.bool false):=aH hc1
 have g1x2:w1.cell? ⟨w.heap.size+1,0,none⟩=some (.int .i64 (m)):=aH hc1
 have g1x3:w1.cell? ⟨w.heap.size+1,1,none⟩=some (.bool false):=aH hc1
 go_wp2_with fail
 refine bodyPost_ret (v:= .tuple #[.agg #[.int .i64 0,.bool false],.bool false]) (by simp [results,Tryz.results73,go_sem,g1x0,g1x1]) rfl ⟨rfl, ?_⟩
 first
  |exact bt (baa (ba _ _) _) hb1
  |exact bs (bs (bt (baa (ba _ _) _) hb1) (Nat.le_refl _) _) (Nat.le_refl _) _
theorem SS(m:Int)(w:World)(h:1<=m)(h2:m<=12):Calls Tryo.prog 73 #[.bool false,.int .i64 m] w fun e w'=>e= .returned (.tuple #[.agg #[.int .i64 (m),.bool false],.bool true])/\Below w.heap.size w w':=by
 go_enter Tryo.func73,Tryz.ntmps73
 go_wp2_with fail
 refine(fM (m) _ (by omega) (by omega)).mono ?_
 rintro e w1 ⟨rfl,hb1⟩
 obtain⟨hc1,hf1⟩:=aA hb1
 have hz1:=hb1.size
 try simp at hz1
 have g1x0:w1.cell? ⟨w.heap.size,0,none⟩=some (.int .i64 0):=aH hc1
 have g1x1:w1.cell? ⟨w.heap.size,1,none⟩=some (.bool false):=aH hc1
 have g1x2:w1.cell? ⟨w.heap.size+1,0,none⟩=some (.int .i64 (m)):=aH hc1
 have g1x3:w1.cell? ⟨w.heap.size+1,1,none⟩=some (.bool false):=aH hc1
 go_wp2_with fail
 refine bodyPost_ret (v:= .tuple #[.agg #[.int .i64 (m),.bool false],.bool true]) (by simp [results,Tryz.results73,go_sem,g1x0,g1x1]) rfl ⟨rfl, ?_⟩
 first
  |exact bt (baa (ba _ _) _) hb1
  |exact bs (bs (bt (baa (ba _ _) _) hb1) (Nat.le_refl _) _) (Nat.le_refl _) _
theorem Nb(m:Int)(w:World)(h:m<1):Calls Tryo.prog 73 #[.bool true,.int .i64 m] w fun e w'=>e= .returned (.tuple #[.agg #[.int .i64 0,.bool false],.bool false])/\Below w.heap.size w w':=by
 have HR:=Lib.hid (show Cal.right (m) false=false by rw [Cal.right,decide_eq_false_iff_not];omega)
 go_enter Tryo.func73,Tryz.ntmps73
 go_wp2_with fail
 refine(fJ (m) false _ HR.out).mono ?_
 rintro e w1 ⟨rfl,hb1⟩
 obtain⟨hc1,hf1⟩:=aA hb1
 have hz1:=hb1.size
 try simp at hz1
 have g1x0:w1.cell? ⟨w.heap.size,0,none⟩=some (.int .i64 0):=aH hc1
 have g1x1:w1.cell? ⟨w.heap.size,1,none⟩=some (.bool false):=aH hc1
 have g1x2:w1.cell? ⟨w.heap.size+1,0,none⟩=some (.int .i64 (m)):=aH hc1
 have g1x3:w1.cell? ⟨w.heap.size+1,1,none⟩=some (.bool false):=aH hc1
 go_wp2_with fail
 refine bodyPost_ret (v:= .tuple #[.agg #[.int .i64 0,.bool false],.bool false]) (by simp [results,Tryz.results73,go_sem,g1x0,g1x1]) rfl ⟨rfl, ?_⟩
 first
  |exact bt (baa (ba _ _) _) hb1
  |exact bs (bs (bt (baa (ba _ _) _) hb1) (Nat.le_refl _) _) (Nat.le_refl _) _
theorem QW(m:Int)(w:World)(h:1<=m)(h2:m<=5):Calls Tryo.prog 73 #[.bool true,.int .i64 m] w fun e w'=>e= .returned (.tuple #[.agg #[.int .i64 (m),.bool false],.bool true])/\Below w.heap.size w w':=by
 go_enter Tryo.func73,Tryz.ntmps73
 go_wp2_with fail
 refine(fM (m) _ (by omega) (by omega)).mono ?_
 rintro e w1 ⟨rfl,hb1⟩
 obtain⟨hc1,hf1⟩:=aA hb1
 have hz1:=hb1.size
 try simp at hz1
 have g1x0:w1.cell? ⟨w.heap.size,0,none⟩=some (.int .i64 0):=aH hc1
 have g1x1:w1.cell? ⟨w.heap.size,1,none⟩=some (.bool false):=aH hc1
 have g1x2:w1.cell? ⟨w.heap.size+1,0,none⟩=some (.int .i64 (m)):=aH hc1
 have g1x3:w1.cell? ⟨w.heap.size+1,1,none⟩=some (.bool false):=aH hc1
 go_wp2_with fail
 refine bodyPost_ret (v:= .tuple #[.agg #[.int .i64 (m),.bool false],.bool true]) (by simp [results,Tryz.results73,go_sem,g1x0,g1x1]) rfl ⟨rfl, ?_⟩
 first
  |exact bt (baa (ba _ _) _) hb1
  |exact bs (bs (bt (baa (ba _ _) _) hb1) (Nat.le_refl _) _) (Nat.le_refl _) _
theorem QK(m:Int)(w:World)(h:6<m)(h2:m<=13):Calls Tryo.prog 73 #[.bool true,.int .i64 m] w fun e w'=>e= .returned (.tuple #[.agg #[.int .i64 (m-1),.bool false],.bool true])/\Below w.heap.size w w':=by
 have e6:(m==6)=false:=by rw [beq_eq_false_iff_ne];omega
 go_enter Tryo.func73,Tryz.ntmps73
 go_wp2_with fail
 refine(fM (m-1) _ (by omega) (by omega)).mono ?_
 rintro e w1 ⟨rfl,hb1⟩
 obtain⟨hc1,hf1⟩:=aA hb1
 have hz1:=hb1.size
 try simp at hz1
 have g1x0:w1.cell? ⟨w.heap.size,0,none⟩=some (.int .i64 0):=aH hc1
 have g1x1:w1.cell? ⟨w.heap.size,1,none⟩=some (.bool false):=aH hc1
 have g1x2:w1.cell? ⟨w.heap.size+1,0,none⟩=some (.int .i64 (m-1)):=aH hc1
 have g1x3:w1.cell? ⟨w.heap.size+1,1,none⟩=some (.bool false):=aH hc1
 go_wp2_with fail
 refine bodyPost_ret (v:= .tuple #[.agg #[.int .i64 (m-1),.bool false],.bool true]) (by simp [results,Tryz.results73,go_sem,g1x0,g1x1]) rfl ⟨rfl, ?_⟩
 first
  |exact bt (baa (ba _ _) _) hb1
  |exact bs (bs (bt (baa (ba _ _) _) hb1) (Nat.le_refl _) _) (Nat.le_refl _) _
theorem Jk(m:Int)(w:World)(h:13<m)(h2:m<=9223372036854775807):Calls Tryo.prog 73 #[.bool true,.int .i64 m] w fun e w'=>e= .returned (.tuple #[.agg #[.int .i64 0,.bool false],.bool false])/\Below w.heap.size w w':=by
 have e6:(m==6)=false:=by rw [beq_eq_false_iff_ne];omega
 have HR:=Lib.hid (show Cal.right (m-1) false=false by rw [Cal.right,decide_eq_false_iff_not];omega)
 go_enter Tryo.func73,Tryz.ntmps73
 go_wp2_with fail
 refine(fJ (m-1) false _ HR.out).mono ?_
 rintro e w1 ⟨rfl,hb1⟩
 obtain⟨hc1,hf1⟩:=aA hb1
 have hz1:=hb1.size
 try simp at hz1
 have g1x0:w1.cell? ⟨w.heap.size,0,none⟩=some (.int .i64 0):=aH hc1
 have g1x1:w1.cell? ⟨w.heap.size,1,none⟩=some (.bool false):=aH hc1
 have g1x2:w1.cell? ⟨w.heap.size+1,0,none⟩=some (.int .i64 (m-1)):=aH hc1
 have g1x3:w1.cell? ⟨w.heap.size+1,1,none⟩=some (.bool false):=aH hc1
 go_wp2_with fail
 refine bodyPost_ret (v:= .tuple #[.agg #[.int .i64 0,.bool false],.bool false]) (by simp [results,Tryz.results73,go_sem,g1x0,g1x1]) rfl ⟨rfl, ?_⟩
 first
  |exact bt (baa (ba _ _) _) hb1
  |exact bs (bs (bt (baa (ba _ _) _) hb1) (Nat.le_refl _) _) (Nat.le_refl _) _
theorem Ox(w:World):Calls Tryo.prog 73 #[.bool true,.int .i64 6] w fun e w'=>e= .returned (.tuple #[.agg #[.int .i64 5,.bool true],.bool true])/\Below w.heap.size w w':=by
 go_enter Tryo.func73,Tryz.ntmps73
 go_wp2_with fail
 refine(kM _).mono ?_
 rintro e w1 ⟨rfl,hb1⟩
 obtain⟨hc1,hf1⟩:=aA hb1
 have hz1:=hb1.size
 try simp at hz1
 have g1x0:w1.cell? ⟨w.heap.size,0,none⟩=some (.int .i64 0):=aH hc1
 have g1x1:w1.cell? ⟨w.heap.size,1,none⟩=some (.bool false):=aH hc1
 have g1x2:w1.cell? ⟨w.heap.size+1,0,none⟩=some (.int .i64 5):=aH hc1
 have g1x3:w1.cell? ⟨w.heap.size+1,1,none⟩=some (.bool true):=aH hc1
 go_wp2_with fail
 refine bodyPost_ret (v:= .tuple #[.agg #[.int .i64 5,.bool true],.bool true]) (by simp [results,Tryz.results73,go_sem,g1x0,g1x1]) rfl ⟨rfl, ?_⟩
 first
  |exact bt (baa (ba _ _) _) hb1
  |exact bs (bs (bt (baa (ba _ _) _) hb1) (Nat.le_refl _) _) (Nat.le_refl _) _
end
section
open Go.ChangeShapes Go.WideShapes Go.ChangeAt Go.RowKit
theorem um(n:Int)(l:Bool)(w:World)(h:Cal.right n l=false):Calls Tryo.prog 191 #[.bool false,.agg #[.int .i64 n,.bool l]] w fun e w'=>e= .returned (.tuple #[.int .i64 0,.bool false])/\Below w.heap.size w w':=by
 go_enter Tryo.func191,Tryz.ntmps191
 go_wp2_with fail
 refine(fJ n l _ h).mono ?_
 rintro e w1 ⟨rfl,hb1⟩
 obtain⟨hc1,hf1⟩:=aA hb1
 have hz1:=hb1.size
 try simp at hz1
 have g1x0:w1.cell? ⟨w.heap.size,0,none⟩=some (.int .i64 n):=aH hc1
 have g1x1:w1.cell? ⟨w.heap.size,1,none⟩=some (.bool l):=aH hc1
 go_wp2_with fail
 go_ret2
 exact⟨rfl,bt (ba _ _) hb1⟩
theorem uU(n:Int)(l:Bool)(w:World)(h:Cal.right n l=false):Calls Tryo.prog 191 #[.bool true,.agg #[.int .i64 n,.bool l]] w fun e w'=>e= .returned (.tuple #[.int .i64 0,.bool false])/\Below w.heap.size w w':=by
 go_enter Tryo.func191,Tryz.ntmps191
 go_wp2_with fail
 refine(fJ n l _ h).mono ?_
 rintro e w1 ⟨rfl,hb1⟩
 obtain⟨hc1,hf1⟩:=aA hb1
 have hz1:=hb1.size
 try simp at hz1
 have g1x0:w1.cell? ⟨w.heap.size,0,none⟩=some (.int .i64 n):=aH hc1
 have g1x1:w1.cell? ⟨w.heap.size,1,none⟩=some (.bool l):=aH hc1
 go_wp2_with fail
 go_ret2
 exact⟨rfl,bt (ba _ _) hb1⟩
theorem Bw(n:Int)(w:World)(h1:1<=n)(h2:n<=12):Calls Tryo.prog 191 #[.bool false,.agg #[.int .i64 n,.bool false]] w fun e w'=>e= .returned (.tuple #[.int .i64 n,.bool true])/\Below w.heap.size w w':=by
 go_enter Tryo.func191,Tryz.ntmps191
 go_wp2_with fail
 refine(fM n _ h1 h2).mono ?_
 rintro e w1 ⟨rfl,hb1⟩
 obtain⟨hc1,hf1⟩:=aA hb1
 have hz1:=hb1.size
 try simp at hz1
 have g1x0:w1.cell? ⟨w.heap.size,0,none⟩=some (.int .i64 n):=aH hc1
 have g1x1:w1.cell? ⟨w.heap.size,1,none⟩=some (.bool false):=aH hc1
 go_wp2_with fail
 go_ret2
 exact⟨rfl,bt (ba _ _) hb1⟩
theorem F8(n:Int)(w:World)(h1:1<=n)(h2:n<=5):Calls Tryo.prog 191 #[.bool true,.agg #[.int .i64 n,.bool false]] w fun e w'=>e= .returned (.tuple #[.int .i64 n,.bool true])/\Below w.heap.size w w':=by
 go_enter Tryo.func191,Tryz.ntmps191
 go_wp2_with fail
 refine(fM n _ h1 (by omega)).mono ?_
 rintro e w1 ⟨rfl,hb1⟩
 obtain⟨hc1,hf1⟩:=aA hb1
 have hz1:=hb1.size
 try simp at hz1
 have g1x0:w1.cell? ⟨w.heap.size,0,none⟩=some (.int .i64 n):=aH hc1
 have g1x1:w1.cell? ⟨w.heap.size,1,none⟩=some (.bool false):=aH hc1
 go_wp2_with fail
 go_ret2
 exact⟨rfl,bt (ba _ _) hb1⟩
theorem IU(n:Int)(w:World)(h1:5<n)(h2:n<=12):Calls Tryo.prog 191 #[.bool true,.agg #[.int .i64 n,.bool false]] w fun e w'=>e= .returned (.tuple #[.int .i64 (n+1),.bool true])/\Below w.heap.size w w':=by
 go_enter Tryo.func191,Tryz.ntmps191
 go_wp2_with fail
 refine(fM n _ (by omega) h2).mono ?_
 rintro e w1 ⟨rfl,hb1⟩
 obtain⟨hc1,hf1⟩:=aA hb1
 have hz1:=hb1.size
 try simp at hz1
 have g1x0:w1.cell? ⟨w.heap.size,0,none⟩=some (.int .i64 n):=aH hc1
 have g1x1:w1.cell? ⟨w.heap.size,1,none⟩=some (.bool false):=aH hc1
 go_wp2_with fail
 go_ret2
 exact⟨rfl,bt (ba _ _) hb1⟩
theorem C8(w:World):Calls Tryo.prog 191 #[.bool true,.agg #[.int .i64 5,.bool true]] w fun e w'=>e= .returned (.tuple #[.int .i64 6,.bool true])/\Below w.heap.size w w':=by
 go_enter Tryo.func191,Tryz.ntmps191
 go_wp2_with fail
 refine(kM _).mono ?_
 rintro e w1 ⟨rfl,hb1⟩
 obtain⟨hc1,hf1⟩:=aA hb1
 have hz1:=hb1.size
 try simp at hz1
 have g1x0:w1.cell? ⟨w.heap.size,0,none⟩=some (.int .i64 5):=aH hc1
 have g1x1:w1.cell? ⟨w.heap.size,1,none⟩=some (.bool true):=aH hc1
 go_wp2_with fail
 go_ret2
 exact⟨rfl,bt (ba _ _) hb1⟩
theorem Dz(w:World):Calls Tryo.prog 191 #[.bool false,.agg #[.int .i64 5,.bool true]] w fun e w'=>e= .returned (.tuple #[.int .i64 0,.bool false])/\Below w.heap.size w w':=by
 go_enter Tryo.func191,Tryz.ntmps191
 go_wp2_with fail
 refine(kM _).mono ?_
 rintro e w1 ⟨rfl,hb1⟩
 obtain⟨hc1,hf1⟩:=aA hb1
 have hz1:=hb1.size
 try simp at hz1
 have g1x0:w1.cell? ⟨w.heap.size,0,none⟩=some (.int .i64 5):=aH hc1
 have g1x1:w1.cell? ⟨w.heap.size,1,none⟩=some (.bool true):=aH hc1
 go_wp2_with fail
 go_ret2
 exact⟨rfl,bt (ba _ _) hb1⟩
end
section
open Go.ChangeShapes Go.WideShapes Go.ChangeAt Go.RowKit
def Cal.most(lp:Bool):Int:=if lp then 13 else 12
def Cal.iO(lp:Bool)(m:Int):Bool:=decide (1<=m)&&decide (m<=Cal.most lp)
def Cal.ofN(lp:Bool)(m:Int):Int:=if Cal.iO lp m then(if lp&&decide (6<=m)then m-1 else m)else 0
def Cal.ofL(lp:Bool)(m:Int):Bool:=Cal.iO lp m&&(lp&&m==6)
def Cal.fV(lp:Bool)(n:Int)(l:Bool):Bool:=Cal.right n l&& !(l&& !lp)
def Cal.plV(lp:Bool)(n:Int)(l:Bool):Int:=if Cal.fV lp n l then(if lp&&(l||decide (5<n))then n+1 else n)else 0
theorem Cq(n:Int)(l:Bool)(h:Cal.right n l=true):(1<=n/\n<=12/\l=false)∨(n=5/\l=true):=by
 rw [Cal.right,decide_eq_true_iff]at h
 cases l
 ·exact .inl ⟨h.1,h.2.1,rfl⟩
 ·rcases h.2.2 with h3|h3
  ·cases h3
  ·exact .inr ⟨h3,rfl⟩
theorem Qv(lp:Bool)(m:Int)(w:World)(hm:m<=9223372036854775807):Calls Tryo.prog 73 #[.bool lp,.int .i64 m] w fun e w'=>e= .returned (.tuple #[.agg #[.int .i64 (Cal.ofN lp m),.bool (Cal.ofL lp m)],.bool (Cal.iO lp m)])/\Below w.heap.size w w':=by
 cases lp
 ·rcases(show m<1∨12<m∨(1<=m/\m<=12) by omega)with c|c|⟨c1,c2⟩
  ·have e:Cal.iO false m=false:=by simp [Cal.iO,Cal.most];omega
   simp only [Cal.ofN,Cal.ofL,e,Bool.false_and,Bool.false_eq_true,if_false]
   exact QI m w c
  ·have e:Cal.iO false m=false:=by simp [Cal.iO,Cal.most];omega
   simp only [Cal.ofN,Cal.ofL,e,Bool.false_and,Bool.false_eq_true,if_false]
   exact NK m w c
  ·have e:Cal.iO false m=true:=by simp [Cal.iO,Cal.most,c1,c2]
   simp only [Cal.ofN,Cal.ofL,e,Bool.false_and,Bool.and_false,Bool.false_eq_true,if_false,if_true]
   exact SS m w c1 c2
 ·rcases(show m<1∨13<m∨(1<=m/\m<=5)∨m=6∨(6<m/\m<=13) by omega)with c|c|⟨c1,c2⟩|rfl|⟨c1,c2⟩
  ·have e:Cal.iO true m=false:=by simp [Cal.iO,Cal.most];omega
   simp only [Cal.ofN,Cal.ofL,e,Bool.false_and,Bool.false_eq_true,if_false]
   exact Nb m w c
  ·have e:Cal.iO true m=false:=by simp [Cal.iO,Cal.most];omega
   simp only [Cal.ofN,Cal.ofL,e,Bool.false_and,Bool.false_eq_true,if_false]
   exact Jk m w c hm
  ·have e:Cal.iO true m=true:=by simp [Cal.iO,Cal.most,c1];omega
   have e2:decide (6<=m)=false:=by simp;omega
   have e3:(m==6)=false:=by rw [beq_eq_false_iff_ne];omega
   simp only [Cal.ofN,Cal.ofL,e,e2,e3,Bool.and_false,Bool.false_eq_true,if_false,if_true]
   exact QW m w c1 c2
  ·exact Ox w
  ·have e:Cal.iO true m=true:=by simp [Cal.iO,Cal.most,c2];omega
   have e2:decide (6<=m)=true:=by simp;omega
   have e3:(m==6)=false:=by rw [beq_eq_false_iff_ne];omega
   simp only [Cal.ofN,Cal.ofL,e,e2,e3,Bool.and_false,Bool.and_true,if_true]
   exact QK m w c1 c2
theorem Ee(lp:Bool)(n:Int)(l:Bool)(h:Cal.right n l=false):Cal.fV lp n l=false/\Cal.plV lp n l=0:=by simp [Cal.plV,Cal.fV,h]
theorem qw(lp:Bool)(n:Int)(l:Bool)(w:World):Calls Tryo.prog 191 #[.bool lp,.agg #[.int .i64 n,.bool l]] w fun e w'=>e= .returned (.tuple #[.int .i64 (Cal.plV lp n l),.bool (Cal.fV lp n l)])/\Below w.heap.size w w':=by
 cases h:Cal.right n l
 ·rw [(Ee lp n l h).1,(Ee lp n l h).2]
  cases lp
  ·exact um n l w h
  ·exact uU n l w h
 ·rcases Cq n l h with ⟨h1,h2,rfl⟩|⟨rfl,rfl⟩
  ·have e:∀lp,Cal.fV lp n false=true:=fun lp=>by simp [Cal.fV,h]
   cases lp
   ·simp only [Cal.plV,e,Bool.false_and,Bool.false_eq_true,if_false,if_true]
    exact Bw n w h1 h2
   ·by_cases c:5<n
    ·simp only [Cal.plV,e,Bool.false_or,c,decide_true,Bool.and_true,if_true]
     exact IU n w c h2
    ·simp only [Cal.plV,e,Bool.false_or,c,decide_false,Bool.and_false,Bool.false_eq_true,if_false,if_true]
     exact F8 n w h1 (by omega)
  ·cases lp
   ·exact Dz w
   ·exact C8 w
open Go.ChangeShapes Go.WideShapes Go.ChangeAt Go.RowKit
def bg(lp:Bool):Nat->List (Int×Bool)
 |0=> []
 |k+1=>bg lp k++(((k:Int)+1,false) :: if k=4/\lp=true then [(5,true)]else [])
def jE(xs:List (Int×Bool)):List Value:=xs.flatMap fun c=> [.int .i64 c.1,.bool c.2]
theorem Fw(xs ys:List (Int×Bool)):jE (xs++ys)=jE xs++jE ys:=by simp [jE]
theorem Ke:∀ (xs:List (Int×Bool)) (i:Nat) c,xs[i]? =some c->(jE xs)[i*2]? =some (.int .i64 c.1)/\(jE xs)[i*2+1]? =some (.bool c.2)
 | [],i,c,h=>by simp at h
 |x :: xs,0,c,h=>by
  simp only [List.getElem?_cons_zero,Option.some.injEq]at h
  subst h
  exact⟨rfl,rfl⟩
 |x :: xs,i+1,c,h=>by
  have ih:=Ke xs i c (by simpa using h)
  show(_ :: _ :: jE xs)[(i+1)*2]? =_/\(_ :: _ :: jE xs)[(i+1)*2+1]? =_
  rw [show(i+1)*2=i*2+1+1 by omega,show i*2+1+1+1=i*2+1+1+1 from rfl]
  simpa using ih
theorem Cr(lp:Bool):∀k,k<=(bg lp k).length/\(bg lp k).length<=2*k
 |0=>by simp [bg]
 |k+1=>by
  have ih:=Cr lp k
  simp only [bg,List.length_append,List.length_cons]
  split <;> simp <;> omega
def Ze(w:World)(B:Nat)(v:Value)(xs:List (Int×Bool)):Prop:=∃g cap,v= .slice (some ⟨g,0,none⟩) xs.length cap/\xs.length<=cap/\B<=g/\g<w.heap.size/\∀ (j:Nat) c,xs[j]? =some c->w.cell? ⟨g,j*2,none⟩=some (.int .i64 c.1)/\w.cell? ⟨g,j*2+1,none⟩=some (.bool c.2)
theorem M9{w:World}{B n e:Nat}{v:Value}{xs:List (Int×Bool)}(h:w.ownsRow B e 2 v n (jE xs))(hn:n=xs.length)(h0:0<n):Ze w B v xs:=by
 obtain⟨g,cap,rfl,hle,hlt⟩:=h.form h0
 have hc:=fun j hj=>h.cellAt (g:=g) (cap:=cap) j hj
 obtain⟨_,h2⟩:=h
 rcases h2 with ⟨h,_⟩|⟨g',cap',cur,hv,h1,h2,h3,h4,h5,h6⟩
 ·cases h
 ·simp only [Value.slice.injEq,Option.some.injEq,Addr.mk.injEq,and_true,true_and]at hv
  obtain⟨rfl,rfl⟩:=hv
  subst hn
  refine⟨_,_,rfl,h3,h1,(Array.getElem?_eq_some_iff.1 h2).1,fun j c hj=> ?_⟩
  have hl:=(List.getElem?_eq_some_iff.1 hj).1
  obtain⟨e1,e2⟩:=Ke xs j c hj
  exact⟨(hc (j*2) (by omega)).trans e1,(hc (j*2+1) (by omega)).trans e2⟩
theorem RZ:(Tryo.prog.info? 25).map (fun i=>(i.zero,i.size,i.bytes))=some (some (.agg #[.int .i64 0,.bool false]),2,16):=by kernel_rfl
theorem XI(w:World)(n:Int)(l:Bool)(t:TypeId):∀j u,[Value.int .i64 n,.bool l][j]? =some u->(w.alloc (.cells #[.int .i64 n,.bool l] t)).cell? ((⟨w.heap.size,0,none⟩:Addr).add j)=some u:=
 iF w #[.int .i64 n,.bool l] t w.heap.size rfl
theorem one2(n:Int)(l:Bool):∀u∈ [Value.int .i64 n,.bool l],u.oneCell'=true:=by
 intro u hu
 simp only [List.mem_cons,List.not_mem_nil,or_false]at hu
 rcases hu with rfl|rfl <;> rfl
theorem Gp{w a b:World}{e s n:Nat}{v:Value}{xs:List Value}(h:Below w.heap.size w a)(ho:a.ownsRow w.heap.size e s v n xs)(hg:(a).grownBy b v.ownBlock):Below w.heap.size w b:=h.grown hg h.size (fun k hk=>(ho.lt k hk).1)
theorem je(lp:Bool)(w:World):Calls Tryo.prog 163 #[.bool lp] w fun e w'=>∃v,e= .returned v/\Ze w' w.heap.size v (bg lp 12)/\Below w.heap.size w w':=by
 obtain⟨i0,hi,hz0,hz1,hz2⟩:=info_parts RZ
 go_enter Tryo.func163,Tryz.ntmps163
 go_wp2_with fail
 go_loopw [3,4] (fun v n wr=>∃k:Nat,k<=12/\n= .int .i64 ((k:Int)+1)/\wr.ownsRow w.heap.size 25 2 v (bg lp k).length (jE (bg lp k))/\Below w.heap.size w wr) (fun _ n _=>13-(intOf n).toNat)
 case atStart=>exact⟨0,by omega,rfl,World.ownsRow_nil _ _ _ _,Below.refl _ _⟩
 case round=>
  obtain⟨k,hk,rfl,hown,hB⟩:=hrel
  have hlen:=Cr lp k
  have hsz:=hB.size
  obtain⟨L,hL⟩:∃L,(bg lp k).length=L:=⟨_,rfl⟩
  rw [hL]at hown hlen
  obtain⟨C,hC⟩:∃C,jE (bg lp k)=C:=⟨_,rfl⟩
  rw [hC]at hown
  by_cases hlt:k<12
  ·have HR:Hid (∀ (v:Value) (w':World),(k=4/\lp=true->False)->w'.ownsRow w.heap.size 25 2 v (L+1) (C++ [.int .i64 ((k:Int)+1),.bool false])->w'.ownsRow w.heap.size 25 2 v (bg lp (k+1)).length (jE (bg lp (k+1)))):=fun v w' hn h=>by
    have e:bg lp (k+1)=bg lp k++ [((k:Int)+1,false)]:=by simp only [bg];rw [if_neg hn]
    rw [e,Fw,hC,List.length_append,hL]
    exact h
   have HR2:Hid (∀ (v:Value) (w':World),k=4/\lp=true->w'.ownsRow w.heap.size 25 2 v (L+1+1) (C++ [.int .i64 ((k:Int)+1),.bool false]++ [.int .i64 5,.bool true])->w'.ownsRow w.heap.size 25 2 v (bg lp (k+1)).length (jE (bg lp (k+1)))):=fun v w' hn h=>by
    have e:bg lp (k+1)=bg lp k++ [((k:Int)+1,false),(5,true)]:=by simp only [bg];rw [if_pos hn]
    rw [e,Fw,hC,List.length_append,hL]
    have e2:jE [((k:Int)+1,false),(5,true)]= [.int .i64 ((k:Int)+1),.bool false]++ [.int .i64 5,.bool true]:=rfl
    rw [e2,←List.append_assoc]
    exact h
   have HN:=Lib.hid hlt
   clear hL hC
   by_cases h5:k=4/\lp=true
   ·have HH:=Lib.hid h5
    obtain⟨rfl,rfl⟩:=h5
    go_wp2_with (first|(at_builtin;refine wpList_append_own _ rfl (.tmp 9) (.tmp 12) _ rfl w.heap.size 25 i0 (.agg #[.int .i64 0,.bool false]) 2 16 (aI Tryz.underlying183) hi hz0 hz1 hz2 rfl (by decide) _ (L) (C) rfl (hown.alloc _) ⟨wr.heap.size,0,none⟩ 1 1 [.int .i64 (((4:Nat):Int)+1),.bool false] rfl rfl (XI _ _ _ _) (one2 _ _) (by simp only [maxLen];omega) (by omega) (by simp;omega) ?_;intro v1 w1 hown1 hgrow1 _)|(at_builtin;refine wpList_append_own _ rfl (.tmp 19) (.tmp 21) _ rfl w.heap.size 25 i0 (.agg #[.int .i64 0,.bool false]) 2 16 (aI Tryz.underlying183) hi hz0 hz1 hz2 rfl (by decide) _ (L+1) (C++ [.int .i64 (((4:Nat):Int)+1),.bool false]) rfl (hown1.alloc _) ⟨w1.heap.size,0,none⟩ 1 1 [.int .i64 (5),.bool true] rfl rfl (XI _ _ _ _) (one2 _ _) (by simp only [maxLen];omega) (by omega) (by have:=hgrow1.size;simp at this⊢;omega) ?_;intro v2 w2 hown2 hgrow2 _))
    go_roundw
    case rel=>exact⟨4+1,by omega,by go_num,HR2.out _ _ HH.out hown2,Gp (baa (Gp (baa hB _) (hown.alloc _) hgrow1) _) (hown1.alloc _) hgrow2⟩
    case measure=>simp [intOf]
   ·have HH:=Lib.hid h5
    have h6:(((k:Int)+1==5)=false)∨(lp=false):=by
     by_cases hk4:k=4
     ·right;cases lp <;> simp_all
     ·left;rw [beq_eq_false_iff_ne];omega
    clear h5
    rcases h6 with h6|rfl
    all_goals
     go_wp2_with ((at_builtin;refine wpList_append_own _ rfl (.tmp 9) (.tmp 12) _ rfl w.heap.size 25 i0 (.agg #[.int .i64 0,.bool false]) 2 16 (aI Tryz.underlying183) hi hz0 hz1 hz2 rfl (by decide) _ (L) (C) rfl (hown.alloc _) ⟨wr.heap.size,0,none⟩ 1 1 [.int .i64 ((k:Int)+1),.bool false] rfl rfl (XI _ _ _ _) (one2 _ _) (by simp only [maxLen];omega) (by omega) (by simp;omega) ?_;intro v1 w1 hown1 hgrow1 _))
    all_goals go_roundw
    all_goals first
     |exact⟨k+1,by omega,by go_num,HR.out _ _ (fun h=>HH.out h) hown1,Gp (baa hB _) (hown.alloc _) hgrow1⟩
     |(simp [intOf];omega)
  ·obtain rfl:k=12:=by omega
   have HLC:=Lib.hid (And.intro hL hC)
   clear hL hC
   go_wp2_with fail
   go_ret
   exact⟨_,rfl,M9 (HLC.out.2▸HLC.out.1▸hown) rfl (by rw [HLC.out.1];omega),hB⟩
open Go.ChangeShapes Go.WideShapes Go.ChangeAt Go.RowKit
theorem Wt{a b:Int}{x y:Bool}(h:a=b)(h':x=y):Ending.returned (.tuple #[.int .i64 a,.bool x])= .returned (.tuple #[.int .i64 b,.bool y]):=by rw [h,h']
theorem JX(lp:Bool):(bg lp 12).length=if lp then 13 else 12:=by cases lp <;> decide
def X6(lp:Bool):Bool:=(List.range (bg lp 12).length).all fun j=>(bg lp 12)[j]? ==some (Cal.ofN lp ((j:Int)+1),Cal.ofL lp ((j:Int)+1))&&(Cal.fV lp (Cal.ofN lp ((j:Int)+1)) (Cal.ofL lp ((j:Int)+1))&&Cal.plV lp (Cal.ofN lp ((j:Int)+1)) (Cal.ofL lp ((j:Int)+1))==(j:Int)+1)
theorem TG(lp:Bool):X6 lp=true:=by cases lp <;> decide+kernel
theorem zJ(lp:Bool)(j:Nat)(hj:j<(bg lp 12).length):(bg lp 12)[j]? =some (Cal.ofN lp ((j:Int)+1),Cal.ofL lp ((j:Int)+1))/\Cal.fV lp (Cal.ofN lp ((j:Int)+1)) (Cal.ofL lp ((j:Int)+1))=true/\Cal.plV lp (Cal.ofN lp ((j:Int)+1)) (Cal.ofL lp ((j:Int)+1))=(j:Int)+1:=by
 have:=List.all_eq_true.1 (TG lp) j (List.mem_range.2 hj)
 simp only [Bool.and_eq_true,beq_iff_eq]at this
 exact this
theorem BU(lp:Bool)(j:Nat)(n:Int)(l:Bool)(h:(bg lp 12)[j]? =some (n,l)):Cal.fV lp n l=true/\Cal.plV lp n l=(j:Int)+1:=by
 have h2:=zJ lp j (List.getElem?_eq_some_iff.1 h).1
 rw [h2.1]at h
 simp only [Option.some.injEq,Prod.mk.injEq]at h
 rw [h.1,h.2]at h2
 exact h2.2
theorem Cx(lp:Bool)(n:Int)(l:Bool)(h:Cal.fV lp n l=true):∃j,j<(bg lp 12).length/\(bg lp 12)[j]? =some (n,l):=by
 have hr:Cal.right n l=true:=by
  cases c:Cal.right n l
  ·rw [(Ee lp n l c).1]at h;exact h
  ·rfl
 rcases Cq n l hr with ⟨h1,h2,rfl⟩|⟨rfl,rfl⟩
 ·obtain⟨k,hk,rfl⟩:∃k:Nat,k<12/\n=(k:Int)+1:=⟨(n-1).toNat,by omega,by omega⟩
  cases lp
  ·match k,hk with
   |0,_=>exact⟨0,by decide,by decide⟩
   |1,_=>exact⟨1,by decide,by decide⟩
   |2,_=>exact⟨2,by decide,by decide⟩
   |3,_=>exact⟨3,by decide,by decide⟩
   |4,_=>exact⟨4,by decide,by decide⟩
   |5,_=>exact⟨5,by decide,by decide⟩
   |6,_=>exact⟨6,by decide,by decide⟩
   |7,_=>exact⟨7,by decide,by decide⟩
   |8,_=>exact⟨8,by decide,by decide⟩
   |9,_=>exact⟨9,by decide,by decide⟩
   |10,_=>exact⟨10,by decide,by decide⟩
   |11,_=>exact⟨11,by decide,by decide⟩
  ·match k,hk with
   |0,_=>exact⟨0,by decide,by decide⟩
   |1,_=>exact⟨1,by decide,by decide⟩
   |2,_=>exact⟨2,by decide,by decide⟩
   |3,_=>exact⟨3,by decide,by decide⟩
   |4,_=>exact⟨4,by decide,by decide⟩
   |5,_=>exact⟨6,by decide,by decide⟩
   |6,_=>exact⟨7,by decide,by decide⟩
   |7,_=>exact⟨8,by decide,by decide⟩
   |8,_=>exact⟨9,by decide,by decide⟩
   |9,_=>exact⟨10,by decide,by decide⟩
   |10,_=>exact⟨11,by decide,by decide⟩
   |11,_=>exact⟨12,by decide,by decide⟩
 ·cases lp
  ·simp [Cal.fV]at h
  ·exact⟨5,by decide,by decide⟩
theorem Rf(lp:Bool)(m:Int)(w:World)(hm:m<=9223372036854775807):
  Calls Tryo.prog 93 #[.bool lp,.int .i64 m] w fun e w'=>e= .returned (.tuple #[.agg #[.int .i64 (Cal.ofN lp m),.bool (Cal.ofL lp m)],.bool (Cal.iO lp m)])/\Below w.heap.size w w':=by
 cases lp
 ·rcases(show m<1∨(1<=m/\12<m)∨(1<=m/\m<=12) by omega)with c|⟨c1,c⟩|⟨c1,c2⟩
  ·have e:Cal.iO false m=false:=by simp [Cal.iO,Cal.most];omega
   simp only [Cal.ofN,Cal.ofL,e,Bool.false_and,Bool.false_eq_true,if_false]
   have hl:(bg false 12).length=12:=by decide
   go_enter Tryo.func93,Tryz.ntmps93
   go_wp2_with fail
   refine(je false _).mono ?_
   rintro e w1 ⟨v,rfl,⟨g,cap,rfl,hcap,hBg,hg,hcell⟩,hb1⟩
   obtain⟨hc1,hf1⟩:=aA hb1
   have hz1:=hb1.size
   try simp at hz1
   try simp at hBg
   have hs1:w.heap.size<w1.heap.size:=by omega
   have g1x0:w1.cell? ⟨w.heap.size,0,none⟩=some (.int .i64 0):=(hc1 _ _ (by simp)).trans (by simp [go_sem])
   have g1x1:w1.cell? ⟨w.heap.size,1,none⟩=some (.bool false):=(hc1 _ _ (by simp)).trans (by simp [go_sem])
   rw [hl]
   clear hl hcell
   go_wp2_with fail
   refine bodyPost_ret (v:= .tuple #[.agg #[.int .i64 0,.bool false],.bool false]) (by simp [results,Tryz.results93,go_sem,g1x0,g1x1]) rfl ⟨rfl, ?_⟩
   repeat(first|exact Below.refl _ _|assumption|(with_reducible refine bU ?_)|(with_reducible refine baa ?_ _)|(with_reducible refine bs ?_ (by first|exact Nat.le_refl _|omega|(simp;omega)) _)|(with_reducible refine bt ?_ (by assumption)))
  ·have e:Cal.iO false m=false:=by simp [Cal.iO,Cal.most];omega
   simp only [Cal.ofN,Cal.ofL,e,Bool.false_and,Bool.false_eq_true,if_false]
   have hl:(bg false 12).length=12:=by decide
   go_enter Tryo.func93,Tryz.ntmps93
   go_wp2_with fail
   refine(je false _).mono ?_
   rintro e w1 ⟨v,rfl,⟨g,cap,rfl,hcap,hBg,hg,hcell⟩,hb1⟩
   obtain⟨hc1,hf1⟩:=aA hb1
   have hz1:=hb1.size
   try simp at hz1
   try simp at hBg
   have hs1:w.heap.size<w1.heap.size:=by omega
   have g1x0:w1.cell? ⟨w.heap.size,0,none⟩=some (.int .i64 0):=(hc1 _ _ (by simp)).trans (by simp [go_sem])
   have g1x1:w1.cell? ⟨w.heap.size,1,none⟩=some (.bool false):=(hc1 _ _ (by simp)).trans (by simp [go_sem])
   rw [hl]
   clear hl hcell
   go_wp2_with fail
   refine bodyPost_ret (v:= .tuple #[.agg #[.int .i64 0,.bool false],.bool false]) (by simp [results,Tryz.results93,go_sem,g1x0,g1x1]) rfl ⟨rfl, ?_⟩
   repeat(first|exact Below.refl _ _|assumption|(with_reducible refine bU ?_)|(with_reducible refine baa ?_ _)|(with_reducible refine bs ?_ (by first|exact Nat.le_refl _|omega|(simp;omega)) _)|(with_reducible refine bt ?_ (by assumption)))
  ·obtain⟨j,hj,rfl⟩:∃j:Nat,j<12/\m=(j:Int)+1:=⟨(m-1).toNat,by omega,by omega⟩
   have e:Cal.iO false ((j:Int)+1)=true:=by simp [Cal.iO,Cal.most];omega
   have hl:(bg false 12).length=12:=by decide
   obtain⟨ha, -, -⟩:=zJ false j (by omega)
   have h1:(j:Int)<12:=by omega
   have h2:(0:Int)<=(j:Int):=by omega
   rw [e]
   have HA:=Lib.hid ha
   clear e ha
   generalize Cal.ofN false ((j:Int)+1)=x at*
   generalize Cal.ofL false ((j:Int)+1)=y at*
   go_enter Tryo.func93,Tryz.ntmps93
   go_wp2_with fail
   refine(je false _).mono ?_
   rintro e w1 ⟨v,rfl,⟨g,cap,rfl,hcap,hBg,hg,hcell⟩,hb1⟩
   obtain⟨hc1,hf1⟩:=aA hb1
   have hz1:=hb1.size
   try simp at hz1
   try simp at hBg
   have hs1:w.heap.size<w1.heap.size:=by omega
   have g1x0:w1.cell? ⟨w.heap.size,0,none⟩=some (.int .i64 0):=(hc1 _ _ (by simp)).trans (by simp [go_sem])
   have g1x1:w1.cell? ⟨w.heap.size,1,none⟩=some (.bool false):=(hc1 _ _ (by simp)).trans (by simp [go_sem])
   obtain⟨d1,d2⟩:=hcell j _ HA.out
   simp only at d1 d2
   rw [hl]
   clear hl hcell hcap hj c1 c2 hm
   go_wp2_with fail
   refine bodyPost_ret (v:= .tuple #[.agg #[.int .i64 x,.bool y],.bool true]) (by simp [results,Tryz.results93,go_sem,g1x0,g1x1]) rfl ⟨rfl, ?_⟩
   repeat(first|exact Below.refl _ _|assumption|(with_reducible refine bU ?_)|(with_reducible refine baa ?_ _)|(with_reducible refine bs ?_ (by first|exact Nat.le_refl _|omega|(simp;omega)) _)|(with_reducible refine bt ?_ (by assumption)))
 ·rcases(show m<1∨(1<=m/\13<m)∨(1<=m/\m<=13) by omega)with c|⟨c1,c⟩|⟨c1,c2⟩
  ·have e:Cal.iO true m=false:=by simp [Cal.iO,Cal.most];omega
   simp only [Cal.ofN,Cal.ofL,e,Bool.false_and,Bool.false_eq_true,if_false]
   have hl:(bg true 12).length=13:=by decide
   go_enter Tryo.func93,Tryz.ntmps93
   go_wp2_with fail
   refine(je true _).mono ?_
   rintro e w1 ⟨v,rfl,⟨g,cap,rfl,hcap,hBg,hg,hcell⟩,hb1⟩
   obtain⟨hc1,hf1⟩:=aA hb1
   have hz1:=hb1.size
   try simp at hz1
   try simp at hBg
   have hs1:w.heap.size<w1.heap.size:=by omega
   have g1x0:w1.cell? ⟨w.heap.size,0,none⟩=some (.int .i64 0):=(hc1 _ _ (by simp)).trans (by simp [go_sem])
   have g1x1:w1.cell? ⟨w.heap.size,1,none⟩=some (.bool false):=(hc1 _ _ (by simp)).trans (by simp [go_sem])
   rw [hl]
   clear hl hcell
   go_wp2_with fail
   refine bodyPost_ret (v:= .tuple #[.agg #[.int .i64 0,.bool false],.bool false]) (by simp [results,Tryz.results93,go_sem,g1x0,g1x1]) rfl ⟨rfl, ?_⟩
   repeat(first|exact Below.refl _ _|assumption|(with_reducible refine bU ?_)|(with_reducible refine baa ?_ _)|(with_reducible refine bs ?_ (by first|exact Nat.le_refl _|omega|(simp;omega)) _)|(with_reducible refine bt ?_ (by assumption)))
  ·have e:Cal.iO true m=false:=by simp [Cal.iO,Cal.most];omega
   simp only [Cal.ofN,Cal.ofL,e,Bool.false_and,Bool.false_eq_true,if_false]
   have hl:(bg true 12).length=13:=by decide
   go_enter Tryo.func93,Tryz.ntmps93
   go_wp2_with fail
   refine(je true _).mono ?_
   rintro e w1 ⟨v,rfl,⟨g,cap,rfl,hcap,hBg,hg,hcell⟩,hb1⟩
   obtain⟨hc1,hf1⟩:=aA hb1
   have hz1:=hb1.size
   try simp at hz1
   try simp at hBg
   have hs1:w.heap.size<w1.heap.size:=by omega
   have g1x0:w1.cell? ⟨w.heap.size,0,none⟩=some (.int .i64 0):=(hc1 _ _ (by simp)).trans (by simp [go_sem])
   have g1x1:w1.cell? ⟨w.heap.size,1,none⟩=some (.bool false):=(hc1 _ _ (by simp)).trans (by simp [go_sem])
   rw [hl]
   clear hl hcell
   go_wp2_with fail
   refine bodyPost_ret (v:= .tuple #[.agg #[.int .i64 0,.bool false],.bool false]) (by simp [results,Tryz.results93,go_sem,g1x0,g1x1]) rfl ⟨rfl, ?_⟩
   repeat(first|exact Below.refl _ _|assumption|(with_reducible refine bU ?_)|(with_reducible refine baa ?_ _)|(with_reducible refine bs ?_ (by first|exact Nat.le_refl _|omega|(simp;omega)) _)|(with_reducible refine bt ?_ (by assumption)))
  ·obtain⟨j,hj,rfl⟩:∃j:Nat,j<13/\m=(j:Int)+1:=⟨(m-1).toNat,by omega,by omega⟩
   have e:Cal.iO true ((j:Int)+1)=true:=by simp [Cal.iO,Cal.most];omega
   have hl:(bg true 12).length=13:=by decide
   obtain⟨ha, -, -⟩:=zJ true j (by omega)
   have h1:(j:Int)<13:=by omega
   have h2:(0:Int)<=(j:Int):=by omega
   rw [e]
   have HA:=Lib.hid ha
   clear e ha
   generalize Cal.ofN true ((j:Int)+1)=x at*
   generalize Cal.ofL true ((j:Int)+1)=y at*
   go_enter Tryo.func93,Tryz.ntmps93
   go_wp2_with fail
   refine(je true _).mono ?_
   rintro e w1 ⟨v,rfl,⟨g,cap,rfl,hcap,hBg,hg,hcell⟩,hb1⟩
   obtain⟨hc1,hf1⟩:=aA hb1
   have hz1:=hb1.size
   try simp at hz1
   try simp at hBg
   have hs1:w.heap.size<w1.heap.size:=by omega
   have g1x0:w1.cell? ⟨w.heap.size,0,none⟩=some (.int .i64 0):=(hc1 _ _ (by simp)).trans (by simp [go_sem])
   have g1x1:w1.cell? ⟨w.heap.size,1,none⟩=some (.bool false):=(hc1 _ _ (by simp)).trans (by simp [go_sem])
   obtain⟨d1,d2⟩:=hcell j _ HA.out
   simp only at d1 d2
   rw [hl]
   clear hl hcell hcap hj c1 c2 hm
   go_wp2_with fail
   refine bodyPost_ret (v:= .tuple #[.agg #[.int .i64 x,.bool y],.bool true]) (by simp [results,Tryz.results93,go_sem,g1x0,g1x1]) rfl ⟨rfl, ?_⟩
   repeat(first|exact Below.refl _ _|assumption|(with_reducible refine bU ?_)|(with_reducible refine baa ?_ _)|(with_reducible refine bs ?_ (by first|exact Nat.le_refl _|omega|(simp;omega)) _)|(with_reducible refine bt ?_ (by assumption)))
theorem lX(lp:Bool)(n:Int)(l:Bool)(w:World):
  Calls Tryo.prog 218 #[.bool lp,.agg #[.int .i64 n,.bool l]] w fun e w'=>e= .returned (.tuple #[.int .i64 (Cal.plV lp n l),.bool (Cal.fV lp n l)])/\Below w.heap.size w w':=by
 have HP:=Lib.hid (BU lp)
 have HT:=Lib.hid (Cx lp n l)
 have HN:=Lib.hid (Ee lp n l)
 have hN13:(bg lp 12).length<=13:=by rw [JX];split <;> omega
 have HV:Hid (Cal.fV lp n l=false->Cal.plV lp n l=0):=fun h=>by rw [Cal.plV,if_neg (by rw [h];exact Bool.false_ne_true)]
 go_enter Tryo.func218,Tryz.ntmps218
 go_wp2_with fail
 refine(je lp _).mono ?_
 rintro e w1 ⟨v,rfl,⟨g,cap,rfl,hcap,hBg,hg,hcell⟩,hb1⟩
 obtain⟨hc1,hf1⟩:=aA hb1
 have hz1:=hb1.size
 try simp at hz1
 try simp at hBg
 have hs1:w.heap.size<w1.heap.size:=by omega
 have g1x0:w1.cell? ⟨w.heap.size,0,none⟩=some (.int .i64 n):=(hc1 _ _ (by simp)).trans (by simp [go_sem])
 have g1x1:w1.cell? ⟨w.heap.size,1,none⟩=some (.bool l):=(hc1 _ _ (by simp)).trans (by simp [go_sem])
 generalize bg lp 12=xs at*
 have HC:=Lib.hid hcell
 clear hcell hc1
 go_wp2_with fail
 go_loopw [7] (fun i wr=>∃j:Nat,j<=xs.length/\i= .int .i64 j/\Hid (∀i',i'<j->xs[i']? ≠some (n,l))/\Below w1.heap.size w1 wr) (fun i _=>xs.length-(intOf i).toNat)
 case atStart=>exact⟨0,by omega,rfl,Lib.hid (fun _ h=>absurd h (by omega)),Below.refl _ _⟩
 case round=>
  obtain⟨j,hj,rfl,hno,hB⟩:=hrel
  have hsz:=hB.size
  by_cases hlt:j<xs.length
  ·obtain⟨⟨x,y⟩,hx⟩:∃c,xs[j]? =some c:=⟨_,List.getElem?_eq_getElem hlt⟩
   obtain⟨d1,d2⟩:=HC.out j _ hx
   simp only at d1 d2
   have e1:=(hB.cell (p:=⟨g,j*2,none⟩) hg).trans d1
   have e2:=(hB.cell (p:=⟨g,j*2+1,none⟩) hg).trans d2
   have e3:=(hB.cell (p:=⟨w.heap.size,0,none⟩) hs1).trans g1x0
   have e4:=(hB.cell (p:=⟨w.heap.size,1,none⟩) hs1).trans g1x1
   have hg2:g<wr.heap.size:=by omega
   have hs2:w.heap.size<wr.heap.size:=by omega
   have h1:(j:Int)<(xs.length:Int):=by omega
   have h2:(0:Int)<=(j:Int):=by omega
   have HX:=Lib.hid hx
   clear d1 d2 hx
   by_cases f1:x=n
   ·subst f1
    by_cases f2:y=l
    ·subst f2
     have HR:=Lib.hid (HP.out j _ _ HX.out)
     go_wp2_with fail
     refine aJ (by kernel_rfl) (by kernel_rfl) (fun hall=> ?_)
     repeat(first|go_big_quiet_skip|(go_big_quiet_want;first|(refine ql1 _ _ _ rfl rfl ?_;apply Exists.intro;refine⟨?_, ?_⟩;assumption;go_simp;go_big_quiet_on)|(refine ql2 _ _ _ _ rfl rfl ?_;apply Exists.intro;apply Exists.intro;refine⟨?_, ?_, ?_⟩;assumption;assumption;go_simp;go_big_quiet_on)|(refine ql3 _ _ _ _ rfl rfl ?_;apply Exists.intro;apply Exists.intro;apply Exists.intro;refine⟨?_, ?_, ?_, ?_⟩;assumption;assumption;assumption;go_simp;go_big_quiet_on)|(refine ql4 _ _ _ _ rfl rfl ?_;apply Exists.intro;apply Exists.intro;apply Exists.intro;apply Exists.intro;refine⟨?_, ?_, ?_, ?_, ?_⟩;assumption;assumption;assumption;assumption;go_simp;go_big_quiet_on)|(go_big_quiet_op;first|go_big_quiet_on|(apply Exists.intro;refine⟨fun x hx=> ?_, ?_⟩;(first|fail);go_big_quiet_on))))
     refine wpQuiet_nil ?_
     clear hall
     intro x2 hx2
     have hz2:=hx2.size
     go_wp2_with fail
     go_ret2
     exact⟨Wt HR.out.2.symm HR.out.1.symm,bt (bt (ba _ _) hb1) (bt hB hx2)⟩
    ·have HNx:Hid (∀i',i'<j+1->xs[i']? ≠some (x,l)):=fun i' hi' he=>by
      by_cases c:i'<j
      ·exact hno.out i' c he
      ·obtain rfl:i'=j:=by omega
       rw [HX.out]at he
       simp only [Option.some.injEq,Prod.mk.injEq]at he
       exact f2 he.2
     go_wp2_with fail
     refine aJ (by kernel_rfl) (by kernel_rfl) (fun hall=> ?_)
     repeat(first|go_big_quiet_skip|(go_big_quiet_want;first|(refine ql1 _ _ _ rfl rfl ?_;apply Exists.intro;refine⟨?_, ?_⟩;assumption;go_simp;go_big_quiet_on)|(refine ql2 _ _ _ _ rfl rfl ?_;apply Exists.intro;apply Exists.intro;refine⟨?_, ?_, ?_⟩;assumption;assumption;go_simp;go_big_quiet_on)|(refine ql3 _ _ _ _ rfl rfl ?_;apply Exists.intro;apply Exists.intro;apply Exists.intro;refine⟨?_, ?_, ?_, ?_⟩;assumption;assumption;assumption;go_simp;go_big_quiet_on)|(refine ql4 _ _ _ _ rfl rfl ?_;apply Exists.intro;apply Exists.intro;apply Exists.intro;apply Exists.intro;refine⟨?_, ?_, ?_, ?_, ?_⟩;assumption;assumption;assumption;assumption;go_simp;go_big_quiet_on)|(go_big_quiet_op;first|go_big_quiet_on|(apply Exists.intro;refine⟨fun x hx=> ?_, ?_⟩;(first|fail);go_big_quiet_on))))
     refine wpQuiet_nil ?_
     clear hall
     intro x2 hx2
     have hz2:=hx2.size
     go_wp2_with fail
     go_roundw
     case rel=>exact⟨j+1,by omega,by go_num,HNx,bt hB hx2⟩
     case measure=>simp [intOf];omega
   ·have HNx:Hid (∀i',i'<j+1->xs[i']? ≠some (n,l)):=fun i' hi' he=>by
     by_cases c:i'<j
     ·exact hno.out i' c he
     ·obtain rfl:i'=j:=by omega
      rw [HX.out]at he
      simp only [Option.some.injEq,Prod.mk.injEq]at he
      exact f1 he.1
    go_wp2_with fail
    refine aJ (by kernel_rfl) (by kernel_rfl) (fun hall=> ?_)
    repeat(first|go_big_quiet_skip|(go_big_quiet_want;first|(refine ql1 _ _ _ rfl rfl ?_;apply Exists.intro;refine⟨?_, ?_⟩;assumption;go_simp;go_big_quiet_on)|(refine ql2 _ _ _ _ rfl rfl ?_;apply Exists.intro;apply Exists.intro;refine⟨?_, ?_, ?_⟩;assumption;assumption;go_simp;go_big_quiet_on)|(refine ql3 _ _ _ _ rfl rfl ?_;apply Exists.intro;apply Exists.intro;apply Exists.intro;refine⟨?_, ?_, ?_, ?_⟩;assumption;assumption;assumption;go_simp;go_big_quiet_on)|(refine ql4 _ _ _ _ rfl rfl ?_;apply Exists.intro;apply Exists.intro;apply Exists.intro;apply Exists.intro;refine⟨?_, ?_, ?_, ?_, ?_⟩;assumption;assumption;assumption;assumption;go_simp;go_big_quiet_on)|(go_big_quiet_op;first|go_big_quiet_on|(apply Exists.intro;refine⟨fun x hx=> ?_, ?_⟩;(first|fail);go_big_quiet_on))))
    refine wpQuiet_nil ?_
    clear hall
    intro x2 hx2
    have hz2:=hx2.size
    go_wp2_with fail
    go_roundw
    case rel=>exact⟨j+1,by omega,by go_num,HNx,bt hB hx2⟩
    case measure=>simp [intOf];omega
  ·have HE:Hid (Cal.fV lp n l=false):=by
    cases h:Cal.fV lp n l
    ·rfl
    ·obtain⟨i',hi',he⟩:=HT.out h
     exact absurd he (hno.out i' (by omega))
   go_wp2_with fail
   go_ret2
   exact⟨Wt (HV.out HE.out).symm HE.out.symm,bt (bt (ba _ _) hb1) hB⟩
end
section
open Go.ChangeShapes Go.WideShapes Go.ChangeAt Go.RowKit
end
end Go.Proofs.YthnjjcoahdhmnaaGreatDoor
