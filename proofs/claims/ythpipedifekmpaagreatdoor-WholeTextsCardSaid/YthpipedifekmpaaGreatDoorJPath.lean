import Derived.Test.YthpipedifekmpaaGreatDoorJMO
import Derived.Test.YthpipedifekmpaaGreatDoorJCO
import Derived.Test.YthpipedifekmpaaGreatDoorJLC
import Derived.Test.YthpipedifekmpaaGreatDoorJKE
import Derived.LoopTactic
import Derived.Deep.RegionWith
set_option maxHeartbeats 8000000
set_option maxRecDepth 100000
set_option linter.unusedVariables false
namespace Go.Proofs.YthpipedifekmpaaGreatDoor
open Go.ChangeShapes Go.WideShapes Go.ChangeAt Go.RowKit
structure But(g:Nat)(a b:World):Prop where
 os:b.os=a.os
 tape:b.tape=a.tape
 output:b.output=a.output
 size:a.heap.size<=b.heap.size
 block:∀k,k<a.heap.size->k≠g->b.heap[k]? =a.heap[k]?
theorem But.of{g:Nat}{a b:World}(h:Below a.heap.size a b):But g a b:=⟨h.os,h.tape,h.output,h.size,fun k hk _=>h.block k hk⟩
theorem But.bt{g:Nat}{a b c:World}(h:But g a b)(k:Below b.heap.size b c):But g a c:=
 ⟨k.os.trans h.os,k.tape.trans h.tape,k.output.trans h.output,Nat.le_trans h.size k.size,fun i hi hg=>(k.block i (Nat.lt_of_lt_of_le hi h.size)).trans (h.block i hi hg)⟩
theorem But.trans{g:Nat}{a b c:World}(h:But g a b)(k:But g b c):But g a c:=
 ⟨k.os.trans h.os,k.tape.trans h.tape,k.output.trans h.output,Nat.le_trans h.size k.size,fun i hi hg=>(k.block i (Nat.lt_of_lt_of_le hi h.size) hg).trans (h.block i hi hg)⟩
theorem But.set{g:Nat}{a b:World}(h:But g a b)(o:Nat)(u:Value):But g a (b.setCell ⟨g,o,none⟩ u):=
 ⟨h.os,h.tape,h.output,by simpa [World.setCell]using h.size,fun k hk hg=>(Below.heap_setCell _ _ _ _ hg).trans (h.block k hk hg)⟩
theorem But.drew{g:Nat}{a b:World}(h:But g a b):But g a b.drew:=⟨h.os,h.tape,h.output,h.size,h.block⟩
theorem But.cell{g:Nat}{a b:World}(h:But g a b){k o:Nat}(hk:k<a.heap.size)(hg:k≠g):b.cell? ⟨k,o,none⟩=a.cell? ⟨k,o,none⟩:=World.cell?_of_block (w:=a) (h.block k hk hg)
theorem But.frozen{g:Nat}{a b:World}(h:But g a b){k o:Nat}(hk:k<a.heap.size)(hg:k≠g):b.frozen? ⟨k,o,none⟩=a.frozen? ⟨k,o,none⟩:=World.frozen?_of_block (w:=a) (h.block k hk hg)
theorem But.below{g:Nat}{W a b:World}(h:But g a b)(hb:Below W.heap.size W a)(hg:W.heap.size<=g):Below W.heap.size W b:=
 ⟨h.os.trans hb.os,h.tape.trans hb.tape,h.output.trans hb.output,Nat.le_trans hb.size h.size,fun k hk=>(h.block k (Nat.lt_of_lt_of_le hk hb.size) (by omega)).trans (hb.block k hk)⟩
theorem But.tab{a b:World}{g B:Nat}{cs:List Value}(hT:Tab a B cs)(h:But g a b)(hg:B≠g):Tab b B cs:=by
 obtain⟨t,ht⟩:=hT
 exact⟨t,(h.block B (Tab.lt ⟨t,ht⟩) hg).trans ht⟩
theorem aheadV_bd(b k:Int)(l:Bool)(m:Int):0<=aheadV b k l m/\aheadV b k l m<=390:=by
 unfold aheadV
 split
 ·rename_i h
  have hc:=cnt_bd b k l
  have:=sum_bd (lens k l) (lens_bd k l) (m-1).toNat
  simp only [has,Bool.and_eq_true,decide_eq_true_eq]at h
  omega
 ·omega
theorem daysV_bd(b k:Int)(l:Bool)(m:Int):daysV b k l m<=30:=by
 unfold daysV
 split
 ·rename_i h
  have hc:=cnt_le b k l
  simp only [has,Bool.and_eq_true,decide_eq_true_eq]at h
  obtain⟨x,e1,e2,e3,e4⟩:=lens_at k l (m-1).toNat (by omega)
  omega
 ·omega
def PathAt(w:World)(g:Nat)(f b k:Int)(lp:Bool)(m o er:Int):Prop:=
 w.cell? ⟨g,0,none⟩=some (.int .i64 f)/\w.cell? ⟨g,1,none⟩=some (.int .i64 b)/\w.cell? ⟨g,2,none⟩=some (.int .i64 k)/\w.cell? ⟨g,3,none⟩=some (.bool lp)/\w.cell? ⟨g,4,none⟩=some (.int .i64 m)/\w.cell? ⟨g,5,none⟩=some (.int .i64 o)/\w.cell? ⟨g,6,none⟩=some (.int .i64 er)/\(∀i,w.frozen? ⟨g,i,none⟩=false)/\g<w.heap.size
theorem path_set0{w:World}{g:Nat}{f b k:Int}{lp:Bool}{m o er:Int}(h:PathAt w g f b k lp m o er)(v:Int):PathAt (w.setCell ⟨g,0,none⟩ (.int .i64 v)) g v b k lp m o er:=by
 obtain⟨h0,h1,h2,h3,h4,h5,h6,hf,hs⟩:=h
 exact⟨World.cell?_setCell_same _ _ _ h0,(cso).trans h1,(cso).trans h2,(cso).trans h3,(cso).trans h4,(cso).trans h5,(cso).trans h6,fun i=>by simp [go_sem,hf],by simpa [World.setCell]using hs⟩
theorem path_set1{w:World}{g:Nat}{f b k:Int}{lp:Bool}{m o er:Int}(h:PathAt w g f b k lp m o er)(v:Int):PathAt (w.setCell ⟨g,1,none⟩ (.int .i64 v)) g f v k lp m o er:=by
 obtain⟨h0,h1,h2,h3,h4,h5,h6,hf,hs⟩:=h
 exact⟨(cso).trans h0,World.cell?_setCell_same _ _ _ h1,(cso).trans h2,(cso).trans h3,(cso).trans h4,(cso).trans h5,(cso).trans h6,fun i=>by simp [go_sem,hf],by simpa [World.setCell]using hs⟩
theorem path_set2{w:World}{g:Nat}{f b k:Int}{lp:Bool}{m o er:Int}(h:PathAt w g f b k lp m o er)(v:Int):PathAt (w.setCell ⟨g,2,none⟩ (.int .i64 v)) g f b v lp m o er:=by
 obtain⟨h0,h1,h2,h3,h4,h5,h6,hf,hs⟩:=h
 exact⟨(cso).trans h0,(cso).trans h1,World.cell?_setCell_same _ _ _ h2,(cso).trans h3,(cso).trans h4,(cso).trans h5,(cso).trans h6,fun i=>by simp [go_sem,hf],by simpa [World.setCell]using hs⟩
theorem path_set3{w:World}{g:Nat}{f b k:Int}{lp:Bool}{m o er:Int}(h:PathAt w g f b k lp m o er)(v:Bool):PathAt (w.setCell ⟨g,3,none⟩ (.bool v)) g f b k v m o er:=by
 obtain⟨h0,h1,h2,h3,h4,h5,h6,hf,hs⟩:=h
 exact⟨(cso).trans h0,(cso).trans h1,(cso).trans h2,World.cell?_setCell_same _ _ _ h3,(cso).trans h4,(cso).trans h5,(cso).trans h6,fun i=>by simp [go_sem,hf],by simpa [World.setCell]using hs⟩
theorem path_set4{w:World}{g:Nat}{f b k:Int}{lp:Bool}{m o er:Int}(h:PathAt w g f b k lp m o er)(v:Int):PathAt (w.setCell ⟨g,4,none⟩ (.int .i64 v)) g f b k lp v o er:=by
 obtain⟨h0,h1,h2,h3,h4,h5,h6,hf,hs⟩:=h
 exact⟨(cso).trans h0,(cso).trans h1,(cso).trans h2,(cso).trans h3,World.cell?_setCell_same _ _ _ h4,(cso).trans h5,(cso).trans h6,fun i=>by simp [go_sem,hf],by simpa [World.setCell]using hs⟩
theorem path_set5{w:World}{g:Nat}{f b k:Int}{lp:Bool}{m o er:Int}(h:PathAt w g f b k lp m o er)(v:Int):PathAt (w.setCell ⟨g,5,none⟩ (.int .i64 v)) g f b k lp m v er:=by
 obtain⟨h0,h1,h2,h3,h4,h5,h6,hf,hs⟩:=h
 exact⟨(cso).trans h0,(cso).trans h1,(cso).trans h2,(cso).trans h3,(cso).trans h4,World.cell?_setCell_same _ _ _ h5,(cso).trans h6,fun i=>by simp [go_sem,hf],by simpa [World.setCell]using hs⟩
theorem path_set6{w:World}{g:Nat}{f b k:Int}{lp:Bool}{m o er:Int}(h:PathAt w g f b k lp m o er)(v:Int):PathAt (w.setCell ⟨g,6,none⟩ (.int .i64 v)) g f b k lp m o v:=by
 obtain⟨h0,h1,h2,h3,h4,h5,h6,hf,hs⟩:=h
 exact⟨(cso).trans h0,(cso).trans h1,(cso).trans h2,(cso).trans h3,(cso).trans h4,(cso).trans h5,World.cell?_setCell_same _ _ _ h6,fun i=>by simp [go_sem,hf],by simpa [World.setCell]using hs⟩
theorem path_below{w w':World}{g:Nat}{f b k:Int}{lp:Bool}{m o er:Int}(h:PathAt w g f b k lp m o er)(hb:Below w.heap.size w w'):PathAt w' g f b k lp m o er:=by
 obtain⟨h0,h1,h2,h3,h4,h5,h6,hf,hs⟩:=h
 have c:=fun i=>hb.cell (p:=⟨g,i,none⟩) hs
 exact⟨(c 0).trans h0,(c 1).trans h1,(c 2).trans h2,(c 3).trans h3,(c 4).trans h4,(c 5).trans h5,(c 6).trans h6,fun i=>(hb.frozen (p:=⟨g,i,none⟩) hs).trans (hf i),Nat.lt_of_lt_of_le hs hb.size⟩
theorem path_drew{w:World}{g:Nat}{f b k:Int}{lp:Bool}{m o er:Int}(h:PathAt w g f b k lp m o er):PathAt w.drew g f b k lp m o er:=path_below h (Below.refl _ _).drew
theorem path_year_ok(y:Int)(h1:1<=y)(h2:y<=9999)(g:Nat)(w:World)(hp:PathAt w g 0 0 0 false 0 0 0):
  Calls Tryo.prog 27 #[.pointer (some ⟨g,0,none⟩),.int .i64 y] w fun e w'=>e= .returned (.tuple #[])/\PathAt w' g (Cal.first y) (Cal.first y % 7) (Cal.kind y) (Cal.leap y) 0 0 0/\But g w w':=by
 have hp0:=hp
 obtain⟨p0,p1,p2,p3,p4,p5,p6,pf,ps⟩:=hp
 go_enter Tryo.func27,Tryz.ntmps27
 go_wp2_with fail
 refine(keviah_Of_ok y _ h1 h2).mono ?_
 rintro e w1 ⟨rfl,hb1⟩
 have hp1:=path_below hp0 hb1
 clear p0 p1 p2 p3 p4 p5 p6 pf ps
 have hq:=hp1
 obtain⟨q0,q1,q2,q3,q4,q5,q6,qf,qs⟩:=hq
 go_wp2_with fail
 clear q0 q1 q2 q3 q4 q5 q6 qf qs
 refine settleC (fun W=>PathAt W g 0 (Cal.first y % 7) (Cal.kind y) (Cal.leap y) 0 0 0/\But g w W) ⟨path_set6 (path_set3 (path_set2 (path_set1 hp1 _) _) _) _,But.set (But.set (But.set (But.set (But.of hb1) _ _) _ _) _ _) _ _⟩ ?_
 rintro W2 ⟨hP2,hB2⟩
 refine(newyear_First_ok y _ (by omega) (by omega)).mono ?_
 rintro e w3 ⟨rfl,hb3⟩
 have hp3:=path_below hP2 hb3
 have hq:=hp3
 obtain⟨q0,q1,q2,q3,q4,q5,q6,qf,qs⟩:=hq
 go_wp2_with fail
 refine bodyPost_end (v:= .tuple #[]) (by simp [results,Tryz.results27,go_sem]) rfl ?_
 exact⟨rfl,path_set6 (path_set0 hp3 _) _,But.set (But.set (But.bt hB2 hb3) _ _) _ _⟩
theorem path_year_no(y:Int)(hy:I64 y)(h:y<1∨9999<y)(g:Nat)(w:World)(hp:PathAt w g 0 0 0 false 0 0 0):
  Calls Tryo.prog 27 #[.pointer (some ⟨g,0,none⟩),.int .i64 y] w fun e w'=>e= .returned (.tuple #[])/\PathAt w' g 0 0 0 false 0 0 2/\But g w w':=by
 have hp0:=hp
 obtain⟨p0,p1,p2,p3,p4,p5,p6,pf,ps⟩:=hp
 go_enter Tryo.func27,Tryz.ntmps27
 go_wp2_with fail
 refine(keviah_Of_no y _ hy h).mono ?_
 rintro e w1 ⟨rfl,hb1⟩
 have hp1:=path_below hp0 hb1
 clear p0 p1 p2 p3 p4 p5 p6 pf ps
 have hq:=hp1
 obtain⟨q0,q1,q2,q3,q4,q5,q6,qf,qs⟩:=hq
 go_wp2_with fail
 refine bodyPost_end (v:= .tuple #[]) (by simp [results,Tryz.results27,go_sem]) rfl ?_
 exact⟨rfl,path_set6 (path_set3 (path_set2 (path_set1 hp1 _) _) _) _,But.set (But.set (But.set (But.set (But.of hb1) _ _) _ _) _ _) _ _⟩
theorem path_month_err(n:Int)(l:Bool)(f b k:Int)(lp:Bool)(m o er:Int)(he:¬ er=0)(g:Nat)(w:World)(hp:PathAt w g f b k lp m o er):
  Calls Tryo.prog 45 #[.pointer (some ⟨g,0,none⟩),.agg #[.int .i64 n,.bool l]] w fun e w'=>e= .returned (.tuple #[])/\PathAt w' g f b k lp m o er/\But g w w':=by
 have hp0:=hp
 obtain⟨p0,p1,p2,p3,p4,p5,p6,pf,ps⟩:=hp
 go_enter Tryo.func45,Tryz.ntmps45
 go_wp2_with fail
 refine bodyPost_ret (v:= .tuple #[]) (by simp [results,Tryz.results45,go_sem]) rfl ?_
 exact⟨rfl,path_below hp0 (ba _ _),But.of (ba _ _)⟩
theorem path_month_ok(n:Int)(l:Bool)(f b k:Int)(lp:Bool)(h:Cal.plOk lp n l=true)(g:Nat)(w:World)(hp:PathAt w g f b k lp 0 0 0):
  Calls Tryo.prog 45 #[.pointer (some ⟨g,0,none⟩),.agg #[.int .i64 n,.bool l]] w fun e w'=>e= .returned (.tuple #[])/\PathAt w' g f b k lp (Cal.plV lp n l) 0 0/\But g w w':=by
 have hp0:=hp
 obtain⟨p0,p1,p2,p3,p4,p5,p6,pf,ps⟩:=hp
 have hP:∀w,Calls Tryo.prog 75 #[.bool lp,.agg #[.int .i64 n,.bool l]] w fun e w'=>e= .returned (.tuple #[.int .i64 (Cal.plV lp n l),.bool true])/\Below w.heap.size w w':=fun w=>h▸code_Place_any lp n l w
 clear h
 generalize Cal.plV lp n l=pv at*
 have HP:=Lib.hid hP
 clear hP
 go_enter Tryo.func45,Tryz.ntmps45
 go_upto_region 1 with fail
 refine settle (fun W=>PathAt W g f b k lp 0 0 0/\W.cell? ⟨w.heap.size,0,none⟩=some (.int .i64 n)/\W.cell? ⟨w.heap.size,1,none⟩=some (.bool l)/\w.heap.size<W.heap.size/\Below w.heap.size w W) ⟨path_below hp0 (ba _ _),by simp [go_sem],by simp [go_sem],by simp,ba _ _⟩ ?_
 clear p0 p1 p2 p3 p4 p5 p6 pf ps
 rintro W0 ⟨hP0,b0,b1,bs0,hB0⟩
 have hq:=hP0
 obtain⟨q0,q1,q2,q3,q4,q5,q6,qf,qs⟩:=hq
 go_wp2_with fail
 refine wp_region_class (by kernel_rfl) (by kernel_rfl) (fun hall=> ?_)
 repeat(first|go_big_quiet_skip|(go_big_quiet_want;first|(refine quiet_load1 _ _ _ rfl rfl ?_ ?_ ?_;(focus (intro _;simp;done));(focus (first|assumption|omega|(simp;done)|(simp;omega)));apply Exists.intro;refine⟨?_, ?_⟩;assumption;go_simp;go_big_quiet_on)|(refine quiet_load2 _ _ _ _ rfl rfl ?_ ?_ ?_ ?_;(focus (intro _;simp;done));(focus (intro _;simp;done));(focus (first|assumption|omega|(simp;done)|(simp;omega)));apply Exists.intro;apply Exists.intro;refine⟨?_, ?_, ?_⟩;assumption;assumption;go_simp;go_big_quiet_on)|(refine quiet_load3 _ _ _ _ rfl rfl ?_ ?_ ?_ ?_;(focus (intro _;simp;done));(focus (intro _;simp;done));(focus (first|assumption|omega|(simp;done)|(simp;omega)));apply Exists.intro;apply Exists.intro;apply Exists.intro;refine⟨?_, ?_, ?_, ?_⟩;assumption;assumption;assumption;go_simp;go_big_quiet_on)|(refine quiet_load4 _ _ _ _ rfl rfl ?_ ?_ ?_ ?_;(focus (intro _;simp;done));(focus (intro _;simp;done));(focus (first|assumption|omega|(simp;done)|(simp;omega)));apply Exists.intro;apply Exists.intro;apply Exists.intro;apply Exists.intro;refine⟨?_, ?_, ?_, ?_, ?_⟩;assumption;assumption;assumption;assumption;go_simp;go_big_quiet_on)|(go_big_quiet_op;first|go_big_quiet_on|(apply Exists.intro;refine⟨fun x hx=> ?_, ?_⟩;(first|exact call_below hx (HP.out x));go_big_quiet_on))))
 refine wpQuiet_nil ?_
 clear hall
 intro x1 hx1
 have hx2:PathAt x1 g f b k lp 0 0 0:=path_below hP0 hx1
 clear q0 q1 q2 q3 q4 q5 q6 qf qs b0 b1
 have hq:=hx2
 obtain⟨q0,q1,q2,q3,q4,q5,q6,qf,qs⟩:=hq
 have hb2:Below w.heap.size w x1:=bt hB0 hx1
 go_wp2_with fail
 refine bodyPost_end (v:= .tuple #[]) (by simp [results,Tryz.results45,go_sem]) rfl ?_
 exact⟨rfl,path_set4 hx2 _,But.set (But.of hb2) _ _⟩
theorem path_month_no(n:Int)(l:Bool)(f b k:Int)(lp:Bool)(h:Cal.plOk lp n l=false)(g:Nat)(w:World)(hp:PathAt w g f b k lp 0 0 0):
  Calls Tryo.prog 45 #[.pointer (some ⟨g,0,none⟩),.agg #[.int .i64 n,.bool l]] w fun e w'=>e= .returned (.tuple #[])/\PathAt w' g f b k lp 0 0 3/\But g w w':=by
 have hp0:=hp
 obtain⟨p0,p1,p2,p3,p4,p5,p6,pf,ps⟩:=hp
 have h0:Cal.plV lp n l=0:=by simp [Cal.plV,h]
 have hP:∀w,Calls Tryo.prog 75 #[.bool lp,.agg #[.int .i64 n,.bool l]] w fun e w'=>e= .returned (.tuple #[.int .i64 0,.bool false])/\Below w.heap.size w w':=fun w=>by
  have:=code_Place_any lp n l w
  rwa [h,h0]at this
 clear h h0
 have HP:=Lib.hid hP
 clear hP
 go_enter Tryo.func45,Tryz.ntmps45
 go_upto_region 1 with fail
 refine settle (fun W=>PathAt W g f b k lp 0 0 0/\W.cell? ⟨w.heap.size,0,none⟩=some (.int .i64 n)/\W.cell? ⟨w.heap.size,1,none⟩=some (.bool l)/\w.heap.size<W.heap.size/\Below w.heap.size w W) ⟨path_below hp0 (ba _ _),by simp [go_sem],by simp [go_sem],by simp,ba _ _⟩ ?_
 clear p0 p1 p2 p3 p4 p5 p6 pf ps
 rintro W0 ⟨hP0,b0,b1,bs0,hB0⟩
 have hq:=hP0
 obtain⟨q0,q1,q2,q3,q4,q5,q6,qf,qs⟩:=hq
 go_wp2_with fail
 refine wp_region_class (by kernel_rfl) (by kernel_rfl) (fun hall=> ?_)
 repeat(first|go_big_quiet_skip|(go_big_quiet_want;first|(refine quiet_load1 _ _ _ rfl rfl ?_ ?_ ?_;(focus (intro _;simp;done));(focus (first|assumption|omega|(simp;done)|(simp;omega)));apply Exists.intro;refine⟨?_, ?_⟩;assumption;go_simp;go_big_quiet_on)|(refine quiet_load2 _ _ _ _ rfl rfl ?_ ?_ ?_ ?_;(focus (intro _;simp;done));(focus (intro _;simp;done));(focus (first|assumption|omega|(simp;done)|(simp;omega)));apply Exists.intro;apply Exists.intro;refine⟨?_, ?_, ?_⟩;assumption;assumption;go_simp;go_big_quiet_on)|(refine quiet_load3 _ _ _ _ rfl rfl ?_ ?_ ?_ ?_;(focus (intro _;simp;done));(focus (intro _;simp;done));(focus (first|assumption|omega|(simp;done)|(simp;omega)));apply Exists.intro;apply Exists.intro;apply Exists.intro;refine⟨?_, ?_, ?_, ?_⟩;assumption;assumption;assumption;go_simp;go_big_quiet_on)|(refine quiet_load4 _ _ _ _ rfl rfl ?_ ?_ ?_ ?_;(focus (intro _;simp;done));(focus (intro _;simp;done));(focus (first|assumption|omega|(simp;done)|(simp;omega)));apply Exists.intro;apply Exists.intro;apply Exists.intro;apply Exists.intro;refine⟨?_, ?_, ?_, ?_, ?_⟩;assumption;assumption;assumption;assumption;go_simp;go_big_quiet_on)|(go_big_quiet_op;first|go_big_quiet_on|(apply Exists.intro;refine⟨fun x hx=> ?_, ?_⟩;(first|exact call_below hx (HP.out x));go_big_quiet_on))))
 refine wpQuiet_nil ?_
 clear hall
 intro x1 hx1
 have hx2:PathAt x1 g f b k lp 0 0 0:=path_below hP0 hx1
 clear q0 q1 q2 q3 q4 q5 q6 qf qs b0 b1
 have hq:=hx2
 obtain⟨q0,q1,q2,q3,q4,q5,q6,qf,qs⟩:=hq
 have hb2:Below w.heap.size w x1:=bt hB0 hx1
 go_wp2_with fail
 refine bodyPost_ret (v:= .tuple #[]) (by simp [results,Tryz.results45,go_sem]) rfl ?_
 exact⟨rfl,path_set6 hx2 _,But.set (But.of hb2) _ _⟩
theorem path_long(f b k:Int)(lp:Bool)(m o er:Int)(g:Nat)(w:World)(hT:Tab w 5 kevCells)(hL:Tab w 4 lenCells)(hp:PathAt w g f b k lp m o er):
  Calls Tryo.prog 63 #[.pointer (some ⟨g,0,none⟩)] w fun e w'=>e= .returned (.int .i64 (daysV b k lp m))/\Below w.heap.size w w':=by
 have hp0:=hp
 obtain⟨p0,p1,p2,p3,p4,p5,p6,pf,ps⟩:=hp
 go_enter Tryo.func63,Tryz.ntmps63
 go_wp2_with fail
 refine wp_region_class (by kernel_rfl) (by kernel_rfl) (fun hall=> ?_)
 repeat(first|go_big_quiet_skip|(go_big_quiet_want;first|(refine quiet_load1 _ _ _ rfl rfl ?_ ?_ ?_;(focus (intro _;simp;done));(focus (first|assumption|omega|(simp;done)|(simp;omega)));apply Exists.intro;refine⟨?_, ?_⟩;assumption;go_simp;go_big_quiet_on)|(refine quiet_load2 _ _ _ _ rfl rfl ?_ ?_ ?_ ?_;(focus (intro _;simp;done));(focus (intro _;simp;done));(focus (first|assumption|omega|(simp;done)|(simp;omega)));apply Exists.intro;apply Exists.intro;refine⟨?_, ?_, ?_⟩;assumption;assumption;go_simp;go_big_quiet_on)|(refine quiet_load3 _ _ _ _ rfl rfl ?_ ?_ ?_ ?_;(focus (intro _;simp;done));(focus (intro _;simp;done));(focus (first|assumption|omega|(simp;done)|(simp;omega)));apply Exists.intro;apply Exists.intro;apply Exists.intro;refine⟨?_, ?_, ?_, ?_⟩;assumption;assumption;assumption;go_simp;go_big_quiet_on)|(refine quiet_load4 _ _ _ _ rfl rfl ?_ ?_ ?_ ?_;(focus (intro _;simp;done));(focus (intro _;simp;done));(focus (first|assumption|omega|(simp;done)|(simp;omega)));apply Exists.intro;apply Exists.intro;apply Exists.intro;apply Exists.intro;refine⟨?_, ?_, ?_, ?_, ?_⟩;assumption;assumption;assumption;assumption;go_simp;go_big_quiet_on)|(go_big_quiet_op;first|go_big_quiet_on|(apply Exists.intro;refine⟨fun x hx=> ?_, ?_⟩;(first|exact call_below hx (month_Days _ _ _ _ x (Tab.below hT hx) (Tab.below hL hx)));go_big_quiet_on))))
 refine wpQuiet_nil ?_
 clear hall
 intro x1 hx1
 go_wp2_with fail
 go_ret
 exact⟨rfl,hx1⟩
theorem path_day_err(d:Int)(f b k:Int)(lp:Bool)(m o er:Int)(he:¬ er=0)(g:Nat)(w:World)(hp:PathAt w g f b k lp m o er):
  Calls Tryo.prog 46 #[.pointer (some ⟨g,0,none⟩),.int .i64 d] w fun e w'=>e= .returned (.tuple #[])/\PathAt w' g f b k lp m o er/\But g w w':=by
 have hp0:=hp
 obtain⟨p0,p1,p2,p3,p4,p5,p6,pf,ps⟩:=hp
 go_enter Tryo.func46,Tryz.ntmps46
 go_wp2_with fail
 refine bodyPost_ret (v:= .tuple #[]) (by simp [results,Tryz.results46,go_sem]) rfl ?_
 exact⟨rfl,hp0,But.of (Below.refl _ _)⟩
theorem path_day_low(d:Int)(f b k:Int)(lp:Bool)(m:Int)(h:d<1)(g:Nat)(w:World)(hT:Tab w 5 kevCells)(hL:Tab w 4 lenCells)(hp:PathAt w g f b k lp m 0 0):
  Calls Tryo.prog 46 #[.pointer (some ⟨g,0,none⟩),.int .i64 d] w fun e w'=>e= .returned (.tuple #[])/\PathAt w' g f b k lp m 0 4/\But g w w':=by
 have hp0:=hp
 obtain⟨p0,p1,p2,p3,p4,p5,p6,pf,ps⟩:=hp
 go_enter Tryo.func46,Tryz.ntmps46
 go_wp2_with fail
 refine bodyPost_ret (v:= .tuple #[]) (by simp [results,Tryz.results46,go_sem]) rfl ?_
 exact⟨rfl,path_set6 hp0 _,But.set (But.of (Below.refl _ _)) _ _⟩
theorem path_day_high(d:Int)(f b k:Int)(lp:Bool)(m:Int)(h1:1<=d)(h2:daysV b k lp m<d)(g:Nat)(w:World)(hT:Tab w 5 kevCells)(hL:Tab w 4 lenCells)(hp:PathAt w g f b k lp m 0 0):
  Calls Tryo.prog 46 #[.pointer (some ⟨g,0,none⟩),.int .i64 d] w fun e w'=>e= .returned (.tuple #[])/\PathAt w' g f b k lp m 0 4/\But g w w':=by
 have hp0:=hp
 obtain⟨p0,p1,p2,p3,p4,p5,p6,pf,ps⟩:=hp
 go_enter Tryo.func46,Tryz.ntmps46
 go_wp2_with fail
 refine(path_long f b k lp m 0 0 _ _ hT hL hp0).mono ?_
 rintro e w1 ⟨rfl,hb1⟩
 have hp1:=path_below hp0 hb1
 have hq:=hp1
 obtain⟨q0,q1,q2,q3,q4,q5,q6,qf,qs⟩:=hq
 go_wp2_with fail
 refine bodyPost_ret (v:= .tuple #[]) (by simp [results,Tryz.results46,go_sem]) rfl ?_
 exact⟨rfl,path_set6 hp1 _,But.set (But.of hb1) _ _⟩
theorem path_day_ok(d:Int)(f b k:Int)(lp:Bool)(m:Int)(h1:1<=d)(h2:d<=daysV b k lp m)(g:Nat)(w:World)(hT:Tab w 5 kevCells)(hL:Tab w 4 lenCells)(hp:PathAt w g f b k lp m 0 0):
  Calls Tryo.prog 46 #[.pointer (some ⟨g,0,none⟩),.int .i64 d] w fun e w'=>e= .returned (.tuple #[])/\PathAt w' g f b k lp m (aheadV b k lp m+d-1) 0/\But g w w':=by
 have hp0:=hp
 obtain⟨p0,p1,p2,p3,p4,p5,p6,pf,ps⟩:=hp
 go_enter Tryo.func46,Tryz.ntmps46
 go_wp2_with fail
 refine(path_long f b k lp m 0 0 _ _ hT hL hp0).mono ?_
 rintro e w1 ⟨rfl,hb1⟩
 have hp1:=path_below hp0 hb1
 have hq:=hp1
 obtain⟨q0,q1,q2,q3,q4,q5,q6,qf,qs⟩:=hq
 have hT1:=Tab.below hT hb1
 have hL1:=Tab.below hL hb1
 clear p0 p1 p2 p3 p4 p5 p6 pf ps
 obtain⟨v1,v2⟩:=aheadV_bd b k lp m
 have v3:=daysV_bd b k lp m
 go_wp2_with fail
 go_region_with (first|(go_at_call 76;refine(month_Ahead b k lp m _ (Tab.below hT1 (Below.refl _ _).drew) (Tab.below hL1 (Below.refl _ _).drew)).mono ?_;rintro e w4 ⟨rfl,hb4⟩;have z4:=path_below (path_drew hp1) hb4;obtain⟨z0,z1,z2,z3,z4,z5,z6,zf,zs⟩:=z4))
 all_goals go_wp2_with fail
 all_goals refine bodyPost_end (v:= .tuple #[]) (by simp [results,Tryz.results46,go_sem]) rfl ?_
 all_goals rw [show IntKind.i64.wrap (IntKind.i64.wrap (aheadV b k lp m+d)-1)=aheadV b k lp m+d-1 by rw [show IntKind.i64.wrap (aheadV b k lp m+d)=aheadV b k lp m+d from IntWalk.i64_in _ (by omega)];exact IntWalk.i64_in _ (by omega)]
 all_goals exact⟨rfl,path_set5 (path_below (path_drew hp1) hb4) _,But.set (But.bt (But.drew (But.of hb1)) hb4) _ _⟩
theorem path_but{w w':World}{g g':Nat}{f b k:Int}{lp:Bool}{m o er:Int}(h:PathAt w g f b k lp m o er)(hb:But g' w w')(hg:g≠g'):PathAt w' g f b k lp m o er:=by
 obtain⟨h0,h1,h2,h3,h4,h5,h6,hf,hs⟩:=h
 have c:=fun i=>hb.cell (k:=g) (o:=i) hs hg
 exact⟨(c 0).trans h0,(c 1).trans h1,(c 2).trans h2,(c 3).trans h3,(c 4).trans h4,(c 5).trans h5,(c 6).trans h6,fun i=>(hb.frozen (k:=g) (o:=i) hs hg).trans (hf i),Nat.lt_of_lt_of_le hs hb.size⟩
end Go.Proofs.YthpipedifekmpaaGreatDoor
