import Derived.Test.YtljbnicolhhicaaGreatDoorZMO
import Derived.Test.YtljbnicolhhicaaGreatDoorZCO
import Derived.Test.YtljbnicolhhicaaGreatDoorZLC
set_option linter.defProp false
set_option maxHeartbeats 8000000
set_option maxRecDepth 100000
set_option linter.unusedVariables false
namespace Go.Proofs.YtljbnicolhhicaaGreatDoor
open Go.ChangeShapes Go.WideShapes Go.ChangeAt Go.RowKit
structure But(g:Nat)(a b:World):Prop where
 os:b.os=a.os
 tape:b.tape=a.tape
 output:b.output=a.output
 size:a.1.size<=b.1.size
 block:∀k,k<a.1.size->k≠g->b.1[k]? =a.1[k]?
theorem But.of{g:Nat}{a b:World}(h:Below a.1.size a b):But g a b:=⟨h.os,h.tape,h.output,h.size,fun k hk _=>h.block k hk⟩
theorem But.bt{g:Nat}{a b c:World}(h:But g a b)(k:Below b.1.size b c):But g a c:=
 ⟨k.os.trans h.os,k.tape.trans h.tape,k.output.trans h.output,Nat.le_trans h.size k.size,fun i hi hg=>(k.block i (Nat.lt_of_lt_of_le hi h.size)).trans (h.block i hi hg)⟩
theorem But.trans{g:Nat}{a b c:World}(h:But g a b)(k:But g b c):But g a c:=
 ⟨k.os.trans h.os,k.tape.trans h.tape,k.output.trans h.output,Nat.le_trans h.size k.size,fun i hi hg=>(k.block i (Nat.lt_of_lt_of_le hi h.size) hg).trans (h.block i hi hg)⟩
theorem But.set{g:Nat}{a b:World}(h:But g a b)(o:Nat)(u:Value):But g a (b.setCell ⟨g,o,none⟩ u):=
 ⟨h.os,h.tape,h.output,by simpa [World.setCell]using h.size,fun k hk hg=>(Below.heap_setCell _ _ _ _ hg).trans (h.block k hk hg)⟩
theorem But.drew{g:Nat}{a b:World}(h:But g a b):But g a b.drew:=⟨h.os,h.tape,h.output,h.size,h.block⟩
theorem But.cell{g:Nat}{a b:World}(h:But g a b){k o:Nat}(hk:k<a.1.size)(hg:k≠g):b.cell? ⟨k,o,none⟩=a.cell? ⟨k,o,none⟩:=World.cell?_of_block (w:=a) (h.block k hk hg)
theorem But.frozen{g:Nat}{a b:World}(h:But g a b){k o:Nat}(hk:k<a.1.size)(hg:k≠g):b.frozen? ⟨k,o,none⟩=a.frozen? ⟨k,o,none⟩:=World.frozen?_of_block (w:=a) (h.block k hk hg)
theorem But.below{g:Nat}{W a b:World}(h:But g a b)(hb:Below W.1.size W a)(hg:W.1.size<=g):Below W.1.size W b:=
 ⟨h.os.trans hb.os,h.tape.trans hb.tape,h.output.trans hb.output,Nat.le_trans hb.size h.size,fun k hk=>(h.block k (Nat.lt_of_lt_of_le hk hb.size) vO).trans (hb.block k hk)⟩
theorem But.tab{a b:World}{g B:Nat}{cs:List Value}(hT:Tab a B cs)(h:But g a b)(hg:B≠g):Tab b B cs:=by
 obtain⟨t,ht⟩:=hT
 exact⟨t,(h.block B (Tab.lt ⟨t,ht⟩) hg).trans ht⟩
theorem WI(b k:Int)(l:Bool)(m:Int):0<=jM b k l m/\jM b k l m<=390:=by
 unfold jM
 split
 ·rename_i h
  have hc:=D5 b k l
  have:=ME (lens k l) (zV k l) (m-1).toNat
  simp only [has,Bool.and_eq_true,decide_eq_true_eq]at h
  omega
 ·omega
theorem X3(b k:Int)(l:Bool)(m:Int):uI b k l m<=30:=by
 unfold uI
 split
 ·rename_i h
  have hc:=Ju b k l
  simp only [has,Bool.and_eq_true,decide_eq_true_eq]at h
  obtain⟨x,e1,e2,e3,e4⟩:=NC k l (m-1).toNat vO
  omega
 ·omega
def bn(w:World)(g:Nat)(f b k:Int)(lp:Bool)(m o er:Int):Prop:=
 w.cell? ⟨g,0,none⟩=some (f:vV)/\w.cell? ⟨g,1,none⟩=some (b:vV)/\w.cell? ⟨g,2,none⟩=some (k:vV)/\w.cell? ⟨g,3,none⟩=some (.bool lp)/\w.cell? ⟨g,4,none⟩=some (m:vV)/\w.cell? ⟨g,5,none⟩=some (o:vV)/\w.cell? ⟨g,6,none⟩=some (er:vV)/\(∀i,w.frozen? ⟨g,i,none⟩=false)/\g<w.1.size
theorem VJ{w:World}{g:Nat}{f b k:Int}{lp:Bool}{m o er:Int}(h:bn w g f b k lp m o er)(v:Int):bn (w.setCell ⟨g,0,none⟩ (.int .i64 v)) g v b k lp m o er:=by
 obtain⟨h0,h1,h2,h3,h4,h5,h6,hf,hs⟩:=h
 exact⟨World.cell?_setCell_same _ _ _ h0,(cso).trans h1,(cso).trans h2,(cso).trans h3,(cso).trans h4,(cso).trans h5,(cso).trans h6,fun i=>by simp [go_sem,hf],by simpa [World.setCell]using hs⟩
theorem LW{w:World}{g:Nat}{f b k:Int}{lp:Bool}{m o er:Int}(h:bn w g f b k lp m o er)(v:Int):bn (w.setCell ⟨g,1,none⟩ (.int .i64 v)) g f v k lp m o er:=by
 obtain⟨h0,h1,h2,h3,h4,h5,h6,hf,hs⟩:=h
 exact⟨(cso).trans h0,World.cell?_setCell_same _ _ _ h1,(cso).trans h2,(cso).trans h3,(cso).trans h4,(cso).trans h5,(cso).trans h6,fun i=>by simp [go_sem,hf],by simpa [World.setCell]using hs⟩
theorem Mr{w:World}{g:Nat}{f b k:Int}{lp:Bool}{m o er:Int}(h:bn w g f b k lp m o er)(v:Int):bn (w.setCell ⟨g,2,none⟩ (.int .i64 v)) g f b v lp m o er:=by
 obtain⟨h0,h1,h2,h3,h4,h5,h6,hf,hs⟩:=h
 exact⟨(cso).trans h0,(cso).trans h1,World.cell?_setCell_same _ _ _ h2,(cso).trans h3,(cso).trans h4,(cso).trans h5,(cso).trans h6,fun i=>by simp [go_sem,hf],by simpa [World.setCell]using hs⟩
theorem Mf{w:World}{g:Nat}{f b k:Int}{lp:Bool}{m o er:Int}(h:bn w g f b k lp m o er)(v:Bool):bn (w.setCell ⟨g,3,none⟩ (.bool v)) g f b k v m o er:=by
 obtain⟨h0,h1,h2,h3,h4,h5,h6,hf,hs⟩:=h
 exact⟨(cso).trans h0,(cso).trans h1,(cso).trans h2,World.cell?_setCell_same _ _ _ h3,(cso).trans h4,(cso).trans h5,(cso).trans h6,fun i=>by simp [go_sem,hf],by simpa [World.setCell]using hs⟩
theorem Vy{w:World}{g:Nat}{f b k:Int}{lp:Bool}{m o er:Int}(h:bn w g f b k lp m o er)(v:Int):bn (w.setCell ⟨g,4,none⟩ (.int .i64 v)) g f b k lp v o er:=by
 obtain⟨h0,h1,h2,h3,h4,h5,h6,hf,hs⟩:=h
 exact⟨(cso).trans h0,(cso).trans h1,(cso).trans h2,(cso).trans h3,World.cell?_setCell_same _ _ _ h4,(cso).trans h5,(cso).trans h6,fun i=>by simp [go_sem,hf],by simpa [World.setCell]using hs⟩
theorem WY{w:World}{g:Nat}{f b k:Int}{lp:Bool}{m o er:Int}(h:bn w g f b k lp m o er)(v:Int):bn (w.setCell ⟨g,5,none⟩ (.int .i64 v)) g f b k lp m v er:=by
 obtain⟨h0,h1,h2,h3,h4,h5,h6,hf,hs⟩:=h
 exact⟨(cso).trans h0,(cso).trans h1,(cso).trans h2,(cso).trans h3,(cso).trans h4,World.cell?_setCell_same _ _ _ h5,(cso).trans h6,fun i=>by simp [go_sem,hf],by simpa [World.setCell]using hs⟩
theorem nI{w:World}{g:Nat}{f b k:Int}{lp:Bool}{m o er:Int}(h:bn w g f b k lp m o er)(v:Int):bn (w.setCell ⟨g,6,none⟩ (.int .i64 v)) g f b k lp m o v:=by
 obtain⟨h0,h1,h2,h3,h4,h5,h6,hf,hs⟩:=h
 exact⟨(cso).trans h0,(cso).trans h1,(cso).trans h2,(cso).trans h3,(cso).trans h4,(cso).trans h5,World.cell?_setCell_same _ _ _ h6,fun i=>by simp [go_sem,hf],by simpa [World.setCell]using hs⟩
theorem fD{w w':World}{g:Nat}{f b k:Int}{lp:Bool}{m o er:Int}(h:bn w g f b k lp m o er)(hb:Below w.1.size w w'):bn w' g f b k lp m o er:=by
 obtain⟨h0,h1,h2,h3,h4,h5,h6,hf,hs⟩:=h
 have c:=fun i=>hb.cell (p:=⟨g,i,none⟩) hs
 exact⟨(c 0).trans h0,(c 1).trans h1,(c 2).trans h2,(c 3).trans h3,(c 4).trans h4,(c 5).trans h5,(c 6).trans h6,fun i=>(hb.frozen (p:=⟨g,i,none⟩) hs).trans (hf i),Nat.lt_of_lt_of_le hs hb.size⟩
theorem L6{w:World}{g:Nat}{f b k:Int}{lp:Bool}{m o er:Int}(h:bn w g f b k lp m o er):bn w.drew g f b k lp m o er:=fD h (Below.refl _ _).drew
theorem jE(y:Int)(h1:1<=y)(h2:y<=9999)(g:Nat)(w:World)(hp:bn w g 0 0 0 false 0 0 0):
  Calls Tryo.prog 60 #[.pointer (some ⟨g,0,none⟩),y] w fun e w'=>e= .returned (.tuple #[])/\bn w' g (Cal.first y) (Cal.first y % 7) (Cal.kind y) (Cal.leap y) 0 0 0/\But g w w':=by
 have hp0:=hp
 obtain⟨p0,p1,p2,p3,p4,p5,p6,pf,ps⟩:=hp
 go_enter (vF Tryz.func60),Tryz.ntmps60
 go_wp2_with fail
 refine(O6 y _ h1 h2).mono ?_
 rintro e w1 ⟨rfl,hb1⟩
 have hp1:=fD hp0 hb1
 clear p0 p1 p2 p3 p4 p5 p6 pf ps
 have hq:=hp1
 obtain⟨q0,q1,q2,q3,q4,q5,q6,qf,qs⟩:=hq
 go_wp2_with fail
 clear q0 q1 q2 q3 q4 q5 q6 qf qs
 refine bH (fun W=>bn W g 0 (Cal.first y % 7) (Cal.kind y) (Cal.leap y) 0 0 0/\But g w W) ⟨nI (Mf (Mr (LW hp1 _) _) _) _,But.set (But.set (But.set (But.set (But.of hb1) _ _) _ _) _ _) _ _⟩ ?_
 rintro W2 ⟨hP2,hB2⟩
 refine(lV y _ vO vO).mono ?_
 rintro e w3 ⟨rfl,hb3⟩
 have hp3:=fD hP2 hb3
 have hq:=hp3
 obtain⟨q0,q1,q2,q3,q4,q5,q6,qf,qs⟩:=hq
 go_wp2_with fail
 refine bodyPost_end (v:= .tuple #[]) (by simp [results,Tryz.results60,go_sem]) rfl ?_
 exact⟨rfl,nI (VJ hp3 _) _,But.set (But.set (But.bt hB2 hb3) _ _) _ _⟩
theorem BU(y:Int)(hy:I64 y)(h:y<1∨9999<y)(g:Nat)(w:World)(hp:bn w g 0 0 0 false 0 0 0):
  Calls Tryo.prog 60 #[.pointer (some ⟨g,0,none⟩),y] w fun e w'=>e= .returned (.tuple #[])/\bn w' g 0 0 0 false 0 0 2/\But g w w':=by
 have hp0:=hp
 obtain⟨p0,p1,p2,p3,p4,p5,p6,pf,ps⟩:=hp
 go_enter (vF Tryz.func60),Tryz.ntmps60
 go_wp2_with fail
 refine(Ob y _ hy h).mono ?_
 rintro e w1 ⟨rfl,hb1⟩
 have hp1:=fD hp0 hb1
 clear p0 p1 p2 p3 p4 p5 p6 pf ps
 have hq:=hp1
 obtain⟨q0,q1,q2,q3,q4,q5,q6,qf,qs⟩:=hq
 go_wp2_with fail
 refine bodyPost_end (v:= .tuple #[]) (by simp [results,Tryz.results60,go_sem]) rfl ?_
 exact⟨rfl,nI (Mf (Mr (LW hp1 _) _) _) _,But.set (But.set (But.set (But.set (But.of hb1) _ _) _ _) _ _) _ _⟩
theorem zk(n:Int)(l:Bool)(f b k:Int)(lp:Bool)(m o er:Int)(he:¬ er=0)(g:Nat)(w:World)(hp:bn w g f b k lp m o er):
  Calls Tryo.prog 101 #[.pointer (some ⟨g,0,none⟩),.agg #[n,l]] w fun e w'=>e= .returned (.tuple #[])/\bn w' g f b k lp m o er/\But g w w':=by
 have hp0:=hp
 obtain⟨p0,p1,p2,p3,p4,p5,p6,pf,ps⟩:=hp
 go_enter (vF Tryz.func101),Tryz.ntmps101
 go_wp2_with fail
 refine bodyPost_ret (v:= .tuple #[]) (by simp [results,Tryz.results101,go_sem]) rfl ?_
 exact⟨rfl,fD hp0 (ba _ _),But.of (ba _ _)⟩
theorem uJ:(∀(n:Int)(l:Bool)(f b k:Int)(lp:Bool)(h:Cal.dH lp n l=true)(g:Nat)(w:World)(hp:bn w g f b k lp 0 0 0),Calls Tryo.prog 101 #[.pointer (some ⟨g,0,none⟩),.agg #[n,l]] w fun e w'=>e= .returned (.tuple #[])/\bn w' g f b k lp (Cal.plV lp n l) 0 0/\But g w w')/\(∀(n:Int)(l:Bool)(f b k:Int)(lp:Bool)(h:Cal.dH lp n l=false)(g:Nat)(w:World)(hp:bn w g f b k lp 0 0 0),Calls Tryo.prog 101 #[.pointer (some ⟨g,0,none⟩),.agg #[n,l]] w fun e w'=>e= .returned (.tuple #[])/\bn w' g f b k lp 0 0 3/\But g w w'):=by
 refine⟨@fun n l f b k lp h g w hp=>(fun(k90:Nat)=> ?_) 0,@fun n l f b k lp h g w hp=> ?_⟩
 all_goals(
 have hp0:=hp
 obtain⟨p0,p1,p2,p3,p4,p5,p6,pf,ps⟩:=hp
 first
 |(
   have _:=k90
   have hP:∀w,vB 84 #[lp,.agg #[n,l]] w (.tuple #[Cal.plV lp n l,true]):=fun w=>h▸iD lp n l w
   clear h
   generalize Cal.plV lp n l=pv at*
  )
 |(
   have h0:Cal.plV lp n l=0:=by simp [Cal.plV,h]
   have hP:∀w,vB 84 #[lp,.agg #[n,l]] w (.tuple #[(0:Int),false]):=fun w=>by
    have:=iD lp n l w
    rwa [h,h0]at this
   clear h h0
  )
 have HP:=Lib.hid hP
 clear hP
 go_enter (vF Tryz.func101),Tryz.ntmps101
 go_upto_region 1 with fail
 refine settle (fun W=>bn W g f b k lp 0 0 0/\W.cell? ⟨w.1.size,0,none⟩=some (n:vV)/\W.cell? ⟨w.1.size,1,none⟩=some (.bool l)/\w.1.size<W.1.size/\Below w.1.size w W) ⟨fD hp0 (ba _ _),vG,vG,vS,ba _ _⟩ ?_
 clear p0 p1 p2 p3 p4 p5 p6 pf ps
 rintro W0 ⟨hP0,b0,b1,bs0,hB0⟩
 have hq:=hP0
 obtain⟨q0,q1,q2,q3,q4,q5,q6,qf,qs⟩:=hq
 go_wp2_with fail
 refine bP vK vK (fun hall=> ?_)
 repeat(first|go_big_quiet_skip|(go_big_quiet_want;first|(refine ql1 _ _ _ rfl rfl ?_;apply Exists.intro;refine⟨?_, ?_⟩;assumption;go_simp;go_big_quiet_on)|(refine ql2 _ _ _ _ rfl rfl ?_;apply Exists.intro;apply Exists.intro;refine⟨?_, ?_, ?_⟩;assumption;assumption;go_simp;go_big_quiet_on)|(refine ql3 _ _ _ _ rfl rfl ?_;apply Exists.intro;apply Exists.intro;apply Exists.intro;refine⟨?_, ?_, ?_, ?_⟩;assumption;assumption;assumption;go_simp;go_big_quiet_on)|(refine ql4 _ _ _ _ rfl rfl ?_;apply Exists.intro;apply Exists.intro;apply Exists.intro;apply Exists.intro;refine⟨?_, ?_, ?_, ?_, ?_⟩;assumption;assumption;assumption;assumption;go_simp;go_big_quiet_on)|(go_big_quiet_op;first|go_big_quiet_on|(apply Exists.intro;refine⟨fun x hx=> ?_, ?_⟩;(first|exact dn hx (HP.out x));go_big_quiet_on))))
 refine wpQuiet_nil ?_
 clear hall
 intro x1 hx1
 have hx2:bn x1 g f b k lp 0 0 0:=fD hP0 hx1
 clear q0 q1 q2 q3 q4 q5 q6 qf qs b0 b1
 have hq:=hx2
 obtain⟨q0,q1,q2,q3,q4,q5,q6,qf,qs⟩:=hq
 have hb2:Below w.1.size w x1:=bt hB0 hx1
 go_wp2_with fail
 first|(have _:=k90;(refine bodyPost_end (v:= .tuple #[]) (by simp [results,Tryz.results101,go_sem]) rfl ?_);(exact⟨rfl,Vy hx2 _,But.set (But.of hb2) _ _⟩))|((refine bodyPost_ret (v:= .tuple #[]) (by simp [results,Tryz.results101,go_sem]) rfl ?_);(exact⟨rfl,nI hx2 _,But.set (But.of hb2) _ _⟩))
 )
def qA:=uJ.1
def AR:=uJ.2
theorem DX(f b k:Int)(lp:Bool)(m o er:Int)(g:Nat)(w:World)(hT:Tab w 6 kevCells)(hL:Tab w 4 lenCells)(hp:bn w g f b k lp m o er):
  vB 128 #[.pointer (some ⟨g,0,none⟩)] w (.int .i64 (uI b k lp m)):=by
 have hp0:=hp
 obtain⟨p0,p1,p2,p3,p4,p5,p6,pf,ps⟩:=hp
 go_enter (vF Tryz.func128),Tryz.ntmps128
 go_wp2_with fail
 refine bP vK vK (fun hall=> ?_)
 repeat(first|go_big_quiet_skip|(go_big_quiet_want;first|(refine ql1 _ _ _ rfl rfl ?_;apply Exists.intro;refine⟨?_, ?_⟩;assumption;go_simp;go_big_quiet_on)|(refine ql2 _ _ _ _ rfl rfl ?_;apply Exists.intro;apply Exists.intro;refine⟨?_, ?_, ?_⟩;assumption;assumption;go_simp;go_big_quiet_on)|(refine ql3 _ _ _ _ rfl rfl ?_;apply Exists.intro;apply Exists.intro;apply Exists.intro;refine⟨?_, ?_, ?_, ?_⟩;assumption;assumption;assumption;go_simp;go_big_quiet_on)|(refine ql4 _ _ _ _ rfl rfl ?_;apply Exists.intro;apply Exists.intro;apply Exists.intro;apply Exists.intro;refine⟨?_, ?_, ?_, ?_, ?_⟩;assumption;assumption;assumption;assumption;go_simp;go_big_quiet_on)|(go_big_quiet_op;first|go_big_quiet_on|(apply Exists.intro;refine⟨fun x hx=> ?_, ?_⟩;(first|exact dn hx (TR _ _ _ _ x (Tab.below hT hx) (Tab.below hL hx)));go_big_quiet_on))))
 refine wpQuiet_nil ?_
 clear hall
 intro x1 hx1
 go_wp2_with fail
 go_ret
 exact⟨rfl,hx1⟩
theorem NV(d:Int)(f b k:Int)(lp:Bool)(m o er:Int)(he:¬ er=0)(g:Nat)(w:World)(hp:bn w g f b k lp m o er):
  Calls Tryo.prog 102 #[.pointer (some ⟨g,0,none⟩),d] w fun e w'=>e= .returned (.tuple #[])/\bn w' g f b k lp m o er/\But g w w':=by
 have hp0:=hp
 obtain⟨p0,p1,p2,p3,p4,p5,p6,pf,ps⟩:=hp
 go_enter (vF Tryz.func102),Tryz.ntmps102
 go_wp2_with fail
 refine bodyPost_ret (v:= .tuple #[]) (by simp [results,Tryz.results102,go_sem]) rfl ?_
 exact⟨rfl,hp0,But.of (Below.refl _ _)⟩
theorem Nk(d:Int)(f b k:Int)(lp:Bool)(m:Int)(h:d<1)(g:Nat)(w:World)(hT:Tab w 6 kevCells)(hL:Tab w 4 lenCells)(hp:bn w g f b k lp m 0 0):
  Calls Tryo.prog 102 #[.pointer (some ⟨g,0,none⟩),d] w fun e w'=>e= .returned (.tuple #[])/\bn w' g f b k lp m 0 4/\But g w w':=by
 have hp0:=hp
 obtain⟨p0,p1,p2,p3,p4,p5,p6,pf,ps⟩:=hp
 go_enter (vF Tryz.func102),Tryz.ntmps102
 go_wp2_with fail
 refine bodyPost_ret (v:= .tuple #[]) (by simp [results,Tryz.results102,go_sem]) rfl ?_
 exact⟨rfl,nI hp0 _,But.set (But.of (Below.refl _ _)) _ _⟩
theorem KJ(d:Int)(f b k:Int)(lp:Bool)(m:Int)(h1:1<=d)(h2:uI b k lp m<d)(g:Nat)(w:World)(hT:Tab w 6 kevCells)(hL:Tab w 4 lenCells)(hp:bn w g f b k lp m 0 0):
  Calls Tryo.prog 102 #[.pointer (some ⟨g,0,none⟩),d] w fun e w'=>e= .returned (.tuple #[])/\bn w' g f b k lp m 0 4/\But g w w':=by
 have hp0:=hp
 obtain⟨p0,p1,p2,p3,p4,p5,p6,pf,ps⟩:=hp
 go_enter (vF Tryz.func102),Tryz.ntmps102
 go_wp2_with fail
 refine(DX f b k lp m 0 0 _ _ hT hL hp0).mono ?_
 rintro e w1 ⟨rfl,hb1⟩
 have hp1:=fD hp0 hb1
 have hq:=hp1
 obtain⟨q0,q1,q2,q3,q4,q5,q6,qf,qs⟩:=hq
 go_wp2_with fail
 refine bodyPost_ret (v:= .tuple #[]) (by simp [results,Tryz.results102,go_sem]) rfl ?_
 exact⟨rfl,nI hp1 _,But.set (But.of hb1) _ _⟩
theorem Qr(d:Int)(f b k:Int)(lp:Bool)(m:Int)(h1:1<=d)(h2:d<=uI b k lp m)(g:Nat)(w:World)(hT:Tab w 6 kevCells)(hL:Tab w 4 lenCells)(hp:bn w g f b k lp m 0 0):
  Calls Tryo.prog 102 #[.pointer (some ⟨g,0,none⟩),d] w fun e w'=>e= .returned (.tuple #[])/\bn w' g f b k lp m (jM b k lp m+d-1) 0/\But g w w':=by
 have hp0:=hp
 obtain⟨p0,p1,p2,p3,p4,p5,p6,pf,ps⟩:=hp
 go_enter (vF Tryz.func102),Tryz.ntmps102
 go_wp2_with fail
 refine(DX f b k lp m 0 0 _ _ hT hL hp0).mono ?_
 rintro e w1 ⟨rfl,hb1⟩
 have hp1:=fD hp0 hb1
 have hq:=hp1
 obtain⟨q0,q1,q2,q3,q4,q5,q6,qf,qs⟩:=hq
 have hT1:=Tab.below hT hb1
 have hL1:=Tab.below hL hb1
 clear p0 p1 p2 p3 p4 p5 p6 pf ps
 obtain⟨v1,v2⟩:=WI b k lp m
 have v3:=X3 b k lp m
 go_wp2_with fail
 go_region_with (first|(go_at_call 143;refine(Rb b k lp m _ (Tab.below hT1 (Below.refl _ _).drew) (Tab.below hL1 (Below.refl _ _).drew)).mono ?_;rintro e w4 ⟨rfl,hb4⟩;have z4:=fD (L6 hp1) hb4;obtain⟨z0,z1,z2,z3,z4,z5,z6,zf,zs⟩:=z4))
 all_goals go_wp2_with fail
 all_goals refine bodyPost_end (v:= .tuple #[]) (by simp [results,Tryz.results102,go_sem]) rfl ?_
 all_goals rw [show IntKind.i64.wrap (IntKind.i64.wrap (jM b k lp m+d)-1)=jM b k lp m+d-1 by rw [show IntKind.i64.wrap (jM b k lp m+d)=jM b k lp m+d from IntWalk.i64_in _ vO];exact IntWalk.i64_in _ vO]
 all_goals exact⟨rfl,WY (fD (L6 hp1) hb4) _,But.set (But.bt (But.drew (But.of hb1)) hb4) _ _⟩
theorem Xk{w w':World}{g g':Nat}{f b k:Int}{lp:Bool}{m o er:Int}(h:bn w g f b k lp m o er)(hb:But g' w w')(hg:g≠g'):bn w' g f b k lp m o er:=by
 obtain⟨h0,h1,h2,h3,h4,h5,h6,hf,hs⟩:=h
 have c:=fun i=>hb.cell (k:=g) (o:=i) hs hg
 exact⟨(c 0).trans h0,(c 1).trans h1,(c 2).trans h2,(c 3).trans h3,(c 4).trans h4,(c 5).trans h5,(c 6).trans h6,fun i=>(hb.frozen (k:=g) (o:=i) hs hg).trans (hf i),Nat.lt_of_lt_of_le hs hb.size⟩
end Go.Proofs.YtljbnicolhhicaaGreatDoor
