import Derived.Test.YtljbnicolhhicaaGreatDoorZSH
import Derived.Test.YtljbnicolhhicaaGreatDoorZTL
import Derived.Deep.DrawnRows
set_option linter.defProp false
set_option maxHeartbeats 8000000
set_option maxRecDepth 100000
set_option linter.unusedSimpArgs false
set_option linter.unusedVariables false
namespace Go.Proofs.YtljbnicolhhicaaGreatDoor
section
open Go.ChangeShapes Go.WideShapes Go.ChangeAt Go.RowKit
def bI(w:World)(g:Nat)(y n:Int)(l:Bool)(d m e:Int):Prop:=
 w.cell? ⟨g,0,none⟩=some (y:vV)/\w.cell? ⟨g,1,none⟩=some (n:vV)/\w.cell? ⟨g,2,none⟩=some (.bool l)/\w.cell? ⟨g,3,none⟩=some (d:vV)/\w.cell? ⟨g,4,none⟩=some (m:vV)/\w.cell? ⟨g,5,none⟩=some (e:vV)/\(∀i,w.frozen? ⟨g,i,none⟩=false)/\g<w.1.size
theorem zU{w:World}{g:Nat}{y n:Int}{l:Bool}{d m e:Int}(h:bI w g y n l d m e)(v:Int):bI (w.setCell ⟨g,0,none⟩ (.int .i64 v)) g v n l d m e:=by
 obtain⟨h0,h1,h2,h3,h4,h5,hf,hs⟩:=h
 exact⟨World.cell?_setCell_same _ _ _ h0,(cso).trans h1,(cso).trans h2,(cso).trans h3,(cso).trans h4,(cso).trans h5,fun i=>by simp [go_sem,hf],by simpa [World.setCell]using hs⟩
theorem zM{w:World}{g:Nat}{y n:Int}{l:Bool}{d m e:Int}(h:bI w g y n l d m e)(v:Int):bI (w.setCell ⟨g,1,none⟩ (.int .i64 v)) g y v l d m e:=by
 obtain⟨h0,h1,h2,h3,h4,h5,hf,hs⟩:=h
 exact⟨(cso).trans h0,World.cell?_setCell_same _ _ _ h1,(cso).trans h2,(cso).trans h3,(cso).trans h4,(cso).trans h5,fun i=>by simp [go_sem,hf],by simpa [World.setCell]using hs⟩
theorem zN{w:World}{g:Nat}{y n:Int}{l:Bool}{d m e:Int}(h:bI w g y n l d m e)(v:Bool):bI (w.setCell ⟨g,2,none⟩ (.bool v)) g y n v d m e:=by
 obtain⟨h0,h1,h2,h3,h4,h5,hf,hs⟩:=h
 exact⟨(cso).trans h0,(cso).trans h1,World.cell?_setCell_same _ _ _ h2,(cso).trans h3,(cso).trans h4,(cso).trans h5,fun i=>by simp [go_sem,hf],by simpa [World.setCell]using hs⟩
theorem DR{w:World}{g:Nat}{y n:Int}{l:Bool}{d m e:Int}(h:bI w g y n l d m e)(v:Int):bI (w.setCell ⟨g,3,none⟩ (.int .i64 v)) g y n l v m e:=by
 obtain⟨h0,h1,h2,h3,h4,h5,hf,hs⟩:=h
 exact⟨(cso).trans h0,(cso).trans h1,(cso).trans h2,World.cell?_setCell_same _ _ _ h3,(cso).trans h4,(cso).trans h5,fun i=>by simp [go_sem,hf],by simpa [World.setCell]using hs⟩
theorem WE{w:World}{g:Nat}{y n:Int}{l:Bool}{d m e:Int}(h:bI w g y n l d m e)(v:Int):bI (w.setCell ⟨g,4,none⟩ (.int .i64 v)) g y n l d v e:=by
 obtain⟨h0,h1,h2,h3,h4,h5,hf,hs⟩:=h
 exact⟨(cso).trans h0,(cso).trans h1,(cso).trans h2,(cso).trans h3,World.cell?_setCell_same _ _ _ h4,(cso).trans h5,fun i=>by simp [go_sem,hf],by simpa [World.setCell]using hs⟩
theorem qU{w:World}{g:Nat}{y n:Int}{l:Bool}{d m e:Int}(h:bI w g y n l d m e)(v:Int):bI (w.setCell ⟨g,5,none⟩ (.int .i64 v)) g y n l d m v:=by
 obtain⟨h0,h1,h2,h3,h4,h5,hf,hs⟩:=h
 exact⟨(cso).trans h0,(cso).trans h1,(cso).trans h2,(cso).trans h3,(cso).trans h4,World.cell?_setCell_same _ _ _ h5,fun i=>by simp [go_sem,hf],by simpa [World.setCell]using hs⟩
theorem ko{w w':World}{g:Nat}{y n:Int}{l:Bool}{d m e:Int}(h:bI w g y n l d m e)(hb:Below w.1.size w w'):bI w' g y n l d m e:=by
 obtain⟨h0,h1,h2,h3,h4,h5,hf,hs⟩:=h
 have c:=fun i=>hb.cell (p:=⟨g,i,none⟩) hs
 exact⟨(c 0).trans h0,(c 1).trans h1,(c 2).trans h2,(c 3).trans h3,(c 4).trans h4,(c 5).trans h5,fun i=>(hb.frozen (p:=⟨g,i,none⟩) hs).trans (hf i),Nat.lt_of_lt_of_le hs hb.size⟩
theorem zW{w:World}{g:Nat}{y n:Int}{l:Bool}{d m e:Int}(h:bI w g y n l d m e):bI w.drew g y n l d m e:=ko h (Below.refl _ _).drew
theorem jD:(∀(k:Int)(y n:Int)(l:Bool)(d m er:Int)(he:¬ er=0)(g:Nat)(w:World)(hp:bI w g y n l d m er),Calls Tryo.prog 72 #[.pointer (some ⟨g,0,none⟩),k] w fun e w'=>e= .returned (.tuple #[])/\bI w' g y n l d m er/\But g w w')/\(∀(k:Int)(y n:Int)(l:Bool)(d m er:Int)(he:¬ er=0)(g:Nat)(w:World)(hp:bI w g y n l d m er),Calls Tryo.prog 73 #[.pointer (some ⟨g,0,none⟩),k] w fun e w'=>e= .returned (.tuple #[])/\bI w' g y n l d m er/\But g w w')/\(∀(y n:Int)(l:Bool)(d m er:Int)(he:¬ er=0)(g:Nat)(w:World)(hp:bI w g y n l d m er),Calls Tryo.prog 74 #[.pointer (some ⟨g,0,none⟩)] w fun e w'=>e= .returned (.tuple #[])/\bI w' g y n l d m er/\But g w w')/\(∀(k:Int)(y n:Int)(l:Bool)(d m er:Int)(he:¬ er=0)(g:Nat)(w:World)(hp:bI w g y n l d m er),Calls Tryo.prog 75 #[.pointer (some ⟨g,0,none⟩),k] w fun e w'=>e= .returned (.tuple #[])/\bI w' g y n l d m er/\But g w w'):=by
 refine⟨@fun k y n l d m er he g w hp=>(fun(k90:Nat)=> ?_) 0,@fun k y n l d m er he g w hp=>(fun(k91:Nat)=> ?_) 0,@fun y n l d m er he g w hp=>(fun(k92:Nat)=> ?_) 0,@fun k y n l d m er he g w hp=> ?_⟩
 all_goals(
 have hq:=hp
 obtain⟨p0,p1,p2,p3,p4,p5,pf,ps⟩:=hq
 have he2:(er !=0)=true:=by simpa using he
 clear he
 first|(have _:=k90;go_enter (vF Tryz.func72),Tryz.ntmps72)|(have _:=k91;go_enter (vF Tryz.func73),Tryz.ntmps73)|(have _:=k92;go_enter (vF Tryz.func74),Tryz.ntmps74)|(go_enter (vF Tryz.func75),Tryz.ntmps75)
 go_wp2_with fail
 first|(have _:=k90;refine bodyPost_ret (v:= .tuple #[]) (by simp [results,Tryz.results72,go_sem]) rfl ?_)|(have _:=k91;refine bodyPost_ret (v:= .tuple #[]) (by simp [results,Tryz.results73,go_sem]) rfl ?_)|(have _:=k92;refine bodyPost_ret (v:= .tuple #[]) (by simp [results,Tryz.results74,go_sem]) rfl ?_)|(refine bodyPost_ret (v:= .tuple #[]) (by simp [results,Tryz.results75,go_sem]) rfl ?_)
 exact⟨rfl,hp,But.of (Below.refl _ _)⟩
 )
def uY:=jD.1
def jZ:=jD.2.1
def jG:=jD.2.2.1
def fI:=jD.2.2.2
theorem H6(k:Int)(y n:Int)(l:Bool)(d m:Int)(hy:1<=y/\y<=9999)(hk: -4000000<=k/\k<=4000000)(g:Nat)(w:World)(hp:bI w g y n l d m 0):
  Calls Tryo.prog 72 #[.pointer (some ⟨g,0,none⟩),k] w fun e w'=>e= .returned (.tuple #[])/\bI w' g (y+k) (S15.lD (y+k) n l m) (S15.lu (y+k) n l m) d m (S15.bT (y+k) n l m)/\But g w w':=by
 have hq:=hp
 obtain⟨p0,p1,p2,p3,p4,p5,pf,ps⟩:=hq
 obtain⟨y1,y2⟩:=hy
 obtain⟨k1,k2⟩:=hk
 have HI:=Lib.hid (fun w=>IW (y+k) n l m w)
 generalize S15.lD (y+k) n l m=rn at*
 generalize S15.lu (y+k) n l m=rl at*
 generalize S15.bT (y+k) n l m=re at*
 go_enter (vF Tryz.func72),Tryz.ntmps72
 go_wp2_with fail
 refine settle (fun W=>bI W g (y+k) n l d m 0/\But g w W) ⟨zU hp _,But.set (But.of (Below.refl _ _)) _ _⟩ ?_
 rintro W1 ⟨hP1,hB1⟩
 clear p0 p1 p2 p3 p4 p5 pf ps
 have hq:=hP1
 obtain⟨p0,p1,p2,p3,p4,p5,pf,ps⟩:=hq
 refine fE 16 vK ?_
 refine up 0 (v:= ?_) rfl ?_ ?_
 rotate_left 1
 ·first|(intro w;go_simp;done)|(intro w;go_simp;with_reducible rfl)
 try simp only [Act.put,List.setIfInBounds_toArray]
 refine up 1 (v:= ?_) rfl ?_ ?_
 rotate_left 1
 ·first|(intro w;go_simp;done)|(intro w;go_simp;with_reducible rfl)
 try simp only [Act.put,List.setIfInBounds_toArray]
 refine up 2 (v:= ?_) rfl ?_ ?_
 rotate_left 1
 ·first|(intro w;go_simp;done)|(intro w;go_simp;with_reducible rfl)
 try simp only [Act.put,List.setIfInBounds_toArray]
 refine up 3 (v:= ?_) rfl ?_ ?_
 rotate_left 1
 ·first|(intro w;go_simp;done)|(intro w;go_simp;with_reducible rfl)
 try simp only [Act.put,List.setIfInBounds_toArray]
 refine up 4 (v:= ?_) rfl ?_ ?_
 rotate_left 1
 ·first|(intro w;go_simp;done)|(intro w;go_simp;with_reducible rfl)
 try simp only [Act.put,List.setIfInBounds_toArray]
 refine up 5 (v:= ?_) rfl ?_ ?_
 rotate_left 1
 ·first|(intro w;go_simp;done)|(intro w;go_simp;with_reducible rfl)
 try simp only [Act.put,List.setIfInBounds_toArray]
 refine ur 6 (v:= ?_) rfl ?_ ?_
 rotate_left 1
 ·first|(go_simp;done)|(go_simp;with_reducible rfl)
 try simp only [Act.put,List.setIfInBounds_toArray]
 refine up 7 (v:= ?_) rfl ?_ ?_
 rotate_left 1
 ·first|(intro w;go_simp;done)|(intro w;go_simp;with_reducible rfl)
 try simp only [Act.put,List.setIfInBounds_toArray]
 refine up 8 (v:= ?_) rfl ?_ ?_
 rotate_left 1
 ·first|(intro w;go_simp;done)|(intro w;go_simp;with_reducible rfl)
 try simp only [Act.put,List.setIfInBounds_toArray]
 refine up 9 (v:= ?_) rfl ?_ ?_
 rotate_left 1
 ·first|(intro w;go_simp;done)|(intro w;go_simp;with_reducible rfl)
 try simp only [Act.put,List.setIfInBounds_toArray]
 refine up 10 (v:= ?_) rfl ?_ ?_
 rotate_left 1
 ·first|(intro w;go_simp;done)|(intro w;go_simp;with_reducible rfl)
 try simp only [Act.put,List.setIfInBounds_toArray]
 refine ur 11 (v:= ?_) rfl ?_ ?_
 rotate_left 1
 ·first|(go_simp;done)|(go_simp;with_reducible rfl)
 try simp only [Act.put,List.setIfInBounds_toArray]
 refine up 12 (v:= ?_) rfl ?_ ?_
 rotate_left 1
 ·first|(intro w;go_simp;done)|(intro w;go_simp;with_reducible rfl)
 try simp only [Act.put,List.setIfInBounds_toArray]
 refine up 13 (v:= ?_) rfl ?_ ?_
 rotate_left 1
 ·first|(intro w;go_simp;done)|(intro w;go_simp;with_reducible rfl)
 try simp only [Act.put,List.setIfInBounds_toArray]
 refine up 14 (v:= ?_) rfl ?_ ?_
 rotate_left 1
 ·first|(intro w;go_simp;done)|(intro w;go_simp;with_reducible rfl)
 try simp only [Act.put,List.setIfInBounds_toArray]
 refine ur 15 (v:= ?_) rfl ?_ ?_
 rotate_left 1
 ·first|(go_simp;done)|(go_simp;with_reducible rfl)
 try simp only [Act.put,List.setIfInBounds_toArray]
 refine bG (k:=16) rfl vK vK (fun K hK=> ?_)
 go_simp
 refine(HI.out _).mono ?_
 rintro e w7 ⟨rfl,hb7⟩
 have hP7:=ko (zW hP1) hb7
 clear p0 p1 p2 p3 p4 p5 pf ps
 have hq:=hP7
 obtain⟨p0,p1,p2,p3,p4,p5,pf,ps⟩:=hq
 go_wp2_with fail
 refine hK.out _ _ ?_
 clear hK K
 try simp only [Act.put,List.setIfInBounds_toArray]
 refine uq 17 (v:= ?_) rfl ?_ ?_
 rotate_left 1
 ·first|(intro w;go_simp;done)|(intro w;go_simp;with_reducible rfl)
 try simp only [Act.put,List.setIfInBounds_toArray]
 refine uq 18 (v:= ?_) rfl ?_ ?_
 rotate_left 1
 ·first|(intro w;go_simp;done)|(intro w;go_simp;with_reducible rfl)
 try simp only [Act.put,List.setIfInBounds_toArray]
 refine uq 19 (v:= ?_) rfl ?_ ?_
 rotate_left 1
 ·first|(intro w;go_simp;done)|(intro w;go_simp;with_reducible rfl)
 try simp only [Act.put,List.setIfInBounds_toArray]
 refine uq 20 (v:= ?_) rfl ?_ ?_
 rotate_left 1
 ·first|(intro w;go_simp;done)|(intro w;go_simp;with_reducible rfl)
 try simp only [Act.put,List.setIfInBounds_toArray]
 refine uq 21 (v:= ?_) rfl ?_ ?_
 rotate_left 1
 ·first|(intro w;go_simp;done)|(intro w;go_simp;with_reducible rfl)
 try simp only [Act.put,List.setIfInBounds_toArray]
 refine uq 22 (v:= ?_) rfl ?_ ?_
 rotate_left 1
 ·first|(intro w;go_simp;done)|(intro w;go_simp;with_reducible rfl)
 try simp only [Act.put,List.setIfInBounds_toArray]
 refine bG (k:=23) rfl vK vK (fun K hK=> ?_)
 go_simp
 refine hK.out _ _ ?_
 clear hK K
 try simp only [Act.put,List.setIfInBounds_toArray]
 refine uq 24 (v:= ?_) rfl ?_ ?_
 rotate_left 1
 ·first|(intro w;go_simp;done)|(intro w;go_simp;with_reducible rfl)
 try simp only [Act.put,List.setIfInBounds_toArray]
 refine uq 25 (v:= ?_) rfl ?_ ?_
 rotate_left 1
 ·first|(intro w;go_simp;done)|(intro w;go_simp;with_reducible rfl)
 try simp only [Act.put,List.setIfInBounds_toArray]
 refine bG (k:=26) rfl vK vK (fun K hK=> ?_)
 go_simp
 refine hK.out _ _ ?_
 clear hK K
 try simp only [Act.put,List.setIfInBounds_toArray]
 refine iQ vK ?_ _
 go_wp2_with fail
 refine bodyPost_end (v:= .tuple #[]) (by simp [results,Tryz.results72,go_sem]) rfl ?_
 exact⟨rfl,qU (zN (zM hP7 _) _) _,But.set (But.set (But.set (But.bt (But.drew hB1) hb7) _ _) _ _) _ _⟩
theorem yA:(∀(k:Int)(y n:Int)(l:Bool)(d m:Int)(hy:I64 y)(he:D10.aK y n l d=0)(hk: -40000000<=k/\k<=40000000)(hD:D10.aM y n l d+k< -1373427∨2278650<D10.aM y n l d+k)(g:Nat)(w:World)(hT:Tab w 6 kevCells)(hL:Tab w 4 lenCells)(hp:bI w g y n l d m 0),Calls Tryo.prog 75 #[.pointer (some ⟨g,0,none⟩),k] w fun e w'=>e= .returned (.tuple #[])/\bI w' g 0 0 false 0 m 2/\But g w w')/\(∀(k:Int)(y n:Int)(l:Bool)(d m:Int)(hy:I64 y)(he:D10.aK y n l d=0)(hk: -40000000<=k/\k<=40000000)(ry rm rd:Int)(hv:D10.Valid ry rm rd)(hD:D10.aM y n l d+k=D10.bA ry rm rd)(g:Nat)(w:World)(hT:Tab w 6 kevCells)(hL:Tab w 4 lenCells)(hp:bI w g y n l d m 0),Calls Tryo.prog 75 #[.pointer (some ⟨g,0,none⟩),k] w fun e w'=>e= .returned (.tuple #[])/\bI w' g ry (Cal.ofN (Cal.leap ry) rm) (Cal.ofL (Cal.leap ry) rm) rd m 0/\But g w w'):=by
 refine⟨@fun k y n l d m hy he hk hD g w hT hL hp=>(fun(k90:Nat)=> ?_) 0,@fun k y n l d m hy he hk ry rm rd hv hD g w hT hL hp=> ?_⟩
 all_goals(
 have hq:=hp
 obtain⟨p0,p1,p2,p3,p4,p5,pf,ps⟩:=hq
 obtain⟨k1,k2⟩:=hk
 obtain⟨_,d1,d2⟩:=D10.qg y n l d he
 have HT:=Lib.hid (fun w hT hL=>lW y n l d w hy hT hL)
 rw [he]at HT
 clear he
 first|(have _:=k90;(have HF:=Lib.hid (fun w=>kR (D10.aM y n l d+k) w hD));(clear hD))|((have HF:=Lib.hid (fun w hT hL=>iE ry rm rd w hT hL hv));(rw [←hD]at HF);(clear hD hv);(generalize Cal.ofN (Cal.leap ry) rm=rn at*);(generalize Cal.ofL (Cal.leap ry) rm=rl at*))
 generalize D10.aM y n l d=D at*
 go_enter (vF Tryz.func75),Tryz.ntmps75
 go_wp2_with fail
 refine(HT.out _ hT hL).mono ?_
 rintro e w1 ⟨rfl,hb1⟩
 have hP1:=ko hp hb1
 have hT1:=Tab.below hT hb1
 have hL1:=Tab.below hL hb1
 clear p0 p1 p2 p3 p4 p5 pf ps
 have hq:=hP1
 obtain⟨p0,p1,p2,p3,p4,p5,pf,ps⟩:=hq
 go_wp2_with fail
 first|(have _:=k90;refine(HF.out _).mono ?_)|(refine(HF.out _ hT1 hL1).mono ?_)
 rintro e w2 ⟨rfl,hb2⟩
 have hP2:=ko hP1 hb2
 clear p0 p1 p2 p3 p4 p5 pf ps
 have hq:=hP2
 obtain⟨p0,p1,p2,p3,p4,p5,pf,ps⟩:=hq
 go_wp2_with fail
 refine bodyPost_end (v:= .tuple #[]) (by simp [results,Tryz.results75,go_sem]) rfl ?_
 exact⟨rfl,qU (DR (zN (zM (zU hP2 _) _) _) _) _,But.set (But.set (But.set (But.set (But.set (But.bt (But.of hb1) hb2) _ _) _ _) _ _) _ _) _ _⟩
 )
def BI:=yA.1
def CK:=yA.2
end
section
open Go.ChangeShapes Go.WideShapes Go.ChangeAt Go.RowKit
theorem Fh(k:Int)(y n:Int)(l:Bool)(d m:Int)(hy:I64 y)(g:Nat)(w:World)(hT:Tab w 6 kevCells)(hL:Tab w 4 lenCells)(hp:bI w g y n l d m 0):
  Calls Tryo.prog 73 #[.pointer (some ⟨g,0,none⟩),k] w fun e w'=>e= .returned (.tuple #[])/\bI w' g (S15.uV y n l k) (S15.Br y n l k) (S15.A9 y n l k) d m (S15.monE y n l k)/\But g w w':=by
 have hq:=hp
 obtain⟨p0,p1,p2,p3,p4,p5,pf,ps⟩:=hq
 have HI:=Lib.hid (fun w hT hL=>Ou y n l k w hy hT hL)
 generalize S15.uV y n l k=ry at*
 generalize S15.Br y n l k=rn at*
 generalize S15.A9 y n l k=rl at*
 generalize S15.monE y n l k=re at*
 go_enter (vF Tryz.func73),Tryz.ntmps73
 go_wp2_with fail
 refine fE 14 vK ?_
 refine up 0 (v:= ?_) rfl ?_ ?_
 rotate_left 1
 ·first|(intro w;go_simp;done)|(intro w;go_simp;with_reducible rfl)
 try simp only [Act.put,List.setIfInBounds_toArray]
 refine up 1 (v:= ?_) rfl ?_ ?_
 rotate_left 1
 ·first|(intro w;go_simp;done)|(intro w;go_simp;with_reducible rfl)
 try simp only [Act.put,List.setIfInBounds_toArray]
 refine up 2 (v:= ?_) rfl ?_ ?_
 rotate_left 1
 ·first|(intro w;go_simp;done)|(intro w;go_simp;with_reducible rfl)
 try simp only [Act.put,List.setIfInBounds_toArray]
 refine up 3 (v:= ?_) rfl ?_ ?_
 rotate_left 1
 ·first|(intro w;go_simp;done)|(intro w;go_simp;with_reducible rfl)
 try simp only [Act.put,List.setIfInBounds_toArray]
 refine up 4 (v:= ?_) rfl ?_ ?_
 rotate_left 1
 ·first|(intro w;go_simp;done)|(intro w;go_simp;with_reducible rfl)
 try simp only [Act.put,List.setIfInBounds_toArray]
 refine up 5 (v:= ?_) rfl ?_ ?_
 rotate_left 1
 ·first|(intro w;go_simp;done)|(intro w;go_simp;with_reducible rfl)
 try simp only [Act.put,List.setIfInBounds_toArray]
 refine up 6 (v:= ?_) rfl ?_ ?_
 rotate_left 1
 ·first|(intro w;go_simp;done)|(intro w;go_simp;with_reducible rfl)
 try simp only [Act.put,List.setIfInBounds_toArray]
 refine ur 7 (v:= ?_) rfl ?_ ?_
 rotate_left 1
 ·first|(go_simp;done)|(go_simp;with_reducible rfl)
 try simp only [Act.put,List.setIfInBounds_toArray]
 refine up 8 (v:= ?_) rfl ?_ ?_
 rotate_left 1
 ·first|(intro w;go_simp;done)|(intro w;go_simp;with_reducible rfl)
 try simp only [Act.put,List.setIfInBounds_toArray]
 refine up 9 (v:= ?_) rfl ?_ ?_
 rotate_left 1
 ·first|(intro w;go_simp;done)|(intro w;go_simp;with_reducible rfl)
 try simp only [Act.put,List.setIfInBounds_toArray]
 refine up 10 (v:= ?_) rfl ?_ ?_
 rotate_left 1
 ·first|(intro w;go_simp;done)|(intro w;go_simp;with_reducible rfl)
 try simp only [Act.put,List.setIfInBounds_toArray]
 refine up 11 (v:= ?_) rfl ?_ ?_
 rotate_left 1
 ·first|(intro w;go_simp;done)|(intro w;go_simp;with_reducible rfl)
 try simp only [Act.put,List.setIfInBounds_toArray]
 refine ur 12 (v:= ?_) rfl ?_ ?_
 rotate_left 1
 ·first|(go_simp;done)|(go_simp;with_reducible rfl)
 try simp only [Act.put,List.setIfInBounds_toArray]
 refine up 13 (v:= ?_) rfl ?_ ?_
 rotate_left 1
 ·first|(intro w;go_simp;done)|(intro w;go_simp;with_reducible rfl)
 try simp only [Act.put,List.setIfInBounds_toArray]
 refine bG (k:=14) rfl vK vK (fun K hK=> ?_)
 go_simp
 refine(HI.out _ (Tab.below hT (by repeat(first|(with_reducible exact Below.refl _ _)|(with_reducible refine aT ?_)))) (Tab.below hL (by repeat(first|(with_reducible exact Below.refl _ _)|(with_reducible refine aT ?_))))).mono ?_
 rintro e w7 ⟨rfl,hb7⟩
 have hP7:=ko (zW hp) hb7
 clear p0 p1 p2 p3 p4 p5 pf ps
 have hq:=hP7
 obtain⟨p0,p1,p2,p3,p4,p5,pf,ps⟩:=hq
 go_wp2_with fail
 refine hK.out _ _ ?_
 clear hK K
 try simp only [Act.put,List.setIfInBounds_toArray]
 refine uq 15 (v:= ?_) rfl ?_ ?_
 rotate_left 1
 ·first|(intro w;go_simp;done)|(intro w;go_simp;with_reducible rfl)
 try simp only [Act.put,List.setIfInBounds_toArray]
 refine uq 16 (v:= ?_) rfl ?_ ?_
 rotate_left 1
 ·first|(intro w;go_simp;done)|(intro w;go_simp;with_reducible rfl)
 try simp only [Act.put,List.setIfInBounds_toArray]
 refine uq 17 (v:= ?_) rfl ?_ ?_
 rotate_left 1
 ·first|(intro w;go_simp;done)|(intro w;go_simp;with_reducible rfl)
 try simp only [Act.put,List.setIfInBounds_toArray]
 refine uq 18 (v:= ?_) rfl ?_ ?_
 rotate_left 1
 ·first|(intro w;go_simp;done)|(intro w;go_simp;with_reducible rfl)
 try simp only [Act.put,List.setIfInBounds_toArray]
 refine uq 19 (v:= ?_) rfl ?_ ?_
 rotate_left 1
 ·first|(intro w;go_simp;done)|(intro w;go_simp;with_reducible rfl)
 try simp only [Act.put,List.setIfInBounds_toArray]
 refine uq 20 (v:= ?_) rfl ?_ ?_
 rotate_left 1
 ·first|(intro w;go_simp;done)|(intro w;go_simp;with_reducible rfl)
 try simp only [Act.put,List.setIfInBounds_toArray]
 refine uq 21 (v:= ?_) rfl ?_ ?_
 rotate_left 1
 ·first|(intro w;go_simp;done)|(intro w;go_simp;with_reducible rfl)
 try simp only [Act.put,List.setIfInBounds_toArray]
 refine bG (k:=22) rfl vK vK (fun K hK=> ?_)
 go_simp
 refine hK.out _ _ ?_
 clear hK K
 try simp only [Act.put,List.setIfInBounds_toArray]
 refine uq 23 (v:= ?_) rfl ?_ ?_
 rotate_left 1
 ·first|(intro w;go_simp;done)|(intro w;go_simp;with_reducible rfl)
 try simp only [Act.put,List.setIfInBounds_toArray]
 refine uq 24 (v:= ?_) rfl ?_ ?_
 rotate_left 1
 ·first|(intro w;go_simp;done)|(intro w;go_simp;with_reducible rfl)
 try simp only [Act.put,List.setIfInBounds_toArray]
 refine uq 25 (v:= ?_) rfl ?_ ?_
 rotate_left 1
 ·first|(intro w;go_simp;done)|(intro w;go_simp;with_reducible rfl)
 try simp only [Act.put,List.setIfInBounds_toArray]
 refine bG (k:=26) rfl vK vK (fun K hK=> ?_)
 go_simp
 refine hK.out _ _ ?_
 clear hK K
 try simp only [Act.put,List.setIfInBounds_toArray]
 refine uq 27 (v:= ?_) rfl ?_ ?_
 rotate_left 1
 ·first|(intro w;go_simp;done)|(intro w;go_simp;with_reducible rfl)
 try simp only [Act.put,List.setIfInBounds_toArray]
 refine uq 28 (v:= ?_) rfl ?_ ?_
 rotate_left 1
 ·first|(intro w;go_simp;done)|(intro w;go_simp;with_reducible rfl)
 try simp only [Act.put,List.setIfInBounds_toArray]
 refine bG (k:=29) rfl vK vK (fun K hK=> ?_)
 go_simp
 refine hK.out _ _ ?_
 clear hK K
 try simp only [Act.put,List.setIfInBounds_toArray]
 refine iQ vK ?_ _
 go_wp2_with fail
 refine bodyPost_end (v:= .tuple #[]) (by simp [results,Tryz.results73,go_sem]) rfl ?_
 exact⟨rfl,qU (zN (zM (zU hP7 _) _) _) _,But.set (But.set (But.set (But.set (But.bt (But.drew (But.of (Below.refl _ _))) hb7) _ _) _ _) _ _) _ _⟩
end
section
open Go.ChangeShapes Go.WideShapes Go.ChangeAt Go.RowKit
theorem Sg(y n:Int)(l:Bool)(d m:Int)(hy:I64 y)(g:Nat)(w:World)(hT:Tab w 6 kevCells)(hL:Tab w 4 lenCells)(hp:bI w g y n l d m 0):
  Calls Tryo.prog 74 #[.pointer (some ⟨g,0,none⟩)] w fun e w'=>e= .returned (.tuple #[])/\bI w' g y n l (S15.J2 y n l d m) m (S15.og y n l d m)/\But g w w':=by
 have hq:=hp
 obtain⟨p0,p1,p2,p3,p4,p5,pf,ps⟩:=hq
 have HI:=Lib.hid (fun w hT hL=>Wy y n l d m w hy hT hL)
 generalize S15.J2 y n l d m=rd at*
 generalize S15.og y n l d m=re at*
 go_enter (vF Tryz.func74),Tryz.ntmps74
 go_wp2_with fail
 refine fE 21 vK ?_
 refine up 0 (v:= ?_) rfl ?_ ?_
 rotate_left 1
 ·first|(intro w;go_simp;done)|(intro w;go_simp;with_reducible rfl)
 try simp only [Act.put,List.setIfInBounds_toArray]
 refine up 1 (v:= ?_) rfl ?_ ?_
 rotate_left 1
 ·first|(intro w;go_simp;done)|(intro w;go_simp;with_reducible rfl)
 try simp only [Act.put,List.setIfInBounds_toArray]
 refine up 2 (v:= ?_) rfl ?_ ?_
 rotate_left 1
 ·first|(intro w;go_simp;done)|(intro w;go_simp;with_reducible rfl)
 try simp only [Act.put,List.setIfInBounds_toArray]
 refine up 3 (v:= ?_) rfl ?_ ?_
 rotate_left 1
 ·first|(intro w;go_simp;done)|(intro w;go_simp;with_reducible rfl)
 try simp only [Act.put,List.setIfInBounds_toArray]
 refine up 4 (v:= ?_) rfl ?_ ?_
 rotate_left 1
 ·first|(intro w;go_simp;done)|(intro w;go_simp;with_reducible rfl)
 try simp only [Act.put,List.setIfInBounds_toArray]
 refine up 5 (v:= ?_) rfl ?_ ?_
 rotate_left 1
 ·first|(intro w;go_simp;done)|(intro w;go_simp;with_reducible rfl)
 try simp only [Act.put,List.setIfInBounds_toArray]
 refine ur 6 (v:= ?_) rfl ?_ ?_
 rotate_left 1
 ·first|(go_simp;done)|(go_simp;with_reducible rfl)
 try simp only [Act.put,List.setIfInBounds_toArray]
 refine up 7 (v:= ?_) rfl ?_ ?_
 rotate_left 1
 ·first|(intro w;go_simp;done)|(intro w;go_simp;with_reducible rfl)
 try simp only [Act.put,List.setIfInBounds_toArray]
 refine up 8 (v:= ?_) rfl ?_ ?_
 rotate_left 1
 ·first|(intro w;go_simp;done)|(intro w;go_simp;with_reducible rfl)
 try simp only [Act.put,List.setIfInBounds_toArray]
 refine up 9 (v:= ?_) rfl ?_ ?_
 rotate_left 1
 ·first|(intro w;go_simp;done)|(intro w;go_simp;with_reducible rfl)
 try simp only [Act.put,List.setIfInBounds_toArray]
 refine up 10 (v:= ?_) rfl ?_ ?_
 rotate_left 1
 ·first|(intro w;go_simp;done)|(intro w;go_simp;with_reducible rfl)
 try simp only [Act.put,List.setIfInBounds_toArray]
 refine ur 11 (v:= ?_) rfl ?_ ?_
 rotate_left 1
 ·first|(go_simp;done)|(go_simp;with_reducible rfl)
 try simp only [Act.put,List.setIfInBounds_toArray]
 refine up 12 (v:= ?_) rfl ?_ ?_
 rotate_left 1
 ·first|(intro w;go_simp;done)|(intro w;go_simp;with_reducible rfl)
 try simp only [Act.put,List.setIfInBounds_toArray]
 refine up 13 (v:= ?_) rfl ?_ ?_
 rotate_left 1
 ·first|(intro w;go_simp;done)|(intro w;go_simp;with_reducible rfl)
 try simp only [Act.put,List.setIfInBounds_toArray]
 refine up 14 (v:= ?_) rfl ?_ ?_
 rotate_left 1
 ·first|(intro w;go_simp;done)|(intro w;go_simp;with_reducible rfl)
 try simp only [Act.put,List.setIfInBounds_toArray]
 refine up 15 (v:= ?_) rfl ?_ ?_
 rotate_left 1
 ·first|(intro w;go_simp;done)|(intro w;go_simp;with_reducible rfl)
 try simp only [Act.put,List.setIfInBounds_toArray]
 refine ur 16 (v:= ?_) rfl ?_ ?_
 rotate_left 1
 ·first|(go_simp;done)|(go_simp;with_reducible rfl)
 try simp only [Act.put,List.setIfInBounds_toArray]
 refine up 17 (v:= ?_) rfl ?_ ?_
 rotate_left 1
 ·first|(intro w;go_simp;done)|(intro w;go_simp;with_reducible rfl)
 try simp only [Act.put,List.setIfInBounds_toArray]
 refine up 18 (v:= ?_) rfl ?_ ?_
 rotate_left 1
 ·first|(intro w;go_simp;done)|(intro w;go_simp;with_reducible rfl)
 try simp only [Act.put,List.setIfInBounds_toArray]
 refine up 19 (v:= ?_) rfl ?_ ?_
 rotate_left 1
 ·first|(intro w;go_simp;done)|(intro w;go_simp;with_reducible rfl)
 try simp only [Act.put,List.setIfInBounds_toArray]
 refine ur 20 (v:= ?_) rfl ?_ ?_
 rotate_left 1
 ·first|(go_simp;done)|(go_simp;with_reducible rfl)
 try simp only [Act.put,List.setIfInBounds_toArray]
 refine bG (k:=21) rfl vK vK (fun K hK=> ?_)
 go_simp
 refine(HI.out _ (Tab.below hT (by repeat(first|(with_reducible exact Below.refl _ _)|(with_reducible refine aT ?_)))) (Tab.below hL (by repeat(first|(with_reducible exact Below.refl _ _)|(with_reducible refine aT ?_))))).mono ?_
 rintro e w7 ⟨rfl,hb7⟩
 have hP7:=ko (zW hp) hb7
 clear p0 p1 p2 p3 p4 p5 pf ps
 have hq:=hP7
 obtain⟨p0,p1,p2,p3,p4,p5,pf,ps⟩:=hq
 go_wp2_with fail
 refine hK.out _ _ ?_
 clear hK K
 try simp only [Act.put,List.setIfInBounds_toArray]
 refine uq 22 (v:= ?_) rfl ?_ ?_
 rotate_left 1
 ·first|(intro w;go_simp;done)|(intro w;go_simp;with_reducible rfl)
 try simp only [Act.put,List.setIfInBounds_toArray]
 refine uq 23 (v:= ?_) rfl ?_ ?_
 rotate_left 1
 ·first|(intro w;go_simp;done)|(intro w;go_simp;with_reducible rfl)
 try simp only [Act.put,List.setIfInBounds_toArray]
 refine uq 24 (v:= ?_) rfl ?_ ?_
 rotate_left 1
 ·first|(intro w;go_simp;done)|(intro w;go_simp;with_reducible rfl)
 try simp only [Act.put,List.setIfInBounds_toArray]
 refine uq 25 (v:= ?_) rfl ?_ ?_
 rotate_left 1
 ·first|(intro w;go_simp;done)|(intro w;go_simp;with_reducible rfl)
 try simp only [Act.put,List.setIfInBounds_toArray]
 refine uq 26 (v:= ?_) rfl ?_ ?_
 rotate_left 1
 ·first|(intro w;go_simp;done)|(intro w;go_simp;with_reducible rfl)
 try simp only [Act.put,List.setIfInBounds_toArray]
 refine uq 27 (v:= ?_) rfl ?_ ?_
 rotate_left 1
 ·first|(intro w;go_simp;done)|(intro w;go_simp;with_reducible rfl)
 try simp only [Act.put,List.setIfInBounds_toArray]
 refine bG (k:=28) rfl vK vK (fun K hK=> ?_)
 go_simp
 refine hK.out _ _ ?_
 clear hK K
 try simp only [Act.put,List.setIfInBounds_toArray]
 refine uq 29 (v:= ?_) rfl ?_ ?_
 rotate_left 1
 ·first|(intro w;go_simp;done)|(intro w;go_simp;with_reducible rfl)
 try simp only [Act.put,List.setIfInBounds_toArray]
 refine uq 30 (v:= ?_) rfl ?_ ?_
 rotate_left 1
 ·first|(intro w;go_simp;done)|(intro w;go_simp;with_reducible rfl)
 try simp only [Act.put,List.setIfInBounds_toArray]
 refine bG (k:=31) rfl vK vK (fun K hK=> ?_)
 go_simp
 refine hK.out _ _ ?_
 clear hK K
 try simp only [Act.put,List.setIfInBounds_toArray]
 refine iQ vK ?_ _
 go_wp2_with fail
 refine bodyPost_end (v:= .tuple #[]) (by simp [results,Tryz.results74,go_sem]) rfl ?_
 exact⟨rfl,qU (DR hP7 _) _,But.set (But.set (But.bt (But.drew (But.of (Below.refl _ _))) hb7) _ _) _ _⟩
end
section
open Go.ChangeShapes Go.WideShapes Go.ChangeAt Go.RowKit
namespace A16
def may(x:Int):Bool:=decide (-4000000<=x)&&decide (x<=4000000)
def right(a b c d:Int):Bool:=may a&&(may b&&(may c&&may d))
theorem NM{x:Int}(h:may x=true): -4000000<=x/\x<=4000000:=by simpa [may]using h
theorem CG{a b c d:Int}(h:right a b c d=true):(-4000000<=a/\a<=4000000)/\(-4000000<=b/\b<=4000000)/\(-4000000<=c/\c<=4000000)/\(-4000000<=d/\d<=4000000):=by
 simp only [right,Bool.and_eq_true]at h
 exact⟨NM h.1,NM h.2.1,NM h.2.2.1,NM h.2.2.2⟩
def n1(y n:Int)(l:Bool)(sy m:Int):Int:=S15.lD (y+sy) n l m
def l1(y n:Int)(l:Bool)(sy m:Int):Bool:=S15.lu (y+sy) n l m
def y2(y n:Int)(l:Bool)(sy sm m:Int):Int:=S15.uV (y+sy) (n1 y n l sy m) (l1 y n l sy m) sm
def n2(y n:Int)(l:Bool)(sy sm m:Int):Int:=S15.Br (y+sy) (n1 y n l sy m) (l1 y n l sy m) sm
def l2(y n:Int)(l:Bool)(sy sm m:Int):Bool:=S15.A9 (y+sy) (n1 y n l sy m) (l1 y n l sy m) sm
def e2(y n:Int)(l:Bool)(sy sm m:Int):Int:=S15.monE (y+sy) (n1 y n l sy m) (l1 y n l sy m) sm
def d2(y n:Int)(l:Bool)(d sy sm m:Int):Int:=S15.J2 (y2 y n l sy sm m) (n2 y n l sy sm m) (l2 y n l sy sm m) d m
def e3(y n:Int)(l:Bool)(d sy sm m:Int):Int:=S15.og (y2 y n l sy sm m) (n2 y n l sy sm m) (l2 y n l sy sm m) d m
def day(y n:Int)(l:Bool)(d sy sm sw sd m:Int):Int:=D10.aM (y2 y n l sy sm m) (n2 y n l sy sm m) (l2 y n l sy sm m) (d2 y n l d sy sm m)+(7*sw+sd)
def out(D:Int):Prop:=D< -1373427∨2278650<D
instance(D:Int):Decidable (out D):=by unfold out;exact inferInstance
def toE(y n:Int)(l:Bool)(d sy sm sw sd m:Int):Int:=
 if right sy sm sw sd&&S15.mode m then(if D10.aK y n l d=0 then(if S15.bT (y+sy) n l m=0 then(if e2 y n l sy sm m=0 then(if e3 y n l d sy sm m=0 then(if out (day y n l d sy sm sw sd m)then 2 else 0)else e3 y n l d sy sm m)else e2 y n l sy sm m)else S15.bT (y+sy) n l m)else D10.aK y n l d)else 1
theorem Rk{y n d m:Int}{l:Bool}(h:S15.og y n l d m=0):D10.aK y n l (S15.J2 y n l d m)=0:=by
 have hv:S15.J2 y n l d m=if d<=D10.aY y n l then d else D10.aY y n l:=by unfold S15.J2;rw [if_pos h]
 unfold S15.og at h
 split at h
 ·split at h
  ·rename_i he
   obtain⟨h1,h2,hp⟩:=S15.Ab he
   have hb:=S15.BR he
   have e:D10.aY y n l=D10.dLen y (Cal.plV (Cal.leap y) n l):=by simp [D10.aY,Cal.dN y h1 h2,hp]
   split at h
   ·omega
   ·rw [hv]
    have hx:1<=(if d<=D10.aY y n l then d else D10.aY y n l)/\(if d<=D10.aY y n l then d else D10.aY y n l)<=D10.aY y n l:=by split <;> omega
    generalize (if d<=D10.aY y n l then d else D10.aY y n l)=z at*
    rw [e]at hx
    unfold D10.aK
    rw [Cal.dN y h1 h2,hp]
    simp [hx]
  ·rename_i he;exact absurd h he
 ·omega
end A16
namespace A16
def Gs(y n:Int)(l:Bool)(d a b c f m ry rn:Int)(rl:Bool)(rd er:Int):Prop:=
 (¬ toE y n l d a b c f m=0/\er=toE y n l d a b c f m/\ry=0/\rn=0/\rl=false/\rd=0)∨
 (toE y n l d a b c f m=0/\er=0/\∃rm,D10.Valid ry rm rd/\day y n l d a b c f m=D10.bA ry rm rd/\rn=Cal.ofN (Cal.leap ry) rm/\rl=Cal.ofL (Cal.leap ry) rm)
theorem Gs.err{y n:Int}{l:Bool}{d a b c f m ry rn:Int}{rl:Bool}{rd er E:Int}(h:Gs y n l d a b c f m ry rn rl rd er)(hE:toE y n l d a b c f m=E)(hne:¬ E=0):ry=0/\rn=0/\rl=false/\rd=0/\er=E:=by
 rcases h with ⟨_,h1,h2,h3,h4,h5⟩|⟨h0,_⟩
 ·exact⟨h2,h3,h4,h5,h1.trans hE⟩
 ·rw [hE]at h0;exact absurd h0 hne
theorem Gs.ok{y n:Int}{l:Bool}{d a b c f m ry rn:Int}{rl:Bool}{rd er:Int}(h:Gs y n l d a b c f m ry rn rl rd er)(hE:toE y n l d a b c f m=0):er=0/\∃rm,D10.Valid ry rm rd/\day y n l d a b c f m=D10.bA ry rm rd/\rn=Cal.ofN (Cal.leap ry) rm/\rl=Cal.ofL (Cal.leap ry) rm:=by
 rcases h with ⟨h0,_⟩|⟨_,h1,h2⟩
 ·exact absurd hE h0
 ·exact⟨h1,h2⟩
end A16
end
section
open Go.RowKit
namespace A16
theorem to_0{y n d a b c f m:Int}{l:Bool}(h:toE y n l d a b c f m=0):right a b c f=true/\S15.mode m=true/\D10.aK y n l d=0/\S15.bT (y+a) n l m=0/\e2 y n l a b m=0/\e3 y n l d a b m=0/\¬ out (day y n l d a b c f m):=by
 unfold toE at h
 by_cases h0:(right a b c f&&S15.mode m)=true
 ·rw [if_pos h0]at h
  simp only [Bool.and_eq_true]at h0
  by_cases h1:D10.aK y n l d=0
  ·rw [if_pos h1]at h
   by_cases h2:S15.bT (y+a) n l m=0
   ·rw [if_pos h2]at h
    by_cases h3:e2 y n l a b m=0
    ·rw [if_pos h3]at h
     by_cases h4:e3 y n l d a b m=0
     ·rw [if_pos h4]at h
      by_cases h5:out (day y n l d a b c f m)
      ·rw [if_pos h5]at h;omega
      ·exact⟨h0.1,h0.2,h1,h2,h3,h4,h5⟩
     ·rw [if_neg h4]at h;exact absurd h h4
    ·rw [if_neg h3]at h;exact absurd h h3
   ·rw [if_neg h2]at h;exact absurd h h2
  ·rw [if_neg h1]at h;exact absurd h h1
 ·rw [if_neg h0]at h;omega
theorem O1(y n:Int)(l:Bool)(d a b c f m:Int):∃ (ry rn:Int) (rl:Bool) (rd er:Int),Gs y n l d a b c f m ry rn rl rd er:=by
 by_cases h:toE y n l d a b c f m=0
 ·obtain⟨_,_,_,_,_,_,ho⟩:=to_0 h
  unfold out at ho
  obtain⟨ry,rm,rd,hv,e⟩:=D10.qQ (day y n l d a b c f m) vO vO
  exact⟨ry,Cal.ofN (Cal.leap ry) rm,Cal.ofL (Cal.leap ry) rm,rd,0,.inr ⟨h,rfl,rm,hv,e,rfl,rfl⟩⟩
 ·exact⟨0,0,false,0,toE y n l d a b c f m,.inl ⟨h,rfl,rfl,rfl,rfl,rfl⟩⟩
theorem Gs.date{y n d a b c f m ry rn rd er:Int}{l rl:Bool}(h:Gs y n l d a b c f m ry rn rl rd er)(hE:toE y n l d a b c f m=0):er=0/\D10.aK ry rn rl rd=0/\D10.aM ry rn rl rd=day y n l d a b c f m/\1<=ry/\ry<=9999:=by
 obtain⟨he,rm,hv,e,rfl,rfl⟩:=h.ok hE
 obtain⟨h1,h2⟩:=D10.Bp hv
 exact⟨he,h1,h2.trans e.symm,hv.1,hv.2.1⟩
theorem Gs.e{y n d a b c f m ry rn rd er:Int}{l rl:Bool}(h:Gs y n l d a b c f m ry rn rl rd er):er=toE y n l d a b c f m:=by
 rcases h with ⟨_,h,_⟩|⟨h0,h,_⟩
 ·exact h
 ·rw [h,h0]
theorem VL{y n d m:Int}{l:Bool}(h:D10.aK y n l d=0)(hm:S15.mode m=true):S15.bT (y+0) n l m=0/\n1 y n l 0 m=n/\l1 y n l 0 m=l:=by
 obtain⟨hv,hp⟩:=D10.bq h
 have hr:Cal.right n l=true:=by unfold Cal.dH at hp;simp only [Bool.and_eq_true]at hp;exact hp.1
 have e:S15.bT (y+0) n l m=0:=by unfold S15.bT;rw [Int.add_zero,hm,Cal.dN y hv.1 hv.2.1,hr,hp];rfl
 refine⟨e, ?_, ?_⟩
 ·unfold n1 S15.lD;rw [if_pos e,Int.add_zero,if_pos hp]
 ·unfold l1 S15.lu;rw [if_pos e,Int.add_zero,if_pos hp]
theorem YZ{y n d m:Int}{l:Bool}(h:D10.aK y n l d=0)(hm:S15.mode m=true):S15.og y n l d m=0/\S15.J2 y n l d m=d:=by
 obtain⟨hv,hp⟩:=D10.bq h
 have hl:=S15.O0 hv.1 hv.2.1 hp
 have hb:=S15.BR hl
 have e1:D10.aY y n l=D10.dLen y (Cal.plV (Cal.leap y) n l):=by simp [D10.aY,Cal.dN y hv.1 hv.2.1,hp]
 have hd:1<=d/\d<=D10.aY y n l:=⟨hv.2.2.2.2.1,by rw [e1];exact hv.2.2.2.2.2⟩
 have e:S15.og y n l d m=0:=by unfold S15.og;rw [hm,if_pos rfl,if_pos hl,if_neg vO,if_pos hd.2]
 exact⟨e,by unfold S15.J2;rw [if_pos e,if_pos hd.2]⟩
theorem MV{y n d c f m:Int}{l:Bool}(h:D10.aK y n l d=0)(hr:right 0 0 c f=true)(hm:S15.mode m=true):
  day y n l d 0 0 c f m=D10.aM y n l d+(7*c+f)/\toE y n l d 0 0 c f m=if out (D10.aM y n l d+(7*c+f))then 2 else 0:=by
 obtain⟨hi,en,el⟩:=VL h hm
 obtain⟨hv,hp⟩:=D10.bq h
 obtain⟨m0,my,mn,ml⟩:=S15.XD (S15.O0 hv.1 hv.2.1 hp)
 obtain⟨f0,fv⟩:=YZ h hm
 have ey:y2 y n l 0 0 m=y:=by unfold y2;rw [en,el,Int.add_zero];exact my
 have en2:n2 y n l 0 0 m=n:=by unfold n2;rw [en,el,Int.add_zero];exact mn
 have el2:l2 y n l 0 0 m=l:=by unfold l2;rw [en,el,Int.add_zero];exact ml
 have ee2:e2 y n l 0 0 m=0:=by unfold e2;rw [en,el,Int.add_zero];exact m0
 have ed:d2 y n l d 0 0 m=d:=by unfold d2;rw [ey,en2,el2];exact fv
 have ee3:e3 y n l d 0 0 m=0:=by unfold e3;rw [ey,en2,el2];exact f0
 have eD:day y n l d 0 0 c f m=D10.aM y n l d+(7*c+f):=by unfold day;rw [ey,en2,el2,ed]
 refine⟨eD, ?_⟩
 have hx:(right 0 0 c f&&S15.mode m)=true:=by rw [hr,hm];rfl
 unfold toE
 rw [if_pos hx,if_pos h,if_pos hi,if_pos ee2,if_pos ee3,eD]
theorem Zr{y n k:Int}{l:Bool}(h:S15.monE y n l k=0):S15.uV y n l k=S15.mY (S15.dR y n l k)/\Cal.plV (Cal.leap (S15.uV y n l k)) (S15.Br y n l k) (S15.A9 y n l k)=S15.mM (S15.dR y n l k):=by
 have e1:S15.uV y n l k=S15.mY (S15.dR y n l k):=by unfold S15.uV;rw [if_pos h]
 have e2:S15.Br y n l k=Cal.ofN (Cal.leap (S15.mY (S15.dR y n l k))) (S15.mM (S15.dR y n l k)):=by unfold S15.Br;rw [if_pos h]
 have e3:S15.A9 y n l k=Cal.ofL (Cal.leap (S15.mY (S15.dR y n l k))) (S15.mM (S15.dR y n l k)):=by unfold S15.A9;rw [if_pos h]
 obtain⟨m1,m2⟩:=S15.UK (S15.dR y n l k)
 obtain⟨_,_,p2⟩:=D10.IL _ _ m1 m2
 exact⟨e1,by rw [e1,e2,e3];exact p2⟩
theorem mY_lt{a b:Int}(h:a<b):S15.mY a<S15.mY b∨S15.mY a=S15.mY b/\S15.mM a<S15.mM b:=by
 by_cases c:S15.mY a=S15.mY b
 ·refine .inr ⟨c, ?_⟩
  unfold S15.mM;rw [c];omega
 ·refine .inl ?_
  have:S15.mY a<=S15.mY b:=by unfold S15.mY;omega
  omega
end A16
end
section
open Go.ChangeShapes Go.WideShapes Go.ChangeAt Go.RowKit
theorem Gy(x:Int)(w:World):vC 117 #[x] w (.bool (A16.may x)):=by
 by_cases a: -4000000<=x
 ·have a2:decide (-4000000<=x)=true:=by simpa using a
  go_enter (vF Tryz.func117),Tryz.ntmps117
  go_wp2_with fail
  go_ret
  exact⟨by simp [A16.may,a],rfl⟩
 ·have a2:decide (-4000000<=x)=false:=by simpa using a
  go_enter (vF Tryz.func117),Tryz.ntmps117
  go_wp2_with fail
  go_ret
  exact⟨by unfold A16.may;rw [a2];rfl,rfl⟩
theorem DI(a b c d:Int)(w:World):vB 71 #[.agg #[a,b,c,d]] w (.bool (A16.right a b c d)):=by
 have Ha:=Lib.hid (fun w=>Gy a w)
 have Hb:=Lib.hid (fun w=>Gy b w)
 have Hc:=Lib.hid (fun w=>Gy c w)
 have Hd:=Lib.hid (fun w=>Gy d w)
 unfold A16.right
 generalize A16.may a=ba at*
 generalize A16.may b=bb at*
 generalize A16.may c=bc at*
 generalize A16.may d=bd at*
 cases ba
 ·go_enter (vF Tryz.func71),Tryz.ntmps71
  go_wp2_with fail
  refine vW (Ha.out _) ?_
  go_wp2_with fail
  go_ret
  exact⟨rfl,ba _ _⟩
 cases bb
 ·go_enter (vF Tryz.func71),Tryz.ntmps71
  go_wp2_with fail
  refine vW (Ha.out _) ?_
  go_wp2_with fail
  refine vW (Hb.out _) ?_
  go_wp2_with fail
  go_ret
  exact⟨rfl,ba _ _⟩
 cases bc
 ·go_enter (vF Tryz.func71),Tryz.ntmps71
  go_wp2_with fail
  refine vW (Ha.out _) ?_
  go_wp2_with fail
  refine vW (Hb.out _) ?_
  go_wp2_with fail
  refine vW (Hc.out _) ?_
  go_wp2_with fail
  go_ret
  exact⟨rfl,ba _ _⟩
 ·go_enter (vF Tryz.func71),Tryz.ntmps71
  go_wp2_with fail
  refine vW (Ha.out _) ?_
  go_wp2_with fail
  refine vW (Hb.out _) ?_
  go_wp2_with fail
  refine vW (Hc.out _) ?_
  go_wp2_with fail
  refine vW (Hd.out _) ?_
  go_wp2_with fail
  go_ret
  exact⟨by cases bd <;> rfl,ba _ _⟩
theorem GY(w:World)(y n:Int)(l:Bool)(d m e:Int)(t:TypeId):bI (w.alloc (.cells #[y,n,l,d,m,e] t)) w.1.size y n l d m e:=⟨vG,vG,vG,vG,vG,vG,fun i=>by simp [go_sem],vS⟩
def jq(w W:World)(g:Nat)(a b c f:Int):Prop:=
 W.cell? ⟨w.1.size+1,0,none⟩=some (a:vV)/\W.cell? ⟨w.1.size+1,1,none⟩=some (b:vV)/\W.cell? ⟨w.1.size+1,2,none⟩=some (c:vV)/\W.cell? ⟨w.1.size+1,3,none⟩=some (f:vV)/\jL W (w.1.size+1+1)/\Below w.1.size w W/\Tab W 6 kevCells/\Tab W 4 lenCells/\w.1.size+1+1<g/\6<w.1.size/\4<w.1.size
theorem jq.but{w W W':World}{g:Nat}{a b c f:Int}(h:jq w W g a b c f)(hb:But g W W'):jq w W' g a b c f:=by
 obtain⟨h0,h1,h2,h3,hR,hB,hT,hL,hg,w1,w2⟩:=h
 have hs:w.1.size+1<W.1.size:=by have:=hR.2.2.2.2.2;omega
 have cc:=fun i=>hb.cell (k:=w.1.size+1) (o:=i) hs vO
 exact⟨(cc 0).trans h0,(cc 1).trans h1,(cc 2).trans h2,(cc 3).trans h3,jL.but hR hb vO,hb.below hB vO,But.tab hT hb vO,But.tab hL hb vO,hg,w1,w2⟩
theorem jq.start{w W1 wx:World}{g:Nat}{a b c f:Int}(t0:W1.cell? ⟨w.1.size+1,0,none⟩=some (a:vV))(t1:W1.cell? ⟨w.1.size+1,1,none⟩=some (b:vV))(t2:W1.cell? ⟨w.1.size+1,2,none⟩=some (c:vV))(t3:W1.cell? ⟨w.1.size+1,3,none⟩=some (f:vV))(hR:jL W1 (w.1.size+1+1))(hB:Below w.1.size w W1)(hT:Tab w 6 kevCells)(hL:Tab w 4 lenCells)(hX:Below W1.1.size W1 wx)(hg:w.1.size+1+1<g):jq w wx g a b c f:=by
 have hs:w.1.size+1<W1.1.size:=by have:=hR.2.2.2.2.2;omega
 have cc:=fun i=>hX.cell (p:=⟨w.1.size+1,i,none⟩) hs
 have hB2:=bt hB hX
 exact⟨(cc 0).trans t0,(cc 1).trans t1,(cc 2).trans t2,(cc 3).trans t3,jL.below hR hX,hB2,Tab.below hT hB2,Tab.below hL hB2,hg,hT.lt,hL.lt⟩
theorem yO:(∀(y n:Int)(l:Bool)(d a b c f m:Int)(w:World)(hy:I64 y)(hT:Tab w 6 kevCells)(hL:Tab w 4 lenCells)(hr:A16.right a b c f=false),vB 36 #[.agg #[y,n,l,d],.agg #[a,b,c,f],m] w (.tuple #[.agg #[(0:Int),(0:Int),false,(0:Int)],(1:Int)]))/\(∀(y n:Int)(l:Bool)(d a b c f m:Int)(w:World)(hy:I64 y)(hT:Tab w 6 kevCells)(hL:Tab w 4 lenCells)(hr:A16.right a b c f=true)(hm:S15.mode m=false),vB 36 #[.agg #[y,n,l,d],.agg #[a,b,c,f],m] w (.tuple #[.agg #[(0:Int),(0:Int),false,(0:Int)],(1:Int)])):=by
 refine⟨@fun y n l d a b c f m w hy hT hL hr=>(fun(k90:Nat)=> ?_) 0,@fun y n l d a b c f m w hy hT hL hr hm=> ?_⟩
 all_goals(
 first|(have _:=k90;have HRt:=Lib.hid (fun w=>(hr▸DI a b c f w:vB 71 #[.agg #[a,b,c,f]] w (.bool false))))|(have HRt:=Lib.hid (fun w=>(hr▸DI a b c f w:vB 71 #[.agg #[a,b,c,f]] w (.bool true))))
 clear hr
 first|(have _:=k90;skip)|((have m0:(m !=0)=true:=by simp [S15.mode]at hm;simp [hm.1]);(have m1:(m !=1)=true:=by simp [S15.mode]at hm;simp [hm.2]);(clear hm))
 go_enter (vF Tryz.func36),Tryz.ntmps36
 go_wp2_with fail
 refine bH (fun W=>W.cell? ⟨w.1.size,0,none⟩=some (y:vV)/\W.cell? ⟨w.1.size,1,none⟩=some (n:vV)/\W.cell? ⟨w.1.size,2,none⟩=some (.bool l)/\W.cell? ⟨w.1.size,3,none⟩=some (d:vV)/\W.cell? ⟨w.1.size+1,0,none⟩=some (a:vV)/\W.cell? ⟨w.1.size+1,1,none⟩=some (b:vV)/\W.cell? ⟨w.1.size+1,2,none⟩=some (c:vV)/\W.cell? ⟨w.1.size+1,3,none⟩=some (f:vV)/\jL W (w.1.size+1+1)/\Below w.1.size w W) ⟨vG,vG,vG,vG,vG,vG,vG,vG,⟨vG,vG,vG,vG,fun i=>by simp [go_sem],vS⟩,baa (baa (ba _ _) _) _⟩ ?_
 rintro W0 ⟨c0,c1,c2,c3,s0,s1,s2,s3,hR0,hB0⟩
 have hz0:=hR0.2.2.2.2.2
 refine(HRt.out _).mono ?_
 rintro e W1 ⟨rfl,hb1⟩
 have hR1:=jL.below hR0 hb1
 have hB1:=bt hB0 hb1
 have hz1:=hR1.2.2.2.2.2
 have k0:=(hb1.cell (p:=⟨w.1.size,0,none⟩) (show w.1.size<W0.1.size by omega)).trans c0
 have t0:=(hb1.cell (p:=⟨w.1.size+1,0,none⟩) (show w.1.size+1<W0.1.size by omega)).trans s0
 have k1:=(hb1.cell (p:=⟨w.1.size,1,none⟩) (show w.1.size<W0.1.size by omega)).trans c1
 have t1:=(hb1.cell (p:=⟨w.1.size+1,1,none⟩) (show w.1.size+1<W0.1.size by omega)).trans s1
 have k2:=(hb1.cell (p:=⟨w.1.size,2,none⟩) (show w.1.size<W0.1.size by omega)).trans c2
 have t2:=(hb1.cell (p:=⟨w.1.size+1,2,none⟩) (show w.1.size+1<W0.1.size by omega)).trans s2
 have k3:=(hb1.cell (p:=⟨w.1.size,3,none⟩) (show w.1.size<W0.1.size by omega)).trans c3
 have t3:=(hb1.cell (p:=⟨w.1.size+1,3,none⟩) (show w.1.size+1<W0.1.size by omega)).trans s3
 clear c0 c1 c2 c3 s0 s1 s2 s3 hz0
 have hl0:w.1.size<W1.1.size:=vO
 have hl1:w.1.size+1<W1.1.size:=vO
 have hq:=hR1
 obtain⟨r0,r1,r2,r3,rf,rs⟩:=hq
 go_wp2_with fail
 refine bodyPost_ret (v:= .tuple #[.agg #[(0:Int),(0:Int),false,(0:Int)],(1:Int)]) (by simp [results,Tryz.results36,go_sem, *]) rfl ⟨rfl, ?_⟩
 iterate 4 refine Below.setCell ?_ (show w.1.size<=w.1.size+1+1 by omega) _
 exact hB1
 )
def Nu:=yO.1
def QN:=yO.2
theorem EZ:(∀(y n:Int)(l:Bool)(d a b c f:Int)(w:World)(hy:I64 y)(hT:Tab w 6 kevCells)(hL:Tab w 4 lenCells)(ry rn:Int)(rl:Bool)(rd er:Int)(hr:A16.right a b c f=true)(hres:Hid (A16.Gs y n l d a b c f 0 ry rn rl rd er)),vB 36 #[.agg #[y,n,l,d],.agg #[a,b,c,f],(0:Int)] w (.tuple #[.agg #[ry,rn,rl,rd],er]))/\(∀(y n:Int)(l:Bool)(d a b c f:Int)(w:World)(hy:I64 y)(hT:Tab w 6 kevCells)(hL:Tab w 4 lenCells)(ry rn:Int)(rl:Bool)(rd er:Int)(hr:A16.right a b c f=true)(hres:Hid (A16.Gs y n l d a b c f 1 ry rn rl rd er)),vB 36 #[.agg #[y,n,l,d],.agg #[a,b,c,f],(1:Int)] w (.tuple #[.agg #[ry,rn,rl,rd],er])):=by
 refine⟨@fun y n l d a b c f w hy hT hL ry rn rl rd er hr hres=>(fun(k90:Nat)=> ?_) 0,@fun y n l d a b c f w hy hT hL ry rn rl rd er hr hres=> ?_⟩
 all_goals(
 have HRt:=Lib.hid (fun w=>(hr▸DI a b c f w:vB 71 #[.agg #[a,b,c,f]] w (.bool true)))
 obtain⟨⟨a1,a2⟩,⟨b1,b2⟩,⟨x1,x2⟩,⟨f1,f2⟩⟩:=A16.CG hr
 have HC:=Lib.hid (fun w hT hL=>je y n l d w hy hT hL)
 first|(have _:=k90;have hmr:=Lib.hid (show(A16.right a b c f&&S15.mode 0)=true by rw [hr];rfl))|(have hmr:=Lib.hid (show(A16.right a b c f&&S15.mode 1)=true by rw [hr];rfl))
 clear hr
 have hw1:=hT.lt
 have hw2:=hL.lt
 go_enter (vF Tryz.func36),Tryz.ntmps36
 go_wp2_with fail
 refine bH (fun W=>W.cell? ⟨w.1.size,0,none⟩=some (y:vV)/\W.cell? ⟨w.1.size,1,none⟩=some (n:vV)/\W.cell? ⟨w.1.size,2,none⟩=some (.bool l)/\W.cell? ⟨w.1.size,3,none⟩=some (d:vV)/\W.cell? ⟨w.1.size+1,0,none⟩=some (a:vV)/\W.cell? ⟨w.1.size+1,1,none⟩=some (b:vV)/\W.cell? ⟨w.1.size+1,2,none⟩=some (c:vV)/\W.cell? ⟨w.1.size+1,3,none⟩=some (f:vV)/\jL W (w.1.size+1+1)/\Below w.1.size w W) ⟨vG,vG,vG,vG,vG,vG,vG,vG,⟨vG,vG,vG,vG,fun i=>by simp [go_sem],vS⟩,baa (baa (ba _ _) _) _⟩ ?_
 rintro W0 ⟨c0,c1,c2,c3,s0,s1,s2,s3,hR0,hB0⟩
 have hz0:=hR0.2.2.2.2.2
 refine(HRt.out _).mono ?_
 rintro e W1 ⟨rfl,hb1⟩
 have hR1:=jL.below hR0 hb1
 have hB1:=bt hB0 hb1
 have hz1:=hR1.2.2.2.2.2
 have k0:=(hb1.cell (p:=⟨w.1.size,0,none⟩) (show w.1.size<W0.1.size by omega)).trans c0
 have t0:=(hb1.cell (p:=⟨w.1.size+1,0,none⟩) (show w.1.size+1<W0.1.size by omega)).trans s0
 have k1:=(hb1.cell (p:=⟨w.1.size,1,none⟩) (show w.1.size<W0.1.size by omega)).trans c1
 have t1:=(hb1.cell (p:=⟨w.1.size+1,1,none⟩) (show w.1.size+1<W0.1.size by omega)).trans s1
 have k2:=(hb1.cell (p:=⟨w.1.size,2,none⟩) (show w.1.size<W0.1.size by omega)).trans c2
 have t2:=(hb1.cell (p:=⟨w.1.size+1,2,none⟩) (show w.1.size+1<W0.1.size by omega)).trans s2
 have k3:=(hb1.cell (p:=⟨w.1.size,3,none⟩) (show w.1.size<W0.1.size by omega)).trans c3
 have t3:=(hb1.cell (p:=⟨w.1.size+1,3,none⟩) (show w.1.size+1<W0.1.size by omega)).trans s3
 clear c0 c1 c2 c3 s0 s1 s2 s3 hz0
 have hl0:w.1.size<W1.1.size:=vO
 have hl1:w.1.size+1<W1.1.size:=vO
 have hq:=hR1
 obtain⟨r0,r1,r2,r3,rf,rs⟩:=hq
 go_wp2_with fail
 first|(have _:=k90;go_cut [8]from 21 (fun v wx=>∃g:Nat,v= .pointer (some ⟨g,0,none⟩)/\bI wx g y n l d 0 (D10.aK y n l d)/\jq w wx g a b c f))|(go_cut [8]from 21 (fun v wx=>∃g:Nat,v= .pointer (some ⟨g,0,none⟩)/\bI wx g y n l d 1 (D10.aK y n l d)/\jq w wx g a b c f))
 case first=>
  have nn0:=World.new_ne W1 _ k0
  have nn1:=World.new_ne W1 _ k1
  have nn2:=World.new_ne W1 _ k2
  have nn3:=World.new_ne W1 _ k3
  go_region_held3 (fun x=>x.cell? ⟨w.1.size,0,none⟩=some (y:vV)/\x.cell? ⟨w.1.size,1,none⟩=some (n:vV)/\x.cell? ⟨w.1.size,2,none⟩=some (.bool l)/\x.cell? ⟨w.1.size,3,none⟩=some (d:vV)) (first|exact⟨by with_reducible assumption,by with_reducible assumption,by with_reducible assumption,by with_reducible assumption⟩|go_keep) (first|(go_at_call 56;refine(HC.out _ (Tab.below hT beq4) (Tab.below hL beq4)).mono ?_;rintro e W2 ⟨rfl,hb2⟩;have hW2:=bt (show Below W1.1.size W1 _ by repeat(first|(with_reducible exact Below.refl _ _)|(with_reducible refine aT ?_)|(with_reducible refine baa ?_ _))) hb2;have hz2:=hW2.size;have kk0:=(hW2.cell (p:=⟨w.1.size,0,none⟩) hl0).trans k0;have kk1:=(hW2.cell (p:=⟨w.1.size,1,none⟩) hl0).trans k1;have kk2:=(hW2.cell (p:=⟨w.1.size,2,none⟩) hl0).trans k2;have kk3:=(hW2.cell (p:=⟨w.1.size,3,none⟩) hl0).trans k3;have hm0:w.1.size<W2.1.size:=Nat.lt_of_lt_of_le hl0 hz2;obtain⟨hc2,hf2⟩:=aL hb2;have nx0:=World.new_ne W2 _ kk0;have nx1:=World.new_ne W2 _ kk1;have nx2:=World.new_ne W2 _ kk2;have nx3:=World.new_ne W2 _ kk3))
  all_goals simp only [Exit.then]
  all_goals refine ‹∀ (a':Act) (w':World),Met _ a' w'->_› _ _ ?_
  all_goals go_meet
  ·refine⟨W2.1.size,rfl, ?_, ?_⟩
   ·exact GY _ _ _ _ _ _ _ _
   ·refine jq.start t0 t1 t2 t3 hR1 hB1 hT hL ?_ vO
    exact baa hW2 _
  ·refine⟨W1.1.size,rfl, ?_, ?_⟩
   ·have q0:=ko (zW (GY W1 0 0 false 0 0 0 118)) hb2
    exact qU (WE (DR (zN (zM (zU q0 _) _) _) _) _) _
   ·refine jq.start t0 t1 t2 t3 hR1 hB1 hT hL ?_ vO
    iterate 6 refine bs ?_ (Nat.le_refl _) _
    exact hW2
 case rest=>
  obtain⟨g,rfl,hP0,hS0⟩:=hcut
  clear k0 k1 k2 k3 t0 t1 t2 t3 r0 r1 r2 r3 rf rs hR1 hB1 hz1 hl0 hl1 hb1
  have hq:=hS0
  obtain⟨s0,s1,s2,s3,hR,hB,hTx,hLx,hg,v1,v2⟩:=hq
  go_wp2_with fail
  by_cases hcase:(D10.aK y n l d)=0
  ·have he:=hcase
   clear hcase
   have hv:=(D10.bq he).1
   have y1:=hv.1
   have y9:=hv.2.1
   clear hv
   rw [he]at hP0
   first|(have _:=k90;refine(H6 a y n l d 0 ⟨y1,y9⟩ ⟨a1,a2⟩ g _ hP0).mono ?_)|(refine(H6 a y n l d 1 ⟨y1,y9⟩ ⟨a1,a2⟩ g _ hP0).mono ?_)
   rintro e w1 ⟨rfl,hP1,hU1⟩
   have hS1:=jq.but hS0 hU1
   clear s0 s1 s2 s3 hR hB hTx hLx hg v1 v2
   have hq:=hS1
   obtain⟨s0,s1,s2,s3,hR,hB,hTx,hLx,hg,v1,v2⟩:=hq
   go_wp2_with fail
   first|(have _:=k90;by_cases hcase:(S15.bT (y+a) n l 0)=0)|(by_cases hcase:(S15.bT (y+a) n l 1)=0)
   ·have hi:=hcase
    clear hcase
    rw [hi]at hP1
    first|(have _:=k90;refine(Fh b (y+a) (A16.n1 y n l a 0) (A16.l1 y n l a 0) d 0 ⟨vO,vO⟩ g _ hTx hLx hP1).mono ?_)|(refine(Fh b (y+a) (A16.n1 y n l a 1) (A16.l1 y n l a 1) d 1 ⟨vO,vO⟩ g _ hTx hLx hP1).mono ?_)
    rintro e w2 ⟨rfl,hP2,hU2⟩
    have hS2:=jq.but hS1 hU2
    clear s0 s1 s2 s3 hR hB hTx hLx hg v1 v2
    have hq:=hS2
    obtain⟨s0,s1,s2,s3,hR,hB,hTx,hLx,hg,v1,v2⟩:=hq
    go_wp2_with fail
    first|(have _:=k90;by_cases hcase:(A16.e2 y n l a b 0)=0)|(by_cases hcase:(A16.e2 y n l a b 1)=0)
    ·have h2:=hcase
     clear hcase
     first|(have _:=k90;have hP2':bI w2 g (A16.y2 y n l a b 0) (A16.n2 y n l a b 0) (A16.l2 y n l a b 0) d 0 (A16.e2 y n l a b 0):=hP2)|(have hP2':bI w2 g (A16.y2 y n l a b 1) (A16.n2 y n l a b 1) (A16.l2 y n l a b 1) d 1 (A16.e2 y n l a b 1):=hP2)
     rw [h2]at hP2'
     have hyb:=(S15.Mh h2).2
     first|(have _:=k90;have yb1:1<=(A16.y2 y n l a b 0):=hyb.1)|(have yb1:1<=(A16.y2 y n l a b 1):=hyb.1)
     first|(have _:=k90;have yb2:(A16.y2 y n l a b 0)<=9999:=hyb.2.1)|(have yb2:(A16.y2 y n l a b 1)<=9999:=hyb.2.1)
     clear hyb
     first|(have _:=k90;refine(Sg (A16.y2 y n l a b 0) (A16.n2 y n l a b 0) (A16.l2 y n l a b 0) d 0 ⟨vO,vO⟩ g _ hTx hLx hP2').mono ?_)|(refine(Sg (A16.y2 y n l a b 1) (A16.n2 y n l a b 1) (A16.l2 y n l a b 1) d 1 ⟨vO,vO⟩ g _ hTx hLx hP2').mono ?_)
     rintro e w3 ⟨rfl,hP3,hU3⟩
     have hS3:=jq.but hS2 hU3
     clear s0 s1 s2 s3 hR hB hTx hLx hg v1 v2
     have hq:=hS3
     obtain⟨s0,s1,s2,s3,hR,hB,hTx,hLx,hg,v1,v2⟩:=hq
     go_wp2_with fail
     first|(have _:=k90;by_cases hcase:(A16.e3 y n l d a b 0)=0)|(by_cases hcase:(A16.e3 y n l d a b 1)=0)
     ·have h3:=hcase
      clear hcase
      first|(have _:=k90;have hP3':bI w3 g (A16.y2 y n l a b 0) (A16.n2 y n l a b 0) (A16.l2 y n l a b 0) (A16.d2 y n l d a b 0) 0 (A16.e3 y n l d a b 0):=hP3)|(have hP3':bI w3 g (A16.y2 y n l a b 1) (A16.n2 y n l a b 1) (A16.l2 y n l a b 1) (A16.d2 y n l d a b 1) 1 (A16.e3 y n l d a b 1):=hP3)
      rw [h3]at hP3'
      have hdt:=A16.Rk h3
      first|(have _:=k90;by_cases ho:A16.out (A16.day y n l d a b c f 0))|(by_cases ho:A16.out (A16.day y n l d a b c f 1))
      ·first|(have _:=k90;have hE:A16.toE y n l d a b c f 0=2:=by unfold A16.toE;rw [hmr.out,if_pos rfl,if_pos he,if_pos hi,if_pos h2,if_pos h3,if_pos ho])|(have hE:A16.toE y n l d a b c f 1=2:=by unfold A16.toE;rw [hmr.out,if_pos rfl,if_pos he,if_pos hi,if_pos h2,if_pos h3,if_pos ho])
       have hne:¬ (2:Int)=0:=vD
       obtain⟨rfl,rfl,rfl,rfl,rfl⟩:=hres.out.err hE hne
       first|(have _:=k90;refine(BI (7*c+f) (A16.y2 y n l a b 0) (A16.n2 y n l a b 0) (A16.l2 y n l a b 0) (A16.d2 y n l d a b 0) 0 ⟨vO,vO⟩ hdt ⟨vO,vO⟩ ho g _ hTx hLx hP3').mono ?_)|(refine(BI (7*c+f) (A16.y2 y n l a b 1) (A16.n2 y n l a b 1) (A16.l2 y n l a b 1) (A16.d2 y n l d a b 1) 1 ⟨vO,vO⟩ hdt ⟨vO,vO⟩ ho g _ hTx hLx hP3').mono ?_)
       rintro e w4 ⟨rfl,hP4,hU4⟩
       have hS4:=jq.but hS3 hU4
       clear s0 s1 s2 s3 hR hB hTx hLx hg v1 v2
       have hq:=hS4
       obtain⟨s0,s1,s2,s3,hR,hB,hTx,hLx,hg,v1,v2⟩:=hq
       have hq:=hP4
       obtain⟨p0,p1,p2,p3,p4,p5,pf,ps⟩:=hq
       obtain⟨r0,r1,r2,r3,rf,rs⟩:=hR
       go_wp2_with fail
       go_region
       all_goals go_wp2_with fail
       all_goals refine bodyPost_ret (v:= .tuple #[.agg #[(0:Int),(0:Int),false,(0:Int)],(2:Int)]) (by simp [results,Tryz.results36,go_sem, *]) rfl ⟨rfl, ?_⟩
       all_goals repeat(first|(with_reducible assumption)|(with_reducible refine aT ?_)|(with_reducible refine bs ?_ (show w.1.size<=w.1.size+1+1 by omega) _))
      ·first|(have _:=k90;have hE:A16.toE y n l d a b c f 0=0:=by unfold A16.toE;rw [hmr.out,if_pos rfl,if_pos he,if_pos hi,if_pos h2,if_pos h3,if_neg ho])|(have hE:A16.toE y n l d a b c f 1=0:=by unfold A16.toE;rw [hmr.out,if_pos rfl,if_pos he,if_pos hi,if_pos h2,if_pos h3,if_neg ho])
       obtain⟨rfl,rm,hv,hday,rfl,rfl⟩:=hres.out.ok hE
       first|(have _:=k90;refine(CK (7*c+f) (A16.y2 y n l a b 0) (A16.n2 y n l a b 0) (A16.l2 y n l a b 0) (A16.d2 y n l d a b 0) 0 ⟨vO,vO⟩ hdt ⟨vO,vO⟩ ry rm rd hv hday g _ hTx hLx hP3').mono ?_)|(refine(CK (7*c+f) (A16.y2 y n l a b 1) (A16.n2 y n l a b 1) (A16.l2 y n l a b 1) (A16.d2 y n l d a b 1) 1 ⟨vO,vO⟩ hdt ⟨vO,vO⟩ ry rm rd hv hday g _ hTx hLx hP3').mono ?_)
       rintro e w4 ⟨rfl,hP4,hU4⟩
       have hS4:=jq.but hS3 hU4
       clear s0 s1 s2 s3 hR hB hTx hLx hg v1 v2
       have hq:=hS4
       obtain⟨s0,s1,s2,s3,hR,hB,hTx,hLx,hg,v1,v2⟩:=hq
       have hq:=hP4
       obtain⟨p0,p1,p2,p3,p4,p5,pf,ps⟩:=hq
       obtain⟨r0,r1,r2,r3,rf,rs⟩:=hR
       go_wp2_with fail
       refine bodyPost_ret (v:= .tuple #[.agg #[ry,Cal.ofN (Cal.leap ry) rm,Cal.ofL (Cal.leap ry) rm,rd],(0:Int)]) (by simp [results,Tryz.results36,go_sem, *]) rfl ⟨rfl, ?_⟩
       iterate 4 refine Below.setCell ?_ (show w.1.size<=w.1.size+1+1 by omega) _
       exact hB
     ·first|(have _:=k90;have hne:¬ (A16.e3 y n l d a b 0)=0:=hcase)|(have hne:¬ (A16.e3 y n l d a b 1)=0:=hcase)
      clear hcase
      first|(have _:=k90;obtain⟨rfl,rfl,rfl,rfl,rfl⟩:=hres.out.err (E:=(A16.e3 y n l d a b 0)) (by unfold A16.toE;rw [hmr.out,if_pos rfl,if_pos he,if_pos hi,if_pos h2,if_neg hne]) hne)|(obtain⟨rfl,rfl,rfl,rfl,rfl⟩:=hres.out.err (E:=(A16.e3 y n l d a b 1)) (by unfold A16.toE;rw [hmr.out,if_pos rfl,if_pos he,if_pos hi,if_pos h2,if_neg hne]) hne)
      first|(have _:=k90;have hne2:((A16.e3 y n l d a b 0)!=0)=true:=by simpa using hne)|(have hne2:((A16.e3 y n l d a b 1)!=0)=true:=by simpa using hne)
      first|(have _:=k90;refine(fI (7*c+f) (A16.y2 y n l a b 0) (A16.n2 y n l a b 0) (A16.l2 y n l a b 0) (A16.d2 y n l d a b 0) 0 (A16.e3 y n l d a b 0) hne g _ hP3).mono ?_)|(refine(fI (7*c+f) (A16.y2 y n l a b 1) (A16.n2 y n l a b 1) (A16.l2 y n l a b 1) (A16.d2 y n l d a b 1) 1 (A16.e3 y n l d a b 1) hne g _ hP3).mono ?_)
      rintro e w4 ⟨rfl,hP4,hU4⟩
      have hS4:=jq.but hS3 hU4
      clear s0 s1 s2 s3 hR hB hTx hLx hg v1 v2
      have hq:=hS4
      obtain⟨s0,s1,s2,s3,hR,hB,hTx,hLx,hg,v1,v2⟩:=hq
      have hq:=hP4
      obtain⟨p0,p1,p2,p3,p4,p5,pf,ps⟩:=hq
      obtain⟨r0,r1,r2,r3,rf,rs⟩:=hR
      go_wp2_with fail
      go_region
      all_goals go_wp2_with fail
      first|(have _:=k90;all_goals refine bodyPost_ret (v:= .tuple #[.agg #[(0:Int),(0:Int),false,(0:Int)],.int .i64 ((A16.e3 y n l d a b 0))]) (by simp [results,Tryz.results36,go_sem, *]) rfl ⟨rfl, ?_⟩)|(all_goals refine bodyPost_ret (v:= .tuple #[.agg #[(0:Int),(0:Int),false,(0:Int)],.int .i64 ((A16.e3 y n l d a b 1))]) (by simp [results,Tryz.results36,go_sem, *]) rfl ⟨rfl, ?_⟩)
      all_goals repeat(first|(with_reducible assumption)|(with_reducible refine aT ?_)|(with_reducible refine bs ?_ (show w.1.size<=w.1.size+1+1 by omega) _))
    ·first|(have _:=k90;have hne:¬ (A16.e2 y n l a b 0)=0:=hcase)|(have hne:¬ (A16.e2 y n l a b 1)=0:=hcase)
     clear hcase
     first|(have _:=k90;obtain⟨rfl,rfl,rfl,rfl,rfl⟩:=hres.out.err (E:=(A16.e2 y n l a b 0)) (by unfold A16.toE;rw [hmr.out,if_pos rfl,if_pos he,if_pos hi,if_neg hne]) hne)|(obtain⟨rfl,rfl,rfl,rfl,rfl⟩:=hres.out.err (E:=(A16.e2 y n l a b 1)) (by unfold A16.toE;rw [hmr.out,if_pos rfl,if_pos he,if_pos hi,if_neg hne]) hne)
     first|(have _:=k90;have hne2:((A16.e2 y n l a b 0)!=0)=true:=by simpa using hne)|(have hne2:((A16.e2 y n l a b 1)!=0)=true:=by simpa using hne)
     first|(have _:=k90;refine(jG (A16.y2 y n l a b 0) (A16.n2 y n l a b 0) (A16.l2 y n l a b 0) d 0 (A16.e2 y n l a b 0) hne g _ hP2).mono ?_)|(refine(jG (A16.y2 y n l a b 1) (A16.n2 y n l a b 1) (A16.l2 y n l a b 1) d 1 (A16.e2 y n l a b 1) hne g _ hP2).mono ?_)
     rintro e w3 ⟨rfl,hP3,hU3⟩
     have hS3:=jq.but hS2 hU3
     clear s0 s1 s2 s3 hR hB hTx hLx hg v1 v2
     have hq:=hS3
     obtain⟨s0,s1,s2,s3,hR,hB,hTx,hLx,hg,v1,v2⟩:=hq
     go_wp2_with fail
     first|(have _:=k90;refine(fI (7*c+f) (A16.y2 y n l a b 0) (A16.n2 y n l a b 0) (A16.l2 y n l a b 0) d 0 (A16.e2 y n l a b 0) hne g _ hP3).mono ?_)|(refine(fI (7*c+f) (A16.y2 y n l a b 1) (A16.n2 y n l a b 1) (A16.l2 y n l a b 1) d 1 (A16.e2 y n l a b 1) hne g _ hP3).mono ?_)
     rintro e w4 ⟨rfl,hP4,hU4⟩
     have hS4:=jq.but hS3 hU4
     clear s0 s1 s2 s3 hR hB hTx hLx hg v1 v2
     have hq:=hS4
     obtain⟨s0,s1,s2,s3,hR,hB,hTx,hLx,hg,v1,v2⟩:=hq
     have hq:=hP4
     obtain⟨p0,p1,p2,p3,p4,p5,pf,ps⟩:=hq
     obtain⟨r0,r1,r2,r3,rf,rs⟩:=hR
     go_wp2_with fail
     go_region
     all_goals go_wp2_with fail
     first|(have _:=k90;all_goals refine bodyPost_ret (v:= .tuple #[.agg #[(0:Int),(0:Int),false,(0:Int)],.int .i64 ((A16.e2 y n l a b 0))]) (by simp [results,Tryz.results36,go_sem, *]) rfl ⟨rfl, ?_⟩)|(all_goals refine bodyPost_ret (v:= .tuple #[.agg #[(0:Int),(0:Int),false,(0:Int)],.int .i64 ((A16.e2 y n l a b 1))]) (by simp [results,Tryz.results36,go_sem, *]) rfl ⟨rfl, ?_⟩)
     all_goals repeat(first|(with_reducible assumption)|(with_reducible refine aT ?_)|(with_reducible refine bs ?_ (show w.1.size<=w.1.size+1+1 by omega) _))
   ·first|(have _:=k90;have hne:¬ (S15.bT (y+a) n l 0)=0:=hcase)|(have hne:¬ (S15.bT (y+a) n l 1)=0:=hcase)
    clear hcase
    first|(have _:=k90;obtain⟨rfl,rfl,rfl,rfl,rfl⟩:=hres.out.err (E:=(S15.bT (y+a) n l 0)) (by unfold A16.toE;rw [hmr.out,if_pos rfl,if_pos he,if_neg hne]) hne)|(obtain⟨rfl,rfl,rfl,rfl,rfl⟩:=hres.out.err (E:=(S15.bT (y+a) n l 1)) (by unfold A16.toE;rw [hmr.out,if_pos rfl,if_pos he,if_neg hne]) hne)
    first|(have _:=k90;have hne2:((S15.bT (y+a) n l 0)!=0)=true:=by simpa using hne)|(have hne2:((S15.bT (y+a) n l 1)!=0)=true:=by simpa using hne)
    first|(have _:=k90;refine(jZ b (y+a) (A16.n1 y n l a 0) (A16.l1 y n l a 0) d 0 (S15.bT (y+a) n l 0) hne g _ hP1).mono ?_)|(refine(jZ b (y+a) (A16.n1 y n l a 1) (A16.l1 y n l a 1) d 1 (S15.bT (y+a) n l 1) hne g _ hP1).mono ?_)
    rintro e w2 ⟨rfl,hP2,hU2⟩
    have hS2:=jq.but hS1 hU2
    clear s0 s1 s2 s3 hR hB hTx hLx hg v1 v2
    have hq:=hS2
    obtain⟨s0,s1,s2,s3,hR,hB,hTx,hLx,hg,v1,v2⟩:=hq
    go_wp2_with fail
    first|(have _:=k90;refine(jG (y+a) (A16.n1 y n l a 0) (A16.l1 y n l a 0) d 0 (S15.bT (y+a) n l 0) hne g _ hP2).mono ?_)|(refine(jG (y+a) (A16.n1 y n l a 1) (A16.l1 y n l a 1) d 1 (S15.bT (y+a) n l 1) hne g _ hP2).mono ?_)
    rintro e w3 ⟨rfl,hP3,hU3⟩
    have hS3:=jq.but hS2 hU3
    clear s0 s1 s2 s3 hR hB hTx hLx hg v1 v2
    have hq:=hS3
    obtain⟨s0,s1,s2,s3,hR,hB,hTx,hLx,hg,v1,v2⟩:=hq
    go_wp2_with fail
    first|(have _:=k90;refine(fI (7*c+f) (y+a) (A16.n1 y n l a 0) (A16.l1 y n l a 0) d 0 (S15.bT (y+a) n l 0) hne g _ hP3).mono ?_)|(refine(fI (7*c+f) (y+a) (A16.n1 y n l a 1) (A16.l1 y n l a 1) d 1 (S15.bT (y+a) n l 1) hne g _ hP3).mono ?_)
    rintro e w4 ⟨rfl,hP4,hU4⟩
    have hS4:=jq.but hS3 hU4
    clear s0 s1 s2 s3 hR hB hTx hLx hg v1 v2
    have hq:=hS4
    obtain⟨s0,s1,s2,s3,hR,hB,hTx,hLx,hg,v1,v2⟩:=hq
    have hq:=hP4
    obtain⟨p0,p1,p2,p3,p4,p5,pf,ps⟩:=hq
    obtain⟨r0,r1,r2,r3,rf,rs⟩:=hR
    go_wp2_with fail
    go_region
    all_goals go_wp2_with fail
    first|(have _:=k90;all_goals refine bodyPost_ret (v:= .tuple #[.agg #[(0:Int),(0:Int),false,(0:Int)],.int .i64 ((S15.bT (y+a) n l 0))]) (by simp [results,Tryz.results36,go_sem, *]) rfl ⟨rfl, ?_⟩)|(all_goals refine bodyPost_ret (v:= .tuple #[.agg #[(0:Int),(0:Int),false,(0:Int)],.int .i64 ((S15.bT (y+a) n l 1))]) (by simp [results,Tryz.results36,go_sem, *]) rfl ⟨rfl, ?_⟩)
    all_goals repeat(first|(with_reducible assumption)|(with_reducible refine aT ?_)|(with_reducible refine bs ?_ (show w.1.size<=w.1.size+1+1 by omega) _))
  ·have hne:¬ (D10.aK y n l d)=0:=hcase
   clear hcase
   obtain⟨rfl,rfl,rfl,rfl,rfl⟩:=hres.out.err (E:=(D10.aK y n l d)) (by unfold A16.toE;rw [hmr.out,if_pos rfl,if_neg hne]) hne
   have hne2:((D10.aK y n l d)!=0)=true:=by simpa using hne
   first|(have _:=k90;refine(uY a y n l d 0 (D10.aK y n l d) hne g _ hP0).mono ?_)|(refine(uY a y n l d 1 (D10.aK y n l d) hne g _ hP0).mono ?_)
   rintro e w1 ⟨rfl,hP1,hU1⟩
   have hS1:=jq.but hS0 hU1
   clear s0 s1 s2 s3 hR hB hTx hLx hg v1 v2
   have hq:=hS1
   obtain⟨s0,s1,s2,s3,hR,hB,hTx,hLx,hg,v1,v2⟩:=hq
   go_wp2_with fail
   first|(have _:=k90;refine(jZ b y n l d 0 (D10.aK y n l d) hne g _ hP1).mono ?_)|(refine(jZ b y n l d 1 (D10.aK y n l d) hne g _ hP1).mono ?_)
   rintro e w2 ⟨rfl,hP2,hU2⟩
   have hS2:=jq.but hS1 hU2
   clear s0 s1 s2 s3 hR hB hTx hLx hg v1 v2
   have hq:=hS2
   obtain⟨s0,s1,s2,s3,hR,hB,hTx,hLx,hg,v1,v2⟩:=hq
   go_wp2_with fail
   first|(have _:=k90;refine(jG y n l d 0 (D10.aK y n l d) hne g _ hP2).mono ?_)|(refine(jG y n l d 1 (D10.aK y n l d) hne g _ hP2).mono ?_)
   rintro e w3 ⟨rfl,hP3,hU3⟩
   have hS3:=jq.but hS2 hU3
   clear s0 s1 s2 s3 hR hB hTx hLx hg v1 v2
   have hq:=hS3
   obtain⟨s0,s1,s2,s3,hR,hB,hTx,hLx,hg,v1,v2⟩:=hq
   go_wp2_with fail
   first|(have _:=k90;refine(fI (7*c+f) y n l d 0 (D10.aK y n l d) hne g _ hP3).mono ?_)|(refine(fI (7*c+f) y n l d 1 (D10.aK y n l d) hne g _ hP3).mono ?_)
   rintro e w4 ⟨rfl,hP4,hU4⟩
   have hS4:=jq.but hS3 hU4
   clear s0 s1 s2 s3 hR hB hTx hLx hg v1 v2
   have hq:=hS4
   obtain⟨s0,s1,s2,s3,hR,hB,hTx,hLx,hg,v1,v2⟩:=hq
   have hq:=hP4
   obtain⟨p0,p1,p2,p3,p4,p5,pf,ps⟩:=hq
   obtain⟨r0,r1,r2,r3,rf,rs⟩:=hR
   go_wp2_with fail
   go_region
   all_goals go_wp2_with fail
   all_goals refine bodyPost_ret (v:= .tuple #[.agg #[(0:Int),(0:Int),false,(0:Int)],.int .i64 ((D10.aK y n l d))]) (by simp [results,Tryz.results36,go_sem, *]) rfl ⟨rfl, ?_⟩
   all_goals repeat(first|(with_reducible assumption)|(with_reducible refine aT ?_)|(with_reducible refine bs ?_ (show w.1.size<=w.1.size+1+1 by omega) _))
 )
def WG:=EZ.1
def VY:=EZ.2
end
section
open Go.ChangeShapes Go.WideShapes Go.ChangeAt Go.RowKit
theorem Ui(y n:Int)(l:Bool)(d a b c f m:Int)(w:World)(hy:I64 y)(hT:Tab w 6 kevCells)(hL:Tab w 4 lenCells)(ry rn:Int)(rl:Bool)(rd er:Int)(hres:Hid (A16.Gs y n l d a b c f m ry rn rl rd er)):
  vB 36 #[.agg #[y,n,l,d],.agg #[a,b,c,f],m] w (.tuple #[.agg #[ry,rn,rl,rd],er]):=by
 by_cases hr:A16.right a b c f=true
 ·by_cases hm:S15.mode m=true
  ·rcases(show m=0∨m=1 by simpa [S15.mode]using hm)with rfl|rfl
   ·exact WG y n l d a b c f w hy hT hL ry rn rl rd er hr hres
   ·exact VY y n l d a b c f w hy hT hL ry rn rl rd er hr hres
  ·have hm':S15.mode m=false:=by simpa using hm
   obtain⟨rfl,rfl,rfl,rfl,rfl⟩:=hres.out.err (E:=1) (by unfold A16.toE;rw [if_neg (by simp [hm'])]) vO
   exact QN y n l d a b c f m w hy hT hL hr hm'
 ·have hr':A16.right a b c f=false:=by simpa using hr
  obtain⟨rfl,rfl,rfl,rfl,rfl⟩:=hres.out.err (E:=1) (by unfold A16.toE;rw [if_neg (by simp [hr'])]) vO
  exact Nu y n l d a b c f m w hy hT hL hr'
end
end Go.Proofs.YtljbnicolhhicaaGreatDoor
