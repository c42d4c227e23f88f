import Derived.Test.YtljbnicolhhicaaGreatDoorZQe
import Derived.Test.YtljbnicolhhicaaGreatDoorZUC
import Derived.Test.YtljbnicolhhicaaGreatDoorZAN
import Derived.Test.YtljbnicolhhicaaGreatDoorZKevL
set_option maxHeartbeats 8000000
set_option maxRecDepth 100000
set_option linter.unusedSimpArgs false
set_option linter.unusedVariables false
namespace Go.Proofs.YtljbnicolhhicaaGreatDoor
open Go.ChangeShapes Go.WideShapes Go.ChangeAt Go.RowKit Go.Lib
theorem Vv(s:ByteArray)(hs:s.size<=1000000)(m:Int):∃ (y n:Int) (l:Bool) (d e:Int),I64 y/\I64 d/\Yes m 28 #[s] (.tuple #[.agg #[y,n,l,d],e]):=by
 obtain⟨cn,cl,ok,hc⟩:=Rj (aQ (aD (great s)))
 refine⟨rhY s cn cl ok,rhN s cn cl ok,rhL s cn cl ok,rhD s cn cl ok,rhE s cn cl ok, ?_, ?_,fun W h=>Oo s cn cl ok m hs W h.T h.L h.M hc⟩
 ·have:=lN (aD (aD (great s))).data.toList 4
  unfold rhY I64;split <;> omega
 ·have:=lN (aQ (great s)).data.toList 2
  unfold rhD I64;split <;> omega
theorem dt26(y n:Int)(l:Bool)(d e m:Int)(hy:I64 y):∃X:A26,Yes m 30 #[.agg #[y,n,l,d],e] X.v:=
 ⟨_,aaq y n l d e _ _ m (fun W h=>Ym y n l d W hy h.T h.L h.P)⟩
theorem fd26(D m:Int):∃ (y n:Int) (l:Bool) (d e:Int),I64 y/\Yes m 31 #[D] (.tuple #[.agg #[y,n,l,d],e]):=by
 by_cases h:D< -1373427∨2278650<D
 ·exact⟨0,0,false,0,2,⟨vO,vO⟩,fun W _=>kR D W h⟩
 ·obtain⟨y,k,d,hv,rfl⟩:=D10.qQ D vO vO
  have h1:=hv.1
  have h2:=hv.2.1
  exact⟨y,_,_,d,0,⟨vO,vO⟩,fun W hT=>iE y k d W hT.T hT.L hv⟩
theorem Zv{s:ByteArray}{ry rn rd er:Int}{rl:Bool}(h:D14.Pb s ry rn rl rd er):I64 ry/\I64 rd:=by
 rcases h with ⟨_,h1,_,_,h2,_⟩|⟨_,_,_,_,_,_,_,_,_,⟨_,h1,_,_,h2,_⟩|⟨_,h1,_,_,h2,h0,_⟩⟩
 ·subst h1 h2;exact⟨⟨vO,vO⟩,⟨vO,vO⟩⟩
 ·subst h1 h2;exact⟨⟨vO,vO⟩,⟨vO,vO⟩⟩
 ·obtain⟨⟨y1,y2,m1,m2,d1,d2⟩,_⟩:=D10.bq h0
  rw [h1,h2]
  exact⟨⟨vO,vO⟩,⟨vO,by first|omega|(have:=D10.j5 _ _ y1 y2 m1 m2;omega)⟩⟩
theorem nm26(n e m:Int):∃X:A26,Yes m 25 #[n,e] X.v:=⟨_,fun W _=>Yd n e W⟩
theorem d1(o:O26)(ho:o.Ok)(m:Int):∃X:A26,Yes m 11 #[o.v] X.v:=by
 by_cases h1:o.a<1
 ·exact⟨_,RG o m h1⟩
 ·by_cases h2:9999<o.a
  ·exact⟨_,PL o m h2⟩
  ·obtain⟨X,hX⟩:=nm26 (Cal.oW o.a) (Cal.fF o.a) m
   exact⟨X,Oa o m _ _ X vO vO (fun W _=>AL o.a W ho.a) hX⟩
theorem d2(o:O26)(ho:o.Ok)(m:Int):∃X:A26,Yes m 12 #[o.v] X.v:=by
 obtain⟨X,hX⟩:=nm26 (Cal.Qc o.a) (Cal.RO o.a) m
 exact⟨X,X4 o m _ _ X (fun W _=>acu o.a W ho.a) hX⟩
theorem d3(o:O26)(ho:o.Ok)(m:Int):∃X:A26,Yes m 13 #[o.v] X.v:=by
 obtain⟨y,n,l,d,e,hy,hd,H⟩:=Vv o.t (by have:=ho.t;omega) m
 exact⟨_,Y6 o m y n l d e _ _ H (fun W h=>lW y n l d W hy h.T h.L)⟩
theorem d4(o:O26)(ho:o.Ok)(m:Int):∃X:A26,Yes m 14 #[o.v] X.v:=by
 obtain⟨y,n,l,d,e,hy,H⟩:=fd26 o.a m
 obtain⟨X,hX⟩:=dt26 y n l d e m hy
 exact⟨X,WW o m y n l d e X H hX⟩
theorem d5(o:O26)(ho:o.Ok)(m:Int):∃X:A26,Yes m 15 #[o.v] X.v:=by
 obtain⟨y,n,l,d,e,hy,H⟩:=fd26 (Gr.gtV (rcY o.t) (rcM o.t) (rcD o.t)) m
 exact⟨_,Y8 o m _ _ _ _ _ _ y n l d e (fun W h=>Ht o.t (by have:=ho.t;omega) W h.G) (fun W h=>Bu _ _ _ W h.G) H⟩
theorem d6(o:O26)(ho:o.Ok)(m:Int):∃X:A26,Yes m 16 #[o.v] X.v:=by
 obtain⟨y,n,l,d,e,hi,H⟩:=Wt o.t (by have:=ho.t;omega) m
 obtain⟨hy,hd⟩:=Zv hi
 exact⟨_,Zl o m y n l d e _ _ (fun W h=>H W h.T h.L h.N h.M) (fun W h=>SQ y n l d W hy hd h.T h.L h.N h.I)⟩
theorem d7(o:O26)(ho:o.Ok)(m:Int):∃X:A26,Yes m 17 #[o.v] X.v:=by
 obtain⟨y,n,l,d,e,hy,hd,H⟩:=Vv o.t (by have:=ho.t;omega) m
 obtain⟨ry,rn,rl,rd,er,hR⟩:=A16.O1 y n l d o.p o.q o.r o.s o.a
 have hry:I64 ry:=by
  rcases hR with ⟨_,_,h,_⟩|⟨_,_,rm,hv,_⟩
  ·subst h;exact⟨vO,vO⟩
  ·exact⟨by have:=hv.1;omega,by have:=hv.2.1;omega⟩
 obtain⟨X,hX⟩:=dt26 ry rn rl rd er m hry
 exact⟨_,sum26 o m y n l d e ry rn rl rd er X H (fun W h=>Ui y n l d o.p o.q o.r o.s o.a W hy h.T h.L ry rn rl rd er (Lib.hid hR)) hX⟩
theorem Zq(s:ByteArray)(h:s.size<=1000):(⟨(Lib.cut s.data.toList [32]).1.toArray⟩:ByteArray).size<=1000000:=by
 have e:(⟨(Lib.cut s.data.toList [32]).1.toArray⟩:ByteArray).size=(Lib.cut s.data.toList [32]).1.length:=List.size_toArray
 have e2:s.size=s.data.toList.length:=Array.length_toList.symm
 rw [e];unfold Lib.cut
 split <;> simp <;> omega
theorem ZH(s:ByteArray)(h:s.size<=1000):(⟨(Lib.cut s.data.toList [32]).2.1.toArray⟩:ByteArray).size<=1000000:=by
 have e:(⟨(Lib.cut s.data.toList [32]).2.1.toArray⟩:ByteArray).size=(Lib.cut s.data.toList [32]).2.1.length:=List.size_toArray
 have e2:s.size=s.data.toList.length:=Array.length_toList.symm
 rw [e];unfold Lib.cut
 split <;> simp <;> omega
theorem d8(o:O26)(ho:o.Ok)(m:Int):∃X:A26,Yes m 18 #[o.v] X.v:=by
 have ht:=ho.t
 obtain⟨y,n,l,d,e,hy,hd,H⟩:=Vv ⟨(Lib.cut o.t.data.toList [32]).1.toArray⟩ (Zq _ ht) m
 obtain⟨y2,n2,l2,d2,e2,hy2,hd2,H2⟩:=Vv ⟨(Lib.cut o.t.data.toList [32]).2.1.toArray⟩ (ZH _ ht) m
 obtain⟨va,vb,vc,vq,er,hU⟩:=U17.abU y n l d y2 n2 l2 d2 o.a
 exact⟨_,WC o m _ _ _ y n l d e y2 n2 l2 d2 e2 va vb vc vq er (fun W h=>YD o.t ⟨#[32]⟩ m W vO h.M) H H2 (fun W h=>Tq y n l d y2 n2 l2 d2 o.a W hy hy2 h.T h.L va vb vc vq er (Lib.hid hU))⟩
theorem d9(o:O26)(ho:o.Ok)(m:Int):∃X:A26,∀ (w:World) (g:Nat),Tbs w m->w.cell? ⟨g,0,none⟩=some (.func (.func 20) #[] #[])->g<w.1.size->Calls Tryo.prog 39 #[o.v,.pointer (some ⟨g,0,none⟩)] w fun e' w'=>e'= .returned X.v/\Below w.1.size w w':=by
 obtain⟨y,n,l,d,e,hy,hd,H⟩:=Vv o.t (by have:=ho.t;omega) m
 have hb:I64 (A18.bY y n l d o.a):=by unfold A18.bY;split <;> first|exact ho.a|exact⟨vO,vO⟩
 obtain⟨X,hX⟩:=dt26 (A18.bY y n l d o.a) (A18.bN y n l d o.a) (A18.bL y n l d o.a) (A18.bD y n l d o.a) (A18.iw y n l d o.a) m hb
 exact⟨_,fun w g hT hg hgs=>UR o m y n l d e _ _ _ _ _ X 20 g H (fun W h=>jy y n l d o.a hy hd ho.a W h.T h.L) hX w hT hg hgs (enters_of (vF Tryz.func20) vK rfl)⟩
theorem d10(o:O26)(ho:o.Ok)(m:Int):∃X:A26,∀ (w:World) (g:Nat),Tbs w m->w.cell? ⟨g,0,none⟩=some (.func (.func 21) #[] #[])->g<w.1.size->Calls Tryo.prog 39 #[o.v,.pointer (some ⟨g,0,none⟩)] w fun e' w'=>e'= .returned X.v/\Below w.1.size w w':=by
 obtain⟨y,n,l,d,e,hy,hd,H⟩:=Vv o.t (by have:=ho.t;omega) m
 have hb:I64 (A18.bY y n l d o.a):=by unfold A18.bY;split <;> first|exact ho.a|exact⟨vO,vO⟩
 obtain⟨X,hX⟩:=dt26 (A18.bY y n l d o.a) (A18.tN y n l d o.a) (A18.tL y n l d o.a) (A18.tD y n l d o.a) (A18.iw y n l d o.a) m hb
 exact⟨_,fun w g hT hg hgs=>UR o m y n l d e _ _ _ _ _ X 21 g H (fun W h=>R5 y n l d o.a hy hd ho.a W h.T h.L) hX w hT hg hgs (enters_of (vF Tryz.func21) vK rfl)⟩
theorem d11(o:O26)(ho:o.Ok)(m:Int):∃X:A26,Yes m 22 #[o.v] X.v:=by
 by_cases h:o.a< -1373427∨2278650<o.a
 ·obtain⟨X,hX⟩:=nm26 0 2 m
  exact⟨X,XG o m _ _ X (fun W hT=>Gp o.a W h hT.T hT.L) hX⟩
 ·obtain⟨y,k,d,hv,hD⟩:=D10.qQ o.a vO vO
  obtain⟨X,hX⟩:=nm26 (Om.val (D10.bA y k d-Om.om y)) 0 m
  exact⟨X,XG o m _ _ X (fun W hT=>by rw [hD];exact FT y k d W hv hT.T hT.L) hX⟩
end Go.Proofs.YtljbnicolhhicaaGreatDoor
