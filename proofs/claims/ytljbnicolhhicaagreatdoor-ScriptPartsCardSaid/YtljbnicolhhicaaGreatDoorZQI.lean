import Derived.Test.YtljbnicolhhicaaGreatDoorZQg
set_option maxHeartbeats 8000000
set_option maxRecDepth 100000
set_option linter.unusedSimpArgs false
set_option linter.unusedVariables false
namespace Go.Proofs.YtljbnicolhhicaaGreatDoor
open Go.ChangeShapes Go.WideShapes Go.ChangeAt Go.RowKit Go.Lib
theorem Rd.abD:((List.range 14).all fun i=> [false,true].all fun p=>(Rd.H7 i p).all fun x=>decide (0<=x.1/\x.1<=54/\0<=x.2.1/\x.2.1<=2))=true:=by decide+kernel
theorem Rd.bd_at{i:Nat}(hi:i<14)(p:Bool):∀x∈Rd.H7 i p,0<=x.1/\x.1<=54/\0<=x.2.1/\x.2.1<=2:=by
 have h:=List.all_eq_true.1 Rd.abD i (List.mem_range.2 hi)
 have h2:=List.all_eq_true.1 h p (by cases p <;> simp)
 exact fun x hx=>of_decide_eq_true (List.all_eq_true.1 h2 x hx)
theorem Zf(D:Int)(p:Bool):∃ (r1 r3 er:Int) (k:Nat),k<=2/\0<=r1/\r1<=54/\Hid (∀w:World,Tab w 6 kevCells->Tab w 4 lenCells->Tab w 7 Fe.cells->vB 46 #[D,.int .i64 (if p then 1 else 0)] w (.tuple #[.agg #[r1,(k:Int),r3],er])):=by
 rcases Rd.caseP D p with ⟨y,i,i2,h,h2,h3,h4⟩|HS
 ·by_cases h6:D % 7=6
  ·obtain⟨r1,r2,hX⟩:=Rd.there p D h h2 h3 h4 h6
   obtain⟨x,hx,hxe⟩:=List.mem_map.1 (List.mem_of_find?_eq_some hX)
   obtain⟨b1,b2,b3,b4⟩:=Rd.bd_at h.2.2.1 p x hx
   have e1:x.1=r1:=congrArg (fun z:Rd=>z.1) hxe
   have e2:x.2.1=r2:=congrArg (fun z:Rd=>z.2.1) hxe
   obtain⟨k,rfl⟩:=Int.eq_ofNat_of_zero_le (show 0<=r2 by omega)
   exact⟨r1,D,0,k,vO,vO,vO,Lib.hid fun w hT hL hF=>rd_Of y i i2 p D r1 (k:Int) w h h2 h3 h4 h6 hX (Rd.Ip h.2.2.1 p) hT hL hF⟩
  ·exact⟨0,0,4,0,vO,vO,vO,Lib.hid fun w hT hL hF=>Yf y i i2 p D w h h2 h3 h4 h6 hT hL hF⟩
 ·exact⟨0,0,2,0,vO,vO,vO,Lib.hid fun w hT hL hF=>WV D _ 0 2 w vD hT hL hF HS⟩
def YM(n:Int):ByteArray:=if 1<=n/\n<=54 then Rd.nm n else⟨#[]⟩
theorem ab0:(Rd.nmL.all fun x=>decide (x.size<=1000))=true:=by decide+kernel
theorem ZN(n:Int):(YM n).size<=1000:=by
 unfold YM
 split
 ·unfold Rd.nm
  rw [List.getD_eq_getElem?_getD]
  cases hx:Rd.nmL[(n-1).toNat]? with
  |none=>exact Nat.zero_le _
  |some x=>exact of_decide_eq_true (List.all_eq_true.1 ab0 x (List.mem_of_getElem? hx))
 ·exact Nat.zero_le _
theorem Zx(n m:Int):Yes m 47 #[n] (.string (YM n)):=by
 intro w hT
 unfold YM
 by_cases h1:n<1
 ·rw [if_neg vO]
  exact(TB n w h1).mono (by rintro e w' ⟨rfl,rfl⟩;exact⟨rfl,bel⟩)
 ·by_cases h2:54<n
  ·rw [if_neg vO]
   exact(Tv n w h2).mono (by rintro e w' ⟨rfl,rfl⟩;exact⟨rfl,bel⟩)
  ·rw [if_pos vO]
   exact(Zc n w vO vO hT.R).mono (by rintro e w' ⟨rfl,rfl⟩;exact⟨rfl,bel⟩)
theorem d12(o:O26)(ho:o.Ok)(m:Int):∃X:A26,Yes m 23 #[o.v] X.v:=by
 have key:∀p:Bool,o.b=(if p then 1 else 0)->∃X:A26,Yes m 23 #[o.v] X.v:=by
  intro p hp
  obtain⟨r1,r3,er,k,hk,b1,b2,H⟩:=Zf o.a p
  by_cases he:er=0
  ·subst he
   exact⟨_,Nn o m r1 (k:Int) r3 k rfl hk ⟨vO,vO⟩ YM ZN (fun W h=>by rw [hp];exact H.out W h.T h.L h.F) (fun n=>Zx n m)⟩
  ·exact⟨_,BL o m r1 (k:Int) r3 er he (fun W h=>by rw [hp];exact H.out W h.T h.L h.F)⟩
 by_cases h0:o.b=0
 ·exact key false (by simpa using h0)
 ·by_cases h1:o.b=1
  ·exact key true (by simpa using h1)
  ·exact⟨_,BL o m 0 0 0 1 vD (fun W h=>VP o.a o.b W h0 h1)⟩
def Ans(o:O26)(m:Int)(X:A26):Prop:=∀W b,Tbs W m->Dm W b->vB 10 #[.map (some b),o.v] W X.v
theorem acA(o:O26)(m:Int)(i f:Nat)(X:A26)(hX:Yes m f #[o.v] X.v)(hr:∀g h,Instr.findNow (.int .i64) (.int .i64 o.k) (kH g h).toList 0=some (some (i,.func (.func f) #[] #[])))(hK:∀a (w:World),(callFunc f a).run Tryo.prog w= .ok (.enter f a) w):Ans o m X:=by
 refine fun W b hT hD=> ?_
 obtain⟨g,h,hm,_⟩:=hD
 exact u6 o b f i 12 #[] (kH g h) X W hm (hr g h) hK (fun W' hW=>hX W' (hT.below hW))
theorem mq(o:O26)(m:Int)(i f:Nat)(H:∃X:A26,Yes m f #[o.v] X.v)(hr:∀g h,Instr.findNow (.int .i64) (.int .i64 o.k) (kH g h).toList 0=some (some (i,.func (.func f) #[] #[])))(hK:∀a (w:World),(callFunc f a).run Tryo.prog w= .ok (.enter f a) w):∃X,Ans o m X:=
 H.imp fun X hX=>acA o m i f X hX hr hK
theorem acw(o:O26)(m:Int)(hk:o.k<1∨12<o.k):Ans o m {e:=8}:=by
 refine fun W b hT hD=> ?_
 obtain⟨g,h,hm,_⟩:=hD
 refine Rp o b 12 (kH g h) W hm ?_
 rcases MapKept.findNow_spec (d:= .int .i64) (k:= .int .i64 o.k) (by simp [MapKept.IsKey]) (kH g h).toList 0 (by simp [kH,MapKept.IsKey])with h0|⟨j,e,h1,h2,h3⟩
 ·exact h0.1
 ·have:=List.mem_of_getElem? h2
  simp [kH]at this
  exfalso
  rcases this with rfl|rfl|rfl|rfl|rfl|rfl|rfl|rfl|rfl|rfl|rfl|rfl <;> simp at h3 <;> omega
def Dd(o:O26)(m:Int)(K:Nat):Prop:=∃X:A26,∀ (w:World) (g:Nat),Tbs w m->w.cell? ⟨g,0,none⟩=some (.func (.func K) #[] #[])->g<w.1.size->Calls Tryo.prog 39 #[o.v,.pointer (some ⟨g,0,none⟩)] w fun e' w'=>e'= .returned X.v/\Below w.1.size w w'
theorem ans26(o:O26)(m:Int)
  (h1:∃X:A26,Yes m 11 #[o.v] X.v)
  (h2:∃X:A26,Yes m 12 #[o.v] X.v)
  (h3:∃X:A26,Yes m 13 #[o.v] X.v)
  (h4:∃X:A26,Yes m 14 #[o.v] X.v)
  (h5:∃X:A26,Yes m 15 #[o.v] X.v)
  (h6:∃X:A26,Yes m 16 #[o.v] X.v)
  (h7:∃X:A26,Yes m 17 #[o.v] X.v)
  (h8:∃X:A26,Yes m 18 #[o.v] X.v)
  (h9:Dd o m 20)
  (h10:Dd o m 21)
  (h11:∃X:A26,Yes m 22 #[o.v] X.v)
  (h12:∃X:A26,Yes m 23 #[o.v] X.v)
  :∃X,Ans o m X:=by
 by_cases k1:o.k=1
 ·exact mq o m 0 11 h1 (fun g h=>by rw [k1];rfl) (enters_of (vF Tryz.func11) vK rfl)
 by_cases k2:o.k=2
 ·exact mq o m 1 12 h2 (fun g h=>by rw [k2];rfl) (enters_of (vF Tryz.func12) vK rfl)
 by_cases k3:o.k=3
 ·exact mq o m 2 13 h3 (fun g h=>by rw [k3];rfl) (enters_of (vF Tryz.func13) vK rfl)
 by_cases k4:o.k=4
 ·exact mq o m 3 14 h4 (fun g h=>by rw [k4];rfl) (enters_of (vF Tryz.func14) vK rfl)
 by_cases k5:o.k=5
 ·exact mq o m 4 15 h5 (fun g h=>by rw [k5];rfl) (enters_of (vF Tryz.func15) vK rfl)
 by_cases k6:o.k=6
 ·exact mq o m 5 16 h6 (fun g h=>by rw [k6];rfl) (enters_of (vF Tryz.func16) vK rfl)
 by_cases k7:o.k=7
 ·exact mq o m 6 17 h7 (fun g h=>by rw [k7];rfl) (enters_of (vF Tryz.func17) vK rfl)
 by_cases k8:o.k=8
 ·exact mq o m 7 18 h8 (fun g h=>by rw [k8];rfl) (enters_of (vF Tryz.func18) vK rfl)
 by_cases k9:o.k=9
 ·obtain⟨X,hX⟩:=h9
  refine⟨X,fun W b hT hD=> ?_⟩
  obtain⟨g,h,hm,hg,hh,_,hgs,hhs⟩:=hD
  exact u6 o b 39 8 12 #[.pointer (some ⟨g,0,none⟩)] (kH g h) X W hm (by rw [k9];rfl) (enters_of (vF Tryz.func39) vK rfl) (fun W' hW=>hX W' g (hT.below hW) ((hW.cell hgs).trans hg) (Nat.lt_of_lt_of_le hgs hW.size))
 by_cases k10:o.k=10
 ·obtain⟨X,hX⟩:=h10
  refine⟨X,fun W b hT hD=> ?_⟩
  obtain⟨g,h,hm,hg,hh,_,hgs,hhs⟩:=hD
  exact u6 o b 39 9 12 #[.pointer (some ⟨h,0,none⟩)] (kH g h) X W hm (by rw [k10];rfl) (enters_of (vF Tryz.func39) vK rfl) (fun W' hW=>hX W' h (hT.below hW) ((hW.cell hhs).trans hh) (Nat.lt_of_lt_of_le hhs hW.size))
 by_cases k11:o.k=11
 ·exact mq o m 10 22 h11 (fun g h=>by rw [k11];rfl) (enters_of (vF Tryz.func22) vK rfl)
 by_cases k12:o.k=12
 ·exact mq o m 11 23 h12 (fun g h=>by rw [k12];rfl) (enters_of (vF Tryz.func23) vK rfl)
 exact⟨_,acw o m vO⟩
end Go.Proofs.YtljbnicolhhicaaGreatDoor
