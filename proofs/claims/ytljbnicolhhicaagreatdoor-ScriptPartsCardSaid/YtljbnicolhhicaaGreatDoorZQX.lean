import Derived.Test.YtljbnicolhhicaaGreatDoorZQf
import Derived.Test.YtljbnicolhhicaaGreatDoorZQp
set_option maxHeartbeats 8000000
set_option maxRecDepth 100000
set_option linter.unusedSimpArgs false
set_option linter.unusedVariables false
namespace Go.Proofs.YtljbnicolhhicaaGreatDoor
open Go.ChangeShapes Go.WideShapes Go.ChangeAt Go.RowKit Go.Lib
theorem acG(o:O26)(ho:o.Ok)(m:Int):∃X,Ans o m X:=
 ans26 o m (d1 o ho m) (d2 o ho m) (d3 o ho m) (d4 o ho m) (d5 o ho m) (d6 o ho m) (d7 o ho m) (d8 o ho m) (d9 o ho m) (d10 o ho m) (d11 o ho m) (d12 o ho m)
theorem acC:yU (aQ (aD (great ex1.t))) 1 false true/\rhE ex1.t 1 false true=0/\rhY ex1.t 1 false true=5785/\rhN ex1.t 1 false true=1/\rhL ex1.t 1 false true=false/\rhD ex1.t 1 false true=1:=
 ⟨.inl ⟨rfl,by decide+kernel,by decide+kernel⟩,by decide+kernel⟩
theorem acF:D10.aM 5785 1 false 1=739162/\D10.aK 5785 1 false 1=0:=by decide+kernel
theorem acp(m:Int):Yes m 5 #[] (.bool true):=by
 obtain⟨hc,e1,e2,e3,e4,e5⟩:=acC
 obtain⟨f1,f2⟩:=acF
 refine acE m (do26 ex1 m _ (acA ex1 m 2 13 _ ?_ (fun g h=>rfl) (enters_of (vF Tryz.func13) vK rfl))) (do26 ex2 m _ (acw ex2 m vD))
 have H:=Y6 ex1 m _ _ _ _ _ _ _ (fun W h=>Oo ex1.t 1 false true m vD W h.T h.L h.M hc) (fun W h=>lW _ _ _ _ W (by rw [e2];exact⟨vO,vO⟩) h.T h.L)
 rw [e1,e2,e3,e4,e5,f1,f2,if_pos rfl,if_pos rfl]at H
 exact H
theorem adb(l:List O26)(p:Option Addr)(c:Nat)(n m:Int)(w:World)(hc:l.length<=c)(hc2:c<=maxLen)(hT:Tbs w m)(hP:Pop w p l)(hf:few l=false)(HW:Yes m 5 #[] (.bool true)):
  vB 3 #[.slice p l.length c,.int .u8 n] w (.bool true):=by
 have hF:=adC l p c w vO hP
 rw [hf]at hF
 have hY:=HW w hT
 clear hf HW hT hP
 simp only [maxLen]at hc2
 go_enter (vF Tryz.func3),Tryz.ntmps3
 go_wp2_with fail
 refine hF.mono ?_
 rintro e w1 ⟨rfl,rfl⟩
 go_wp2_with fail
 refine hY.mono ?_
 rintro e w2 ⟨rfl,hb⟩
 dsimp only
 go_wp2_with fail
 go_ret
 exact⟨rfl,hb⟩
theorem ScriptParts_walk(l:List O26)(p:Option Addr)(c:Nat)(n:Int)(hn:0<=n/\n<=255)(hc:l.length<=c)(hc2:c<=maxLen)(hp0:p=none->c=0)(hI:∀o∈l,I64 o.k/\I64 o.a/\I64 o.b/\I64 o.p/\I64 o.q/\I64 o.r/\I64 o.s)(m:Int)(w:World)(hP:Pop w p l)(hm:dG w m)(hT:Tab w 6 kevCells)(hL:Tab w 4 lenCells)(hI2:Lib.TabIs Tryo.prog w "internal/strconv.uint64pow10" .u64 Lib.pow10Tab)(hG:Tab w 1 Gr.gregCells)(hF:Tab w 7 Fe.cells)(hR:Tab w 0 Rd.nmCells)(hN:Tab w 2 nameCells)(hPw:Tab w 3 powCells):
  vB 3 #[.slice p l.length c,.int .u8 n] w (.bool true):=by
 have T:Tbs w m:=⟨hT,hL,hF,hG,hN,hPw,hR,hI2,hm⟩
 cases hf:few l with
 |false=>exact adb l p c n m w hc hc2 T hP hf (acp m)
 | true=>
  have hf':=hf
  unfold few at hf'
  rw [Bool.and_eq_true,List.all_eq_true]at hf'
  obtain⟨xs,hA⟩:=adg l m fun o ho=>by
   obtain⟨h1,h2,h3,h4,h5,h6,h7⟩:=hI o ho
   have h8:=of_decide_eq_true (hf'.2 o ho)
   exact acG o ⟨h1,h2,h3,h4,h5,h6,h7,vO⟩ m
  exact adB l xs p c n m w hn.1 hn.2 hc hc2 hp0 T hP hf hA (acp m)
end Go.Proofs.YtljbnicolhhicaaGreatDoor
