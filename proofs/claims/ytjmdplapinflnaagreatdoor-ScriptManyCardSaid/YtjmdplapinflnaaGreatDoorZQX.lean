import Derived.Test.YtjmdplapinflnaaGreatDoorZQf
import Derived.Test.YtjmdplapinflnaaGreatDoorZQm
set_option maxHeartbeats 8000000
set_option maxRecDepth 100000
set_option linter.unusedSimpArgs false
set_option linter.unusedVariables false
namespace Go.Proofs.YtjmdplapinflnaaGreatDoor
open Go.ChangeShapes Go.WideShapes Go.ChangeAt Go.RowKit Go.Lib
theorem acG(o:O26)(ho:o.Ok)(m:Int):∃X,Ans o m X:=
 ans26 o m (d1 o ho m) (d2 o ho m) (d3 o ho m) (d4 o ho m) (d5 o ho m) (d6 o ho m) (d7 o ho m) (d8 o ho m) (d9 o ho m) (d10 o ho m) (d11 o ho m) (d12 o ho m)
theorem acC:yU (aQ (aD (great ex1.t))) 1 false true/\rhE ex1.t 1 false true=0/\rhY ex1.t 1 false true=5785/\rhN ex1.t 1 false true=1/\rhL ex1.t 1 false true=false/\rhD ex1.t 1 false true=1:=
 ⟨.inl ⟨rfl,by decide+kernel,by decide+kernel⟩,by decide+kernel⟩
theorem acF:D10.aM 5785 1 false 1=739162/\D10.aK 5785 1 false 1=0:=by decide+kernel
theorem acp(m:Int):Yes m 6 #[] (.bool true):=by
 obtain⟨hc,e1,e2,e3,e4,e5⟩:=acC
 obtain⟨f1,f2⟩:=acF
 refine acE m (do26 ex1 m _ (acA ex1 m 2 14 _ ?_ (fun g h=>rfl) (enters_of (vF Tryz.func14) vK rfl))) (do26 ex2 m _ (acw ex2 m vD))
 have H:=Y6 ex1 m _ _ _ _ _ _ _ (fun W h=>Oo ex1.t 1 false true m vD W h.T h.L h.M hc) (fun W h=>lW _ _ _ _ W (by rw [e2];exact⟨vO,vO⟩) h.T h.L)
 rw [e1,e2,e3,e4,e5,f1,f2,if_pos rfl,if_pos rfl]at H
 exact H
theorem ScriptMany_walk(k a b c:Int)(l:Bool)(p q r s:Int)(t:ByteArray)(n:Int)(hk:I64 k)(ha:I64 a)(hb:I64 b)(hc:I64 c)(hp:I64 p)(hq:I64 q)(hr:I64 r)(hs:I64 s)(ht:t.size<=maxLen)(hn:0<=n/\n<=65535)(m:Int)(w:World)(hm:dG w m)(hT:Tab w 6 kevCells)(hL:Tab w 4 lenCells)(hI:Lib.TabIs Tryo.prog w "internal/strconv.uint64pow10" .u64 Lib.pow10Tab)(hG:Tab w 1 Gr.gregCells)(hF:Tab w 7 Fe.cells)(hR:Tab w 0 Rd.nmCells)(hN:Tab w 2 nameCells)(hP:Tab w 3 powCells):
  vB 4 #[.agg #[k,a,b,c,l,p,q,r,s,t],.int .u16 n] w (.bool true):=by
 have T:Tbs w m:=⟨hT,hL,hF,hG,hN,hP,hR,hI,hm⟩
 by_cases h:t.size<=200
 ·obtain⟨X,hX⟩:=acG ⟨k,a,b,c,l,p,q,r,s,t⟩ ⟨hk,ha,hb,hp,hq,hr,hs,by show t.size<=1000;omega⟩ m
  exact acJ ⟨k,a,b,c,l,p,q,r,s,t⟩ n m (990+n % 20).toNat X hn.1 hn.2 vO h hX (acw O26.n m (.inr vD)) (acp m) w T
 ·exact aaO ⟨k,a,b,c,l,p,q,r,s,t⟩ n m (by show 200<t.size;omega) ht (acp m) w T
end Go.Proofs.YtjmdplapinflnaaGreatDoor
