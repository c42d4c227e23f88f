import Derived.Test.YtljbnicolhhicaaGreatDoorZQd
set_option maxHeartbeats 8000000
set_option maxRecDepth 100000
set_option linter.unusedSimpArgs false
set_option linter.unusedVariables false
namespace Go.Proofs.YtljbnicolhhicaaGreatDoor
open Go.ChangeShapes Go.WideShapes Go.ChangeAt Go.RowKit Go.Lib
def O26.c2(o:O26):Array Value:= #[o.k,o.a,o.b,o.c,o.l,o.p,o.q,o.r,o.s,o.t]
def A26.flat(l:List A26):List Value:=l.flatMap fun x=>x.c.toList
theorem A26.kK:∀l:List A26,(A26.flat l).length=l.length*14
 | []=>rfl
 |x :: r=>by
  have:=A26.kK r
  unfold A26.flat at this⊢
  rw [List.flatMap_cons,List.length_append,this]
  simp [A26.c];omega
theorem A26.qG(a b:List A26):A26.flat (a++b)=A26.flat a++A26.flat b:=by simp [A26.flat]
theorem A26.one(x:A26):∀u∈x.c.toList,u.oneCell'=true:=by
 intro u hu
 simp [A26.c]at hu
 rcases hu with rfl|rfl|rfl|rfl|rfl|rfl|rfl|rfl|rfl|rfl|rfl|rfl|rfl|rfl <;> rfl
theorem A26.info:(Tryo.prog.info? 39).map (fun i=>(i.zero,i.size,i.bytes))=some (some (A26.v {}),14,120):=vK
theorem TV{P:Program}{t:TypeId}{z:Value}{n b:Nat}(h:(P.info? t).map (fun i=>(i.zero,i.size,i.bytes))=some (some z,n,b)):∃i,P.info? t=some i/\i.zero=some z/\i.size=n/\i.bytes=b:=by
 cases hi:P.info? t with
 |none=>rw [hi]at h;cases h
 |some i=>rw [hi]at h;simp at h;exact⟨i,rfl,h.1,h.2.1,h.2.2⟩
def Ops(w:World)(b off:Nat)(l:List O26):Prop:=∀ (j:Nat) (o:O26) (t:Nat) (u:Value),l[j]? =some o->o.c2[t]? =some u->w.cell? ⟨b,off+j*10+t,none⟩=some u
theorem Ops.below{w W:World}{b off:Nat}{l:List O26}(h:Ops w b off l)(hW:Below w.1.size w W):Ops W b off l:=fun j o t u h1 h2=>(hW.cell (World.block_lt_of_cell? w _ (h j o t u h1 h2))).trans (h j o t u h1 h2)
def Pop(w:World)(p:Option Addr)(l:List O26):Prop:=l= []∨∃b off,p=some ⟨b,off,none⟩/\Ops w b off l
theorem Pop.below{w W:World}{p:Option Addr}{l:List O26}(h:Pop w p l)(hW:Below w.1.size w W):Pop W p l:=h.imp id fun⟨b,off,e,h⟩=>⟨b,off,e,h.below hW⟩
theorem abM(v:Value)(n:Nat)(b:Option Addr)(c:Nat)(w:World)(hn:1000<n)(hn2:n<=100000):
  vC 6 #[.slice b n c] w (.tuple #[.slice none 0 0,(1:Int)]):=by
 have d1:decide (1000<(n:Int))=true:=decide_eq_true vO
 have d2:(1000:Int)<(n:Int):=vO
 go_enter (vF Tryz.func6),Tryz.ntmps6
 go_wp2_with fail
 go_ret2
 exact⟨rfl,rfl⟩
theorem run26(m:Int)(l:List O26)(xs:List A26)(p:Option Addr)(c:Nat)(w:World)(hT:Tbs w m)(hl:xs.length=l.length)(hn:l.length<=1000)(hO:Pop w p l)
  (HX:∀ (j:Nat) (o:O26) (x:A26),l[j]? =some o->xs[j]? =some x->∀W d,Tbs W m->Dm W d->vB 10 #[.map (some d),o.v] W x.v):
  Calls Tryo.prog 6 #[.slice p l.length c] w fun e w'=>∃v,e= .returned (.tuple #[v,(0:Int)])/\v≠ .slice none 0 0/\w'.ownsRow w.1.size 39 14 v l.length (A26.flat xs)/\Below w.1.size w w':=by
 obtain⟨i0,hi,hz0,hz1,hz2⟩:=TV A26.info
 have d1:decide (1000<(l.length:Int))=false:=decide_eq_false vO
 have d2:¬ ((1000:Int)<(l.length:Int)):=vO
 go_enter (vF Tryz.func6),Tryz.ntmps6
 go_wp2_with fail
 refine(Oq _).mono ?_
 rintro e w1 ⟨rfl,hd1,hb1⟩
 have HP1:=hO.below hb1
 have hz1s:=hb1.size
 obtain⟨w2,hr2,ho2,hg2⟩:=Go.run_makeSlice_owned (P:=Tryo.prog) w1 w1.1.size 25 39 i0 (A26.v {}) 14 (aB Tryz.underlying25) hi hz0 hz1 .i64 .i64 l.length vO (by rw [hz2];omega) (by simp only [maxLen];omega) (Nat.le_refl _)
 have hb2:Below w1.1.size w1 w2:=(Below.refl _ _).grown hg2 (Nat.le_refl _) (fun k e=>by cases e)
 go_wp2_with fail
 go_loopw [5,17] (fun v i wr=>∃ (j:Nat),j<=l.length/\i= .int .i64 (j:Int)/\v≠ .slice none 0 0/\wr.ownsRow w1.1.size 39 14 v j (A26.flat (xs.take j))/\Below w1.1.size w1 wr) (fun _ i _=>((l.length:Int)-intOf i).toNat)
 case atStart=>exact⟨0,Nat.zero_le _,rfl,(fun h=>by cases h),by simpa [A26.flat]using ho2,hb2⟩
 case round=>
  obtain⟨j,hj,rfl,hne,HO,hB9⟩:=hrel
  by_cases hlt:j<l.length
  ·rcases HP1 with h0|⟨b,off,rfl,HO1⟩
   ·subst h0;simp at hlt
   obtain⟨o,hj2⟩:∃o,l[j]? =some o:=⟨_,List.getElem?_eq_getElem hlt⟩
   obtain⟨x,hx2⟩:∃x,xs[j]? =some x:=⟨_,List.getElem?_eq_getElem vO⟩
   have HA:=HX j o x hj2 hx2
   have r0:wr.cell? ⟨b,off+j*10,none⟩=some (o.k:vV):=(hB9.cell (World.block_lt_of_cell? w1 _ (HO1 j o 0 _ hj2 rfl))).trans (HO1 j o 0 _ hj2 rfl)
   have r1:wr.cell? ⟨b,off+j*10+1,none⟩=some (o.a:vV):=(hB9.cell (World.block_lt_of_cell? w1 _ (HO1 j o 1 _ hj2 rfl))).trans (HO1 j o 1 _ hj2 rfl)
   have r2:wr.cell? ⟨b,off+j*10+2,none⟩=some (o.b:vV):=(hB9.cell (World.block_lt_of_cell? w1 _ (HO1 j o 2 _ hj2 rfl))).trans (HO1 j o 2 _ hj2 rfl)
   have r3:wr.cell? ⟨b,off+j*10+3,none⟩=some (o.c:vV):=(hB9.cell (World.block_lt_of_cell? w1 _ (HO1 j o 3 _ hj2 rfl))).trans (HO1 j o 3 _ hj2 rfl)
   have r4:wr.cell? ⟨b,off+j*10+4,none⟩=some (.bool o.l):=(hB9.cell (World.block_lt_of_cell? w1 _ (HO1 j o 4 _ hj2 rfl))).trans (HO1 j o 4 _ hj2 rfl)
   have r5:wr.cell? ⟨b,off+j*10+5,none⟩=some (o.p:vV):=(hB9.cell (World.block_lt_of_cell? w1 _ (HO1 j o 5 _ hj2 rfl))).trans (HO1 j o 5 _ hj2 rfl)
   have r6:wr.cell? ⟨b,off+j*10+6,none⟩=some (o.q:vV):=(hB9.cell (World.block_lt_of_cell? w1 _ (HO1 j o 6 _ hj2 rfl))).trans (HO1 j o 6 _ hj2 rfl)
   have r7:wr.cell? ⟨b,off+j*10+7,none⟩=some (o.r:vV):=(hB9.cell (World.block_lt_of_cell? w1 _ (HO1 j o 7 _ hj2 rfl))).trans (HO1 j o 7 _ hj2 rfl)
   have r8:wr.cell? ⟨b,off+j*10+8,none⟩=some (o.s:vV):=(hB9.cell (World.block_lt_of_cell? w1 _ (HO1 j o 8 _ hj2 rfl))).trans (HO1 j o 8 _ hj2 rfl)
   have r9:wr.cell? ⟨b,off+j*10+9,none⟩=some (.string o.t):=(hB9.cell (World.block_lt_of_cell? w1 _ (HO1 j o 9 _ hj2 rfl))).trans (HO1 j o 9 _ hj2 rfl)
   have k0:((wr.alloc (.cells #[(0:Int),(0:Int),(0:Int),(0:Int),false,(0:Int),(0:Int),(0:Int),(0:Int),.string ⟨#[]⟩] 42)).setRow wr.1.size o.c2).cell? ⟨wr.1.size,0,none⟩=some (o.k:vV):=World.news_of_block (setRow_heap _ _ _ _ _ _ (al0 _ _)) 0 _ rfl
   have k1:((wr.alloc (.cells #[(0:Int),(0:Int),(0:Int),(0:Int),false,(0:Int),(0:Int),(0:Int),(0:Int),.string ⟨#[]⟩] 42)).setRow wr.1.size o.c2).cell? ⟨wr.1.size,1,none⟩=some (o.a:vV):=World.news_of_block (setRow_heap _ _ _ _ _ _ (al0 _ _)) 1 _ rfl
   have k2:((wr.alloc (.cells #[(0:Int),(0:Int),(0:Int),(0:Int),false,(0:Int),(0:Int),(0:Int),(0:Int),.string ⟨#[]⟩] 42)).setRow wr.1.size o.c2).cell? ⟨wr.1.size,2,none⟩=some (o.b:vV):=World.news_of_block (setRow_heap _ _ _ _ _ _ (al0 _ _)) 2 _ rfl
   have k3:((wr.alloc (.cells #[(0:Int),(0:Int),(0:Int),(0:Int),false,(0:Int),(0:Int),(0:Int),(0:Int),.string ⟨#[]⟩] 42)).setRow wr.1.size o.c2).cell? ⟨wr.1.size,3,none⟩=some (o.c:vV):=World.news_of_block (setRow_heap _ _ _ _ _ _ (al0 _ _)) 3 _ rfl
   have k4:((wr.alloc (.cells #[(0:Int),(0:Int),(0:Int),(0:Int),false,(0:Int),(0:Int),(0:Int),(0:Int),.string ⟨#[]⟩] 42)).setRow wr.1.size o.c2).cell? ⟨wr.1.size,4,none⟩=some (.bool o.l):=World.news_of_block (setRow_heap _ _ _ _ _ _ (al0 _ _)) 4 _ rfl
   have k5:((wr.alloc (.cells #[(0:Int),(0:Int),(0:Int),(0:Int),false,(0:Int),(0:Int),(0:Int),(0:Int),.string ⟨#[]⟩] 42)).setRow wr.1.size o.c2).cell? ⟨wr.1.size,5,none⟩=some (o.p:vV):=World.news_of_block (setRow_heap _ _ _ _ _ _ (al0 _ _)) 5 _ rfl
   have k6:((wr.alloc (.cells #[(0:Int),(0:Int),(0:Int),(0:Int),false,(0:Int),(0:Int),(0:Int),(0:Int),.string ⟨#[]⟩] 42)).setRow wr.1.size o.c2).cell? ⟨wr.1.size,6,none⟩=some (o.q:vV):=World.news_of_block (setRow_heap _ _ _ _ _ _ (al0 _ _)) 6 _ rfl
   have k7:((wr.alloc (.cells #[(0:Int),(0:Int),(0:Int),(0:Int),false,(0:Int),(0:Int),(0:Int),(0:Int),.string ⟨#[]⟩] 42)).setRow wr.1.size o.c2).cell? ⟨wr.1.size,7,none⟩=some (o.r:vV):=World.news_of_block (setRow_heap _ _ _ _ _ _ (al0 _ _)) 7 _ rfl
   have k8:((wr.alloc (.cells #[(0:Int),(0:Int),(0:Int),(0:Int),false,(0:Int),(0:Int),(0:Int),(0:Int),.string ⟨#[]⟩] 42)).setRow wr.1.size o.c2).cell? ⟨wr.1.size,8,none⟩=some (o.s:vV):=World.news_of_block (setRow_heap _ _ _ _ _ _ (al0 _ _)) 8 _ rfl
   have k9:((wr.alloc (.cells #[(0:Int),(0:Int),(0:Int),(0:Int),false,(0:Int),(0:Int),(0:Int),(0:Int),.string ⟨#[]⟩] 42)).setRow wr.1.size o.c2).cell? ⟨wr.1.size,9,none⟩=some (.string o.t):=World.news_of_block (setRow_heap _ _ _ _ _ _ (al0 _ _)) 9 _ rfl
   have dl:decide ((j:Int)<(l.length:Int))=true:=decide_eq_true vO
   have dl2:(j:Int)<(l.length:Int):=vO
   have htk:A26.flat (xs.take (j+1))=A26.flat (xs.take j)++x.c.toList:=by rw [List.take_add_one,hx2,A26.qG];simp [A26.flat]
   unfold O26.v A26.v A26.c at HA
   unfold O26.c2 at*
   clear hj2 hx2 HX HO1 hO
   go_wp2_with (refine wpList_store_row rfl _ _ _ rfl _ _ rfl rfl _ _ (al0 _ _) vK rfl vK ?_)
   have hBw:Below wr.1.size wr ((wr.alloc (.cells #[(0:Int),(0:Int),(0:Int),(0:Int),false,(0:Int),(0:Int),(0:Int),(0:Int),.string ⟨#[]⟩] 42)).setRow wr.1.size #[o.k,o.a,o.b,o.c,o.l,o.p,o.q,o.r,o.s,o.t]):=below_setRow (ba _ _) (Nat.le_refl _) _
   refine(HA _ _ (hT.below (bt (bt hb1 hB9) hBw)) (hd1.below (bt hB9 hBw))).mono ?_
   rintro e w5 ⟨rfl,hb5⟩
   have hB5:Below wr.1.size wr w5:=bt hBw hb5
   have hB51:Below w1.1.size w1 w5:=bt hB9 hB5
   have hzz:=hB51.size
   have HO5:w5.ownsRow w1.1.size 39 14 u5 j (A26.flat (xs.take j)):=HO.kept (⟨hB5.os,hB5.tape,hB5.output,hB5.size,fun k hk _=>hB5.block k hk⟩:wr.grownBy w5 none) (by cases u5.ownBlock <;> simp)
   go_wp2_with (at_builtin;refine wpList_append_own_at _ rfl (.tmp 21) (.tmp 25) 25 rfl w1.1.size 39 i0 (A26.v {}) 14 120 (aB Tryz.underlying25) hi hz0 hz1 hz2 rfl vD u5 j _ rfl (HO5.alloc _) ⟨w5.1.size,0,none⟩ 1 1 x.c.toList rfl rfl (CO w5 x.c 39 w5.1.size rfl) (A26.one x) (by simp only [maxLen];omega) vO (by first|assumption|(simp;omega)|omega) ?_;intro v7 w7 hown7 hgrow7 hne7 hblk7)
   go_roundw
   case rel=>exact⟨j+1,vO,by first|rfl|(simp;done),(fun e=>hne (hne7.1 e).1),by rw [htk];exact hown7,oG (baa hB51 _) hgrow7 (fun k e=>(World.ownsRow.lt HO5 k e).1)⟩
   case measure=>simp [intOf];omega
  ·obtain rfl:j=l.length:=vO
   have dl:decide ((l.length:Int)<(l.length:Int))=false:=decide_eq_false vO
   rw [show xs.take l.length=xs by rw [←hl];exact List.take_length]at HO
   clear hlt HX HP1 hO
   go_wp2_with fail
   go_ret2
   exact⟨_,rfl,hne,⟨HO.1,HO.2.imp id fun⟨g,cap,cur,e,hb,r⟩=>⟨g,cap,cur,e,Nat.le_trans hz1s hb,r⟩⟩,bt hb1 hB9⟩
end Go.Proofs.YtljbnicolhhicaaGreatDoor
