import Derived.Test.YtljbnicolhhicaaGreatDoorZQN
set_option maxHeartbeats 8000000
set_option maxRecDepth 100000
set_option linter.unusedSimpArgs false
set_option linter.unusedVariables false
namespace Go.Proofs.YtljbnicolhhicaaGreatDoor
open Go.ChangeShapes Go.WideShapes Go.ChangeAt Go.RowKit Go.Lib
def ada(l:List O26)(m:Int)(xs:List A26):Prop:=xs.length=l.length/\∀ (j:Nat) (o:O26) (x:A26),l[j]? =some o->xs[j]? =some x->Ans o m x
theorem adk{l:List O26}{m:Int}{xs:List A26}(h:ada l m xs)(k:Nat):ada (l.take k) m (xs.take k):=⟨by simp [h.1],fun j o x h1 h2=>by
 rw [List.getElem?_take]at h1 h2
 split at h1
 ·rw [if_pos tQ]at h2;exact h.2 j o x h1 h2
 ·cases h1⟩
theorem adj{l:List O26}{m:Int}{xs:List A26}(h:ada l m xs)(k:Nat):ada (l.drop k) m (xs.drop k):=⟨by simp [h.1],fun j o x h1 h2=>by
 rw [List.getElem?_drop]at h1 h2
 exact h.2 _ o x h1 h2⟩
theorem adg:∀ (l:List O26) (m:Int),(∀o∈l,∃X,Ans o m X)->∃xs,ada l m xs
 | [],m,_=>⟨[],rfl,fun j o x h=>by simp at h⟩
 |o :: l,m,h=>by
  obtain⟨xs,h1,h2⟩:=adg l m (fun o' ho=>h o' (by simp [ho]))
  obtain⟨X,hX⟩:=h o vS
  refine⟨X :: xs,by simp [h1],fun j o' x a b=> ?_⟩
  cases j with
  |zero=>simp at a b;subst a;subst b;exact hX
  |succ j=>exact h2 j o' x (by simpa using a) (by simpa using b)
theorem pop_take{w:World}{b off:Nat}{l:List O26}(h:Ops w b off l)(k:Nat):Ops w b off (l.take k):=fun j o t u h1 h2=>by
 rw [List.getElem?_take]at h1
 split at h1
 ·exact h j o t u h1 h2
 ·cases h1
theorem ads{w:World}{b off:Nat}{l:List O26}(h:Ops w b off l)(k:Nat):Ops w b (off+k*10) (l.drop k):=fun j o t u h1 h2=>by
 rw [List.getElem?_drop]at h1
 have:=h (k+j) o t u h1 h2
 rwa [show off+(k+j)*10+t=off+k*10+j*10+t by omega]at this
theorem adf(m:Int)(l:List O26)(xs:List A26)(p:Option Addr)(n c:Nat)(w:World)(hT:Tbs w m)(hA:ada l m xs)(hn:l.length<=1000)(hl:l.length=n)(hO:Pop w p l):
  Calls Tryo.prog 6 #[.slice p n c] w fun e w'=>∃g d,e= .returned (.tuple #[.slice (some ⟨g,0,none⟩) n d,(0:Int)])/\w'.ownsRow w.1.size 39 14 (.slice (some ⟨g,0,none⟩) n d) n (A26.flat xs)/\g<w'.1.size/\Anss w' g xs/\Below w.1.size w w':=by
 subst hl
 refine(run26 m l xs p c w hT hA.1 hn hO hA.2).mono ?_
 rintro e w' ⟨v,rfl,hne,ho,hb⟩
 rcases ho.2 with ⟨h0,h1⟩|⟨g,d,cur,rfl,hg,hcur,hr⟩
 ·rw [h0]at hne;exact absurd rfl hne
 ·refine⟨g,d,rfl,ho,(Array.getElem?_eq_some_iff.1 hcur).1,fun j x t u h1 h2=> ?_,hb⟩
  have:=World.ownsRow.cells ho rfl (j*14+t) u (A26.acy _ j t x u h1 h2)
  rwa [Addr.add_lit,Nat.zero_add]at this
theorem adI{W:World}{o:Oper}{a:Act}{K:Act->Prop}(X:O26)(t:TypeId)(y:Operand)(b off:Nat)(ho:o.op= .load t y)(hp:a.eval y= .pointer (some ⟨b,off,none⟩))(hc:∀t u,X.c2[t]? =some u->W.cell? ⟨b,off+t,none⟩=some u)(hb:b<W.1.size)
  (hag:∀w:World,(isAgg t).run Tryo.prog w= .ok true w) (hs:∀w:World,(sizeOf t).run Tryo.prog w= .ok 10 w) (hk:K (a.put o.dst (.agg X.c2))):o.quiet Tryo.prog a (Below W.1.size W) K:=
 zF t y b off X.c2.toList ho hp hag hs (fun j u hu=>hc j u (by simpa using hu)) hb hk
theorem ady(w:World):(w.alloc (.cells #[] 39)).ownsRow w.1.size 39 14 (.slice (some ⟨w.1.size,0,none⟩) 0 0) 0 []:=
 ⟨rfl,.inr ⟨_,0,#[],rfl,Nat.le_refl _,heap_alloc_new w _,Nat.le_refl _,by simp [maxLen],rfl,rfl⟩⟩
theorem adp{w:World}{base e z n:Nat}{v:Value}{cs:List Value}(h:w.ownsRow base e z v n cs):∀b,v.ownBlock=some b->base<=b:=by
 intro b hb
 rcases h.2 with ⟨rfl,_⟩|⟨g,c,cur,rfl,h1,_⟩
 ·cases hb
 ·cases hb;exact h1
theorem adz{w:World}{base n:Nat}{v:Value}{xs:List A26}(h:w.ownsRow base 39 14 v n (A26.flat xs))(hn:n=xs.length):∃p c,v= .slice p xs.length c/\Pan w p xs:=by
 subst hn
 rcases h.2 with ⟨rfl,h0⟩|⟨g,c,cur,rfl,_,hg,_⟩
 ·exact⟨none,0,by rw [h0],.inl (List.eq_nil_of_length_eq_zero h0)⟩
 ·refine⟨some ⟨g,0,none⟩,c,rfl,.inr ⟨g,rfl,(Array.getElem?_eq_some_iff.1 hg).1,fun j x t u h1 h2=> ?_⟩⟩
  have:=World.ownsRow.cells h rfl (j*14+t) u (A26.acy _ j t x u h1 h2)
  rwa [Addr.add_lit,Nat.zero_add]at this
theorem A26.ones(xs:List A26):∀u∈A26.flat xs,u.oneCell'=true:=fun u hu=>by
 obtain⟨x,_,h⟩:=List.mem_flatMap.1 hu
 exact A26.one x u h
theorem adB(l:List O26)(xs:List A26)(p:Option Addr)(c:Nat)(n m:Int)(w:World)(hn:0<=n)(hn2:n<=255)(hc:l.length<=c)(hc2:c<=maxLen)(hp0:p=none->c=0)(hT:Tbs w m)(hP:Pop w p l)(hf:few l=true)(hA:ada l m xs)(HW:Yes m 5 #[] (.bool true)):
  vB 3 #[.slice p l.length c,.int .u8 n] w (.bool true):=by
 have hF:=adC l p c w vO hP
 rw [hf]at hF
 unfold few at hf
 rw [Bool.and_eq_true]at hf
 have hl:=of_decide_eq_true hf.1
 clear hf
 simp only [maxLen]at hc2
 have m0:0<=n % ((l.length:Int)+1):=Int.emod_nonneg n vO
 have m1:n % ((l.length:Int)+1)<(l.length:Int)+1:=Int.emod_lt_of_pos n vO
 obtain⟨k,hk⟩:∃k:Nat,(k:Int)=n % (l.length+1):=⟨(n % (l.length+1)).toNat,vO⟩
 have kl:k<=l.length:=vO
 have e1:n.tmod ((l.length:Int)+1)=(k:Int):=by rw [hk];exact Int.tmod_eq_emod_of_nonneg hn
 have z1:¬ ((l.length:Int)+1=0):=vO
 have i1:(0:Int)<=(k:Int):=vO
 have i2:(k:Int)<=(l.length:Int):=vO
 have i3:(k:Int)<=(c:Int):=vO
 clear hk m0 m1
 go_enter (vF Tryz.func3),Tryz.ntmps3
 go_wp2_with fail
 refine hF.mono ?_
 rintro e w1 ⟨rfl,rfl⟩
 go_wp2_with fail
 have hk1:(l.take k).length=k:=by rw [List.length_take];omega
 have hk2:(l.drop k).length=l.length-k:=by rw [List.length_drop]
 refine(adf m (l.take k) (xs.take k) p k c w hT (adk hA k) vO hk1 (hP.imp (fun h=>by rw [h];exact List.take_nil) fun⟨b,off,e,h⟩=>⟨b,off,e,pop_take h k⟩)).mono ?_
 rintro e w2 ⟨g1,dd1,rfl,ho1,hg1,hs1,hb1⟩
 dsimp only
 go_wp2_with fail
 all_goals
  refine(adf m (l.drop k) (xs.drop k) _ (l.length-k) _ w2 (hT.below hb1) (adj hA k) vO hk2 (by first|exact .inl (List.drop_eq_nil_of_le vO)|exact(hP.below hb1).imp (fun h=>by rw [h];exact List.drop_nil) fun⟨b,off,e,h⟩=>⟨b,off+k*10,by rw [e];simp [Addr.add_lit],ads h k⟩)).mono ?_
  rintro e w3 ⟨g2,dd2,rfl,ho2,hg2,hs2,hb2⟩
  dsimp only
  go_wp2_with fail
  refine(adf m l xs _ l.length _ w3 ((hT.below hb1).below hb2) hA vO rfl ((hP.below hb1).below hb2)).mono ?_
  rintro e w4 ⟨g3,dd3,rfl,ho3,hg3,hs3,hb3⟩
  dsimp only
  have hA1:∀W,Below w2.1.size w2 W->∀j u,(A26.flat (xs.take k))[j]? =some u->W.cell? ((⟨g1,0,none⟩:Addr).add j)=some u:=fun W hW j u h=>(hW.cell (p:=(⟨g1,0,none⟩:Addr).add j) (by rw [Addr.add_lit];exact hg1)).trans (World.ownsRow.cells ho1 rfl j u h)
  have hA2:∀W,Below w3.1.size w3 W->∀j u,(A26.flat (xs.drop k))[j]? =some u->W.cell? ((⟨g2,0,none⟩:Addr).add j)=some u:=fun W hW j u h=>(hW.cell (p:=(⟨g2,0,none⟩:Addr).add j) (by rw [Addr.add_lit];exact hg2)).trans (World.ownsRow.cells ho2 rfl j u h)
  have hb24:=hb2.trans (hb3.mono hb2.size)
  have hB14:Below w.1.size w w4:=hb1.trans (hb24.mono hb1.size)
  have hl1:(A26.flat (xs.take k)).length=k*14:=by rw [A26.kK,List.length_take,hA.1,Nat.min_eq_left kl]
  have hl2:(A26.flat (xs.drop k)).length=(l.length-k)*14:=by rw [A26.kK,List.length_drop,hA.1]
  have hcat: []++A26.flat (xs.take k)++A26.flat (xs.drop k)=A26.flat xs:=by rw [List.nil_append,←A26.qG,List.take_append_drop]
  have hxl:xs.length=l.length:=hA.1
  have hK9:∀ (a:Array Value) (W:World),(callFunc 8 a).run Tryo.prog W= .ok (.enter 8 a) W:=fun a W=>Go.Sq.abP Tryo.prog (vF Tryz.func8) rfl (by rfl) a W
  have hK8:∀ (a:Array Value) (W:World),(callFunc 7 a).run Tryo.prog W= .ok (.enter 7 a) W:=fun a W=>Go.Sq.abP Tryo.prog (vF Tryz.func7) rfl (by rfl) a W
  obtain⟨i0,hi,hz0,hz1,hz2⟩:=TV A26.info
  go_wp2_with first
   | (at_builtin;refine BigFrame.wpList_want (by go_simp) fun K hK=> ?_
      refine Na _ (.tmp 60) (.tmp 61) 25 rfl w4.1.size 39 i0 (A26.v {}) 14 120 (aB Tryz.underlying25) hi hz0 hz1 hz2 rfl vD _ 0 [] rfl (ady w4) ⟨g1,0,none⟩ k dd1 (A26.flat (xs.take k)) rfl hl1 (hA1 _ (hb24.trans ((Below.alloc (Below.refl _ _) (Nat.le_refl _) _).mono hb24.size))) (A26.ones _) (by simp only [maxLen];omega) vO vS ?_
      intro v5 w5 hown5 hgrow5
      refine hK _ _ ?_
      have hb5:Below w4.1.size w4 w5:=oG (Below.alloc (Below.refl _ _) (Nat.le_refl _) _) hgrow5 (fun b h=>by cases h;exact Nat.le_refl _))
   | (at_builtin;refine BigFrame.wpList_want (by go_simp) fun K hK=> ?_
      refine Na _ (.tmp 62) (.tmp 63) 25 rfl w4.1.size 39 i0 (A26.v {}) 14 120 (aB Tryz.underlying25) hi hz0 hz1 hz2 rfl vD v5 (0+k) ([]++A26.flat (xs.take k)) rfl hown5 ⟨g2,0,none⟩ (l.length-k) dd2 (A26.flat (xs.drop k)) rfl hl2 (hA2 _ (hb3.trans (hb5.mono hb3.size))) (A26.ones _) (by simp only [maxLen];omega) vO hb5.size ?_
      intro v6 w6 hown6 hgrow6
      refine hK _ _ ?_
      have hb6:Below w4.1.size w4 w6:=oG hb5 hgrow6 (adp hown5)
      rw [hcat]at hown6
      obtain⟨p6,c6,rfl,hP6⟩:=adz hown6 vO)
 all_goals
  have hS:=adF xs p6 (some ⟨g3,0,none⟩) c6 dd3 w6 vO hP6 (Pan.below (.inr ⟨g3,rfl,hg3,hs3⟩) hb6)
  rw [hA.1]at hS
  refine hS.mono ?_
  rintro e w7 ⟨rfl,hb7⟩
  dsimp only
  have hB7:Below w4.1.size w4 w7:=hb6.trans (hb7.mono hb6.size)
  clear hS hA1 hA2 hown5 hown6 hgrow5 hgrow6 hP6 hb5 hb6 hb7 ho1 ho2 ho3 hs1 hs2 hg1 hg2 hl1 hl2 hcat hi hz0 hz1 hz2
  go_wp2_with fail
 all_goals
  try generalize Option.map (fun x:Addr=>x.add (k*10)) p=q
  go_loopw [12] (fun i wr=>∃ (j:Nat),j<=l.length/\i= .int .i64 (j:Int)/\Below w4.1.size w4 wr) (fun i _=>((l.length:Int)-intOf i).toNat)
  case atStart=>exact⟨0,vO,rfl,hB7⟩
  case round=>
   obtain⟨j,hj,rfl,hB⟩:=hrel
   have hBw:Below w.1.size w wr:=hB14.trans (hB.mono hB14.size)
   by_cases hlt:j<l.length
   ·obtain⟨o,hj2⟩:∃o,l[j]? =some o:=⟨_,List.getElem?_eq_getElem hlt⟩
    obtain⟨x,hj3⟩:∃x,xs[j]? =some x:=⟨_,List.getElem?_eq_getElem vO⟩
    have hD:∀W,Below wr.1.size wr W->vB 8 #[.agg o.c2] W (.agg x.c):=fun W hW=>do26 o m x (hA.2 j o x hj2 hj3) W (hT.below (hBw.trans (hW.mono hBw.size)))
    have hP2:=hP.below hBw
    rcases hP2 with h0|⟨b,off,rfl,hO⟩
    ·subst h0;simp at hlt
    have c0:∀q,q=off+j*10->∀t u,o.c2[t]? =some u->wr.cell? ⟨b,q+t,none⟩=some u:=fun q e t u h=>by rw [e];exact hO j o t u hj2 h
    have hb:=World.block_lt_of_cell? wr _ (c0 _ rfl 0 _ rfl)
    have c1:∀q,q=j*14->∀t u,x.c[t]? =some u->wr.cell? ⟨g3,q+t,none⟩=some u:=fun q e t u h=>by rw [e];exact(hB.cell (p:=⟨g3,j*14+t,none⟩) hg3).trans (hs3 j x t u hj3 h)
    have hg:=Nat.lt_of_lt_of_le hg3 hB.size
    have dl:decide ((j:Int)<(l.length:Int))=true:=decide_eq_true vO
    have dl2:(j:Int)<(l.length:Int):=vO
    have hE:=fun W=>ne26 x W
    dsimp only [A26.v,A26.c]at hE
    clear hO hP hA hj2 hj3 hs3 hF HW hT
    go_wp2_with fail
    refine bP vK vK (fun hall=> ?_)
    repeat(first|go_big_quiet_skip|(go_big_quiet_want;first|(refine adI o _ _ _ _ rfl rfl (c0 _ (by first|omega|(simp;omega))) hb ?_ ?_ ?_;(focus (intro _;simp;done));(focus (intro _;simp;done));go_simp;go_big_quiet_on)|(refine acK x _ _ _ _ rfl rfl (c1 _ (by first|omega|(simp;omega))) hg ?_ ?_ ?_;(focus (intro _;simp;done));(focus (intro _;simp;done));unfold A26.c;go_simp;go_big_quiet_on)|(go_big_quiet_op;first|go_big_quiet_on|(apply Exists.intro;refine⟨fun x hx=> ?_, ?_⟩;exact dn hx (hD _ hx);unfold A26.c;go_simp;go_big_quiet_on))))
    refine wpQuiet_nil ?_
    clear hall
    intro x0 hx0
    go_wp2_with fail
    go_roundw
    case rel=>exact⟨j+1,vO,by first|rfl|(simp;done),hB.trans (hx0.mono hB.size)⟩
    case measure=>simp [intOf];omega
   ·obtain rfl:j=l.length:=vO
    have dl:decide ((l.length:Int)<(l.length:Int))=false:=decide_eq_false vO
    have hY:=HW wr (hT.below hBw)
    clear hlt hP hA hs3 hF HW hT
    go_wp2_with fail
    refine hY.mono ?_
    rintro e w8 ⟨rfl,hb8⟩
    dsimp only
    go_wp2_with fail
    go_ret
    exact⟨rfl,hBw.trans (hb8.mono hBw.size)⟩
end Go.Proofs.YtljbnicolhhicaaGreatDoor
