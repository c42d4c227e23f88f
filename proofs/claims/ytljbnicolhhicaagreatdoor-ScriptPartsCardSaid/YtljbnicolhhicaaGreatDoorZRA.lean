import Derived.Test.YtljbnicolhhicaaGreatDoorZSW
set_option maxHeartbeats 8000000
set_option maxRecDepth 100000
set_option linter.unnecessarySimpa false
set_option linter.unusedSimpArgs false
set_option linter.unusedVariables false
namespace Go.Proofs.YtljbnicolhhicaaGreatDoor
section
open Go.ChangeShapes Go.WideShapes Go.ChangeAt Go.RowKit Go.Lib Go.Sort Go.Shelf
abbrev Rd:=Int×Int×Int
namespace Rd
def enc(x:Rd):List Value:= [.int .i64 x.1,.int .i64 x.2.1,.int .i64 x.2.2]
def flat(l:List Rd):List Value:=l.flatMap enc
theorem kK:∀l,(flat l).length=l.length*3
 | []=>rfl
 |x :: r=>by
  have:=kK r
  unfold flat at this⊢
  rw [List.flatMap_cons,List.length_append,this]
  simp [enc];omega
theorem qG(a b:List Rd):flat (a++b)=flat a++flat b:=by simp [flat]
theorem flat_get:∀ (l:List Rd) (j:Nat) (x:Rd),l[j]? =some x->(flat l)[3*j]? =some (x.1:vV)/\(flat l)[3*j+1]? =some (x.2.1:vV)/\(flat l)[3*j+2]? =some (x.2.2:vV)
 | [],j,x,h=>by simp at h
 |y :: r,0,x,h=>by
  obtain rfl:y=x:=by simpa using h
  exact⟨rfl,rfl,rfl⟩
 |y :: r,j+1,x,h=>by
  have:=flat_get r j x (by simpa using h)
  have e:flat (y :: r)= .int .i64 y.1 :: .int .i64 y.2.1 :: .int .i64 y.2.2 :: flat r:=rfl
  rw [e,show 3*(j+1)=3*j+1+1+1 by omega,show 3*j+1+1+1+1=(3*j+1)+1+1+1 by omega,show 3*j+1+1+1+2=(3*j+2)+1+1+1 by omega]
  simpa using this
theorem zw(l:List Rd):∀u∈flat l,u.oneCell'=true:=by
 intro u hu
 obtain⟨x,_,hx⟩:=List.mem_flatMap.1 hu
 simp [enc]at hx
 rcases hx with rfl|rfl|rfl <;> rfl
def Own(w:World)(B:Nat)(v:Value)(l:List Rd):Prop:=w.ownsRow B 78 3 v l.length (flat l)
def Row(w:World)(v:Value)(l:List Rd):Prop:=(v= .slice none 0 0/\l= [])∨∃b off cap,v= .slice (some ⟨b,off,none⟩) l.length cap/\∀j u,(flat l)[j]? =some u->w.cell? ⟨b,off+j,none⟩=some u
theorem Own.nil(w:World)(B:Nat):Own w B (.slice none 0 0) []:=World.ownsRow_nil w B _ _
theorem Own.row{w:World}{B:Nat}{v:Value}{l:List Rd}(h:Own w B v l):Row w v l:=by
 rcases h.2 with ⟨rfl,h0⟩|⟨g,cap,cur,rfl,hb,hg,hn,hm,hs,ht⟩
 ·exact .inl ⟨rfl,List.eq_nil_of_length_eq_zero h0⟩
 ·refine .inr ⟨g,0,cap,rfl,fun j u hj=> ?_⟩
  have:=World.ownsRow.cells h rfl j u hj
  rwa [Addr.add_lit]at this
theorem Row.below{w w':World}{v:Value}{l:List Rd}(h:Row w v l)(hb:Below w.1.size w w'):Row w' v l:=by
 rcases h with h|⟨b,off,cap,rfl,hc⟩
 ·exact .inl h
 ·exact .inr ⟨b,off,cap,rfl,fun j u hj=>(hb.cell (World.block_lt_of_cell? w _ (hc j u hj))).trans (hc j u hj)⟩
theorem grown_of{w w':World}(hb:Below w.1.size w w'):w.grownBy w' none:=⟨hb.os,hb.tape,hb.output,hb.size,fun k hk _=>hb.block k hk⟩
theorem Own.below{w w':World}{B:Nat}{v:Value}{l:List Rd}(h:Own w B v l)(hb:Below w.1.size w w'):Own w' B v l:=
 h.kept (grown_of hb) (by cases v.ownBlock <;> simp)
theorem Own.but{g:Nat}{w w':World}{B:Nat}{v:Value}{l:List Rd}(h:Own w B v l)(hb:But g w w')(hg:g<B):Own w' B v l:=by
 refine h.kept (row:=some g) ⟨hb.os,hb.tape,hb.output,hb.size,fun k hk hne=>hb.block k hk (fun e=>hne (by rw [e]))⟩ ?_
 rcases hv:v.ownBlock with _|k
 ·exact .inl rfl
 ·refine .inr fun e=> ?_
  have:=(World.ownsRow.lt h k hv).1
  cases e
  omega
theorem Own.base{w:World}{B B':Nat}{v:Value}{l:List Rd}(h:Own w B v l)(hB:B'<=B):Own w B' v l:=⟨h.1,h.2.imp id fun⟨g,cap,cur,e,hb,r⟩=>⟨g,cap,cur,e,Nat.le_trans hB hb,r⟩⟩
theorem yg{w:World}{b off:Nat}{l:List Rd}(h:∀j u,(flat l)[j]? =some u->w.cell? ⟨b,off+j,none⟩=some u)(i:Nat)(x:Rd)(hx:l[i]? =some x):
  w.cell? ⟨b,off+i*3,none⟩=some (x.1:vV)/\w.cell? ⟨b,off+i*3+1,none⟩=some (x.2.1:vV)/\w.cell? ⟨b,off+i*3+2,none⟩=some (x.2.2:vV):=by
 obtain⟨h1,h2,h3⟩:=flat_get l i x hx
 rw [Nat.mul_comm 3 i]at h1 h2 h3
 exact⟨h _ _ h1,by rw [Nat.add_assoc];exact h _ _ h2,by rw [Nat.add_assoc];exact h _ _ h3⟩
theorem Row.len{w:World}{v:Value}{l:List Rd}(h:Row w v l):∃p cap,v= .slice p l.length cap:=by
 rcases h with ⟨rfl,rfl⟩|⟨b,off,cap,rfl,_⟩
 ·exact⟨_,_,rfl⟩
 ·exact⟨_,_,rfl⟩
theorem Row.kI{w:World}{v:Value}{l:List Rd}(h:Row w v l)(h0:0<l.length):∃b off cap,v= .slice (some ⟨b,off,none⟩) l.length cap/\∀j u,(flat l)[j]? =some u->w.cell? ⟨b,off+j,none⟩=some u:=by
 rcases h with ⟨_,rfl⟩|h
 ·simp at h0
 ·exact h
theorem iJ{w:World}{B n:Nat}{v:Value}{l:List Rd}{x1 x2 x3:Int}(hn:n=l.length)(h:w.ownsRow B 78 3 v (n+1) (flat l++ [.int .i64 x1,.int .i64 x2,.int .i64 x3])):Own w B v (l++ [(x1,x2,x3)]):=by
 subst hn
 unfold Own
 rw [List.length_append,qG]
 exact h
theorem ZW{w:World}{B n m:Nat}{v:Value}{l l2:List Rd}(hn:n=l.length)(hm:m=l2.length)(h:w.ownsRow B 78 3 v (n+m) (flat l++flat l2)):Own w B v (l++l2):=by
 subst hn hm
 unfold Own
 rw [List.length_append,qG]
 exact h
theorem news(w:World)(x1 x2 x3:Int):∀j u,[Value.int .i64 x1,.int .i64 x2,.int .i64 x3][j]? =some u->(w.alloc (.cells #[x1,x2,x3] 78)).cell? ((⟨w.1.size,0,none⟩:Addr).add j)=some u:=CO w #[x1,x2,x3] 78 w.1.size rfl
theorem one(x1 x2 x3:Int):∀u∈ [Value.int .i64 x1,.int .i64 x2,.int .i64 x3],u.oneCell'=true:=zw [(x1,x2,x3)]
theorem info:(Tryo.prog.info? 78).map (fun i=>(i.zero,i.size,i.bytes))=some (some (.agg #[(0:Int),(0:Int),(0:Int)]),3,24):=vK
-- what is read, plainly
def many(J:List Int)(n:Int):Int:=if n∈J then 2 else 1
def step(J:List Int)(s:Int×List Rd)(d:Int):Int×List Rd:=(s.1+many J s.1,s.2++ [(s.1,many J s.1,d)])
def run(J:List Int)(n:Int)(ds:List Int):Int×List Rd:=ds.foldl (step J) (n,[])
theorem Xd(J:List Int)(n:Int)(ds:List Int)(j:Nat)(d:Int)(hd:ds[j]? =some d):run J n (ds.take (j+1))=step J (run J n (ds.take j)) d:=by
 unfold run
 rw [List.take_add_one,hd,List.foldl_append]
 rfl
theorem Qi(J:List Int):∀ (ds:List Int) (s:Int×List Rd),(ds.foldl (step J) s).2.length=s.2.length+ds.length
 | [],s=>rfl
 |d :: r,s=>by
  rw [List.foldl_cons,Qi J r]
  simp [step];omega
theorem Zw(J:List Int)(n:Int)(ds:List Int):(run J n ds).2.length=ds.length:=by
 rw [run,Qi];simp
theorem Zi(J:List Int)(n:Int):1<=many J n/\many J n<=2:=by unfold many;split <;> omega
theorem Uz(J:List Int):∀ (ds:List Int) (s:Int×List Rd),s.1<=(ds.foldl (step J) s).1/\(ds.foldl (step J) s).1<=s.1+2*ds.length
 | [],s=>by simp
 |d :: r,s=>by
  have h1:=Uz J r (step J s d)
  have h2:=Zi J s.1
  rw [List.foldl_cons]
  simp only [List.length_cons]
  have e:(step J s d).1=s.1+many J s.1:=rfl
  omega
theorem abw(J:List Int)(n:Int)(ds:List Int):n<=(run J n ds).1/\(run J n ds).1<=n+2*ds.length:=Uz J ds (n,[])
def few(last n len:Int)(J:List Int):Nat:=(max 0 (min (last-n+1-len) J.length)).toNat
end Rd
theorem XM(v:Value)(l:List Int)(x:Int)(n:Nat)(w:World)(hr:Il.Row w v l)(hl:l.length=n)(hn:n<=1000):
  Calls Tryo.prog 221 #[v,x] w fun e w'=>∃r:Int,e= .returned (.int .i64 r)/\Hid (decide (0<=r)=decide (x∈l))/\Below w.1.size w w':=by
 obtain⟨p1,c1,rfl⟩:=hr.len
 rw [hl]
 have HN:=Lib.hid hl
 clear hl
 go_enter (vF Tryz.func221),Tryz.ntmps221
 go_wp2_with fail
 go_loopw [8] (fun i wr=>∃j:Nat,j<=n/\i= .int .i64 (j:Int)/\Hid (x ∉ l.take j)/\Below w.1.size w wr) (fun i _=>n-(intOf i).toNat)
 case atStart=>exact⟨0,Nat.zero_le _,rfl,Lib.hid vS,bel⟩
 case round=>
  obtain⟨j,hj,rfl,HG,hB⟩:=hrel
  by_cases hlt:j<n
  ·obtain⟨y,hy⟩:∃x,l[j]? =some x:=⟨_,List.getElem?_eq_getElem (by rw [HN.out];exact hlt)⟩
   obtain⟨b,off,cc,hp1,hc⟩:=(hr.below hB).kI (by rw [HN.out];omega)
   rw [HN.out]at hp1
   simp only [Value.slice.injEq]at hp1
   obtain⟨rfl,_,rfl⟩:=hp1
   have cx1:=hc j y hy
   have lx:=World.block_lt_of_cell? _ _ cx1
   dsimp only at lx cx1
   have j0:(0:Int)<=(j:Int):=vO
   have j1:(j:Int)<(n:Int):=vO
   have HM:=Lib.hid (show y∈l from List.mem_of_getElem? hy)
   have HT:=Lib.hid (show l.take (j+1)=l.take j++ [y] by rw [List.take_add_one,hy];rfl)
   clear hc hy
   by_cases c:x=y
   ·subst c
    go_wp2_with fail
    go_ret
    refine⟨_,rfl,Lib.hid ?_,bel⟩
    rw [decide_eq_true HM.out,decide_eq_true vO]
   ·have HC:=Lib.hid c
    have c2:decide (x=y)=false:=decide_eq_false c
    go_wp2_with fail
    go_roundw
    case rel=>exact⟨j+1,vO,by go_num,Lib.hid (by rw [HT.out];have h1:=HG.out;have h2:=HC.out;simp [h1,h2]),bel⟩
    case measure=>simp [intOf];omega
  ·obtain rfl:j=n:=vO
   clear hlt
   go_wp2_with fail
   go_ret
   refine⟨_,rfl,Lib.hid ?_,bel⟩
   have h1:=HG.out
   rw [List.take_of_length_le (by rw [HN.out];exact Nat.le_refl _)]at h1
   rw [decide_eq_false h1]
   rfl
theorem R3(v:Value)(l:List Int)(x:Int)(n:Nat)(w:World)(hr:Il.Row w v l)(hl:l.length=n)(hn:n<=1000):
  vB 190 #[v,x] w (.bool (decide (x∈l))):=by
 have HI:=Lib.hid (fun W h=>XM v l x n W (hr.below h) hl hn)
 clear hr
 go_enter (vF Tryz.func190),Tryz.ntmps190
 go_wp2_with fail
 refine(HI.out _ bel).mono ?_
 rintro e w1 ⟨r,rfl,HR,hb1⟩
 go_wp2_with fail
 go_ret
 refine⟨by rw [←HR.out];rfl, ?_⟩
 exact bel
end
section
open Go.ChangeShapes Go.WideShapes Go.ChangeAt Go.RowKit Go.Lib Go.Sort Go.Shelf
def fP(w:World)(c:Nat)(n:Int):Prop:=w.cell? ⟨c,0,none⟩=some (n:vV)/\(∀i,w.frozen? ⟨c,i,none⟩=false)/\c<w.1.size
theorem fP.below{w w':World}{c:Nat}{n:Int}(h:fP w c n)(hb:Below w.1.size w w'):fP w' c n:=
 ⟨(hb.cell (p:=⟨c,0,none⟩) h.2.2).trans h.1,fun i=>(hb.frozen (p:=⟨c,i,none⟩) h.2.2).trans (h.2.1 i),Nat.lt_of_lt_of_le h.2.2 hb.size⟩
theorem fP.set{w:World}{c:Nat}{n:Int}(h:fP w c n)(v:Int):fP (w.setCell ⟨c,0,none⟩ (.int .i64 v)) c v:=
 ⟨World.cell?_setCell_same _ _ _ h.1,fun i=>(World.frozen?_setCell _ _ _ _).trans (h.2.1 i),by simpa [World.setCell]using h.2.2⟩
theorem fP.grown{w w':World}{c:Nat}{n:Int}{r:Option Nat}(h:fP w c n)(hg:w.grownBy w' r)(hr:r≠some c):fP w' c n:=by
 obtain⟨g1,g2,g3,g4,g5⟩:=hg
 have hb:=g5 c h.2.2 (fun e=>hr e.symm)
 exact⟨(World.cell?_of_block (w:=w) hb).trans h.1,fun i=>(World.frozen?_of_block (w:=w) hb).trans (h.2.1 i),Nat.lt_of_lt_of_le h.2.2 g4⟩
theorem But.grown{g:Nat}{w a b:World}{r:Option Nat}(h:But g w a)(hg:a.grownBy b r)(hr:∀k,r=some k->w.1.size<=k):But g w b:=by
 obtain⟨g1,g2,g3,g4,g5⟩:=hg
 refine⟨g1.trans h.os,g2.trans h.tape,g3.trans h.output,Nat.le_trans h.size g4,fun k hk hne=>(g5 k (Nat.lt_of_lt_of_le hk h.size) (fun e=> ?_)).trans (h.block k hk hne)⟩
 have:=hr k e.symm
 omega
theorem Jp(ds J T:List Int)(nd M:Nat)(last nx:Int)(c cT:Nat)(vd vJ:Value)(pT pJ:Option Addr)(nT cJ:Nat)(w:World)(hn:ds.length=nd)(hJ:Hid (vJ= .slice pJ M cJ))(hM:J.length=M)(hM2:M<=1000)(hd60:nd<=60)(b1: -1000<=last/\last<=1000)(b2: -1000<=nx/\nx<=1000)
  (hc:fP w c nx) (HD:Hid (∀W,But c w W->Il.Row W vd ds)) (HJ:Hid (∀W,But c w W->Il.Row W (.slice pJ M cJ) J))
  (hM3:max 0 (min (last-nx+1-(nd:Int)) (nT:Int))=(M:Int))
  (hS:∀W,(Instr.slice 154 (.slice pT nT cT) none (some (.int .i64 (M:Int))) none).run Tryo.prog W= .ok (.slice pJ M cJ) W):
  Calls Tryo.prog 189 #[vd,.agg #[last,.slice pT nT cT],.pointer (some ⟨c,0,none⟩)] w fun e w'=>∃v,e= .returned v/\Rd.Own w' w.1.size v (Rd.run J nx ds).2/\fP w' c (Rd.run J nx ds).1/\But c w w':=by
 obtain⟨i0,hi,hz0,hz1,hz2⟩:=info_parts Rd.info
 obtain⟨pd,cd,rfl⟩:=(HD.out w (But.of (Below.refl _ _))).len
 rw [hn]at HD⊢
 have HN:=Lib.hid hn
 have HC:=Lib.hid hc
 obtain⟨hc1,hc2,hc3⟩:=hc
 clear hn
 have e1:wrap64 (last-nx)=last-nx:=IntWalk.wrap64_in _ ⟨vO,vO⟩
 have e2:wrap64 (last-nx+1)=last-nx+1:=IntWalk.wrap64_in _ ⟨vO,vO⟩
 have e3:wrap64 (last-nx+1-(nd:Int))=last-nx+1-(nd:Int):=IntWalk.wrap64_in _ ⟨vO,vO⟩
 go_enter (vF Tryz.func189),Tryz.ntmps189
 go_wp2_with fail
 clear e1 e2 e3 hM3 hS hc1 hc2
 have HM:=Lib.hid hM
 go_loopw [8,31] (fun v i wr=>∃ (j:Nat) (N:Int) (S:List Rd),j<=nd/\i= .int .i64 (j:Int)/\Hid (Rd.run J nx (ds.take j)=(N,S))/\S.length=j/\(nx<=N/\N<=nx+2*(j:Int))/\Rd.Own wr w.1.size v S/\fP wr c N/\But c w wr) (fun _ i _=>nd-(intOf i).toNat)
 case atStart=>exact⟨0,nx,[],Nat.zero_le _,rfl,Lib.hid rfl,rfl,vO,Rd.Own.nil _ _,HC.out.below bel,But.of bel⟩
 case round=>
  obtain⟨j,N,S,hj,rfl,HR,hlen,hN,HO,HCr,hB⟩:=hrel
  obtain⟨w9,rfl⟩:∃x,x=wr:=⟨_,rfl⟩
  have hz:=hB.size
  by_cases hlt:j<nd
  ·obtain⟨y,hy⟩:∃x,ds[j]? =some x:=⟨_,List.getElem?_eq_getElem (by rw [HN.out];exact hlt)⟩
   have HX:=Lib.hid (Rd.Xd J nx ds j y hy)
   have HCt:=Lib.hid (fun W h=>R3 (.slice pJ M cJ) J N M W (HJ.out W h) hM hM2)
   obtain⟨b,off,cc,hp1,hcs⟩:=(HD.out w9 hB).kI (by rw [HN.out];omega)
   rw [HN.out]at hp1
   simp only [Value.slice.injEq]at hp1
   obtain⟨rfl,_,rfl⟩:=hp1
   have cx1:=hcs j y hy
   have lx:=World.block_lt_of_cell? _ _ cx1
   dsimp only at lx cx1
   have j0:(0:Int)<=(j:Int):=vO
   have j1:(j:Int)<(nd:Int):=vO
   have HCR:=Lib.hid HCr
   obtain⟨k1,k2,k3⟩:=HCr
   have e4:wrap64 (N+1)=N+1:=IntWalk.wrap64_in _ ⟨vO,vO⟩
   have e5:wrap64 (N+2)=N+2:=IntWalk.wrap64_in _ ⟨vO,vO⟩
   clear hcs hy
   go_wp2_with fail
   refine(HCt.out _ (But.bt hB bel)).mono ?_
   rintro e w1 ⟨rfl,hb1⟩
   have HC1:=HCR.out.below hb1
   obtain⟨m1,m2,m3⟩:=HC1
   have hB1:But c w w1:=But.bt hB hb1
   have hs1:=hB1.size
   have HO1:w1.ownsRow w.1.size 78 3 u8 S.length (Rd.flat S):=Rd.Own.below HO hb1
   have HCB:=Lib.hid (show fP w1 c N from⟨m1,m2,m3⟩)
   have HNE:Hid (u8.ownBlock≠some c):=Lib.hid (fun e=>by have:=(World.ownsRow.lt HO1 c e).1;omega)
   by_cases hmem:N∈J
   ·have HME:=Lib.hid hmem
    rw [decide_eq_true hmem]
    clear hmem
    go_wp2_with (at_builtin;refine wpList_append_own_at _ rfl (.tmp 38) (.tmp 43) 129 rfl w.1.size 78 i0 (.agg #[(0:Int),(0:Int),(0:Int)]) 3 24 (aB Tryz.underlying129) hi hz0 hz1 hz2 rfl vD _ S.length (Rd.flat S) rfl (HO1.alloc _) ⟨w1.1.size,0,none⟩ 1 1 [.int .i64 _,.int .i64 _,.int .i64 _] rfl rfl (Rd.news _ _ _ _) (Rd.one _ _ _) (by simp only [maxLen];omega) vO (by first|assumption|(simp;omega)|omega) ?_;intro v7 w7 hown7 hgrow7 _ hblk7;have HC7:=Lib.hid (fP.grown (HCB.out.below (ba _ _)) hgrow7 HNE.out);obtain⟨q1,q2,q3⟩:=HC7.out)
    go_roundw
    case rel=>exact⟨j+1,N+2,S++ [(N,2,y)],vO,by go_num,Lib.hid (by rw [HX.out,HR.out];simp [Rd.step,Rd.many,HME.out]),by simp [hlen],vO,Rd.Own.but (Rd.iJ rfl hown7) (But.set (But.of (Below.refl _ _)) _ _) hc3,fP.set HC7.out _,But.set (But.grown (But.bt hB1 bel) hgrow7 (fun k e=>(World.ownsRow.lt HO1 k e).1)) _ _⟩
    case measure=>simp [intOf];omega
   ·have HME:=Lib.hid hmem
    rw [decide_eq_false hmem]
    clear hmem
    go_wp2_with (at_builtin;refine wpList_append_own_at _ rfl (.tmp 38) (.tmp 43) 129 rfl w.1.size 78 i0 (.agg #[(0:Int),(0:Int),(0:Int)]) 3 24 (aB Tryz.underlying129) hi hz0 hz1 hz2 rfl vD _ S.length (Rd.flat S) rfl (HO1.alloc _) ⟨w1.1.size,0,none⟩ 1 1 [.int .i64 _,.int .i64 _,.int .i64 _] rfl rfl (Rd.news _ _ _ _) (Rd.one _ _ _) (by simp only [maxLen];omega) vO (by first|assumption|(simp;omega)|omega) ?_;intro v7 w7 hown7 hgrow7 _ hblk7;have HC7:=Lib.hid (fP.grown (HCB.out.below (ba _ _)) hgrow7 HNE.out);obtain⟨q1,q2,q3⟩:=HC7.out)
    go_roundw
    case rel=>exact⟨j+1,N+1,S++ [(N,1,y)],vO,by go_num,Lib.hid (by rw [HX.out,HR.out];simp [Rd.step,Rd.many,HME.out]),by simp [hlen],vO,Rd.Own.but (Rd.iJ rfl hown7) (But.set (But.of (Below.refl _ _)) _ _) hc3,fP.set HC7.out _,But.set (But.grown (But.bt hB1 bel) hgrow7 (fun k e=>(World.ownsRow.lt HO1 k e).1)) _ _⟩
    case measure=>simp [intOf];omega
  ·obtain rfl:j=nd:=vO
   have HT:=Lib.hid (show ds.take j=ds from List.take_of_length_le (by rw [HN.out];exact Nat.le_refl _))
   clear hlt
   go_wp2_with fail
   go_ret
   have h1:=HR.out
   rw [HT.out]at h1
   exact⟨_,rfl,by rw [h1];exact HO,by rw [h1];exact HCr,hB⟩
end
section
open Go.ChangeShapes Go.WideShapes Go.ChangeAt Go.RowKit Go.Lib Go.Sort Go.Shelf
namespace Rd
def iC(leap:Bool)(behind:Int)(q:Nat):Int:=match q with
 |0=>if leap then 0 else 25
 |1=>if leap then 0 else 34
 |2=>44
 |3=>if behind=1 then 52 else 51
 |_=>53
def bC(leap:Bool)(behind:Int)(q:Nat):List Int:=match q with
 |0=>if leap then []else [22]
 |1=>if leap then []else [27,29,32]
 |2=> [42,39]
 |3=>if behind=1 then [51]else []
 |_=> []
def Lit(w:World)(lo:Nat)(v:Value)(J:List Int):Prop:=(v= .slice none 0 0/\J= [])∨∃b,lo<=b/\b<w.1.size/\v= .slice (some ⟨b,0,none⟩) J.length J.length/\∀ (j:Nat) x,J[j]? =some x->w.cell? ⟨b,j,none⟩=some (x:vV)
theorem Lit.below{w w':World}{lo:Nat}{v:Value}{J:List Int}(h:Lit w lo v J)(hb:Below w.1.size w w'):Lit w' lo v J:=by
 rcases h with h|⟨b,h1,h2,h3,h4⟩
 ·exact .inl h
 ·exact .inr ⟨b,h1,Nat.lt_of_lt_of_le h2 hb.size,h3,fun j x hj=>(hb.cell (p:=⟨b,j,none⟩) h2).trans (h4 j x hj)⟩
theorem Lit.but{w w':World}{c lo:Nat}{v:Value}{J:List Int}(h:Lit w lo v J)(hb:But c w w')(hc:c<lo):Lit w' lo v J:=by
 rcases h with h|⟨b,h1,h2,h3,h4⟩
 ·exact .inl h
 ·exact .inr ⟨b,h1,Nat.lt_of_lt_of_le h2 hb.size,h3,fun j x hj=>(hb.cell h2 vO).trans (h4 j x hj)⟩
end Rd
theorem ZV(leap:Bool)(bh:Int)(w:World):
  Calls Tryo.prog 164 #[leap,bh] w fun e w'=>∃t:Nat->Value,e= .returned (.agg #[Rd.iC leap bh 0,t 0,Rd.iC leap bh 1,t 1,Rd.iC leap bh 2,t 2,Rd.iC leap bh 3,t 3,Rd.iC leap bh 4,t 4])/\(∀q,q<5->Rd.Lit w' w.1.size (t q) (Rd.bC leap bh q))/\Below w.1.size w w':=by
 go_enter (vF Tryz.func164),Tryz.ntmps164
 cases leap
 ·by_cases c:bh=1
  ·have c2:decide (bh=1)=true:=decide_eq_true c
   go_wp2_with fail
   refine bodyPost_ret (v:= .agg #[(25:Int),.slice (some ⟨w.1.size+1,0,none⟩) 1 1,(34:Int),.slice (some ⟨w.1.size+1+1,0,none⟩) 3 3,(44:Int),.slice (some ⟨w.1.size+1+1+1,0,none⟩) 2 2,(52:Int),.slice (some ⟨w.1.size+1+1+1+1+1,0,none⟩) 1 1,(53:Int),.slice none 0 0]) (by simp [results,Tryz.results164,go_sem]) rfl ?_
   refine⟨fun q=>match q with|0=> .slice (some ⟨w.1.size+1,0,none⟩) 1 1|1=> .slice (some ⟨w.1.size+1+1,0,none⟩) 3 3|2=> .slice (some ⟨w.1.size+1+1+1,0,none⟩) 2 2|3=> .slice (some ⟨w.1.size+1+1+1+1+1,0,none⟩) 1 1|_=> .slice none 0 0,by simp [Rd.iC,c], ?_,bel⟩
   intro q hq
   rcases(show q=0∨q=1∨q=2∨q=3∨q=4 by omega)with rfl|rfl|rfl|rfl|rfl
   ·rw [show Rd.bC false bh 0= [22] by simp [Rd.bC,c]]
    (refine .inr ⟨_, ?_, ?_,rfl, ?_⟩;(focus (first|omega|(simp;done)|(simp;omega)));(focus (first|(simp;done)|(simp;omega)));(focus (intro j x hj;rcases j with _|_|_|j <;> simp [Rd.bC]at hj <;> (try subst hj) <;> (first|(simp [go_sem];done)|(simp [go_sem,World.cell?];done)))))
   ·rw [show Rd.bC false bh 1= [27,29,32] by simp [Rd.bC,c]]
    (refine .inr ⟨_, ?_, ?_,rfl, ?_⟩;(focus (first|omega|(simp;done)|(simp;omega)));(focus (first|(simp;done)|(simp;omega)));(focus (intro j x hj;rcases j with _|_|_|j <;> simp [Rd.bC]at hj <;> (try subst hj) <;> (first|(simp [go_sem];done)|(simp [go_sem,World.cell?];done)))))
   ·rw [show Rd.bC false bh 2= [42,39] by simp [Rd.bC,c]]
    (refine .inr ⟨_, ?_, ?_,rfl, ?_⟩;(focus (first|omega|(simp;done)|(simp;omega)));(focus (first|(simp;done)|(simp;omega)));(focus (intro j x hj;rcases j with _|_|_|j <;> simp [Rd.bC]at hj <;> (try subst hj) <;> (first|(simp [go_sem];done)|(simp [go_sem,World.cell?];done)))))
   ·rw [show Rd.bC false bh 3= [51] by simp [Rd.bC,c]]
    (refine .inr ⟨_, ?_, ?_,rfl, ?_⟩;(focus (first|omega|(simp;done)|(simp;omega)));(focus (first|(simp;done)|(simp;omega)));(focus (intro j x hj;rcases j with _|_|_|j <;> simp [Rd.bC]at hj <;> (try subst hj) <;> (first|(simp [go_sem];done)|(simp [go_sem,World.cell?];done)))))
   ·rw [show Rd.bC false bh 4= [] by simp [Rd.bC,c]]
    (exact .inl ⟨rfl,rfl⟩)
  ·have c2:decide (bh=1)=false:=decide_eq_false c
   go_wp2_with fail
   refine bodyPost_ret (v:= .agg #[(25:Int),.slice (some ⟨w.1.size+1,0,none⟩) 1 1,(34:Int),.slice (some ⟨w.1.size+1+1,0,none⟩) 3 3,(44:Int),.slice (some ⟨w.1.size+1+1+1,0,none⟩) 2 2,(51:Int),.slice none 0 0,(53:Int),.slice none 0 0]) (by simp [results,Tryz.results164,go_sem]) rfl ?_
   refine⟨fun q=>match q with|0=> .slice (some ⟨w.1.size+1,0,none⟩) 1 1|1=> .slice (some ⟨w.1.size+1+1,0,none⟩) 3 3|2=> .slice (some ⟨w.1.size+1+1+1,0,none⟩) 2 2|3=> .slice none 0 0|_=> .slice none 0 0,by simp [Rd.iC,c], ?_,bel⟩
   intro q hq
   rcases(show q=0∨q=1∨q=2∨q=3∨q=4 by omega)with rfl|rfl|rfl|rfl|rfl
   ·rw [show Rd.bC false bh 0= [22] by simp [Rd.bC,c]]
    (refine .inr ⟨_, ?_, ?_,rfl, ?_⟩;(focus (first|omega|(simp;done)|(simp;omega)));(focus (first|(simp;done)|(simp;omega)));(focus (intro j x hj;rcases j with _|_|_|j <;> simp [Rd.bC]at hj <;> (try subst hj) <;> (first|(simp [go_sem];done)|(simp [go_sem,World.cell?];done)))))
   ·rw [show Rd.bC false bh 1= [27,29,32] by simp [Rd.bC,c]]
    (refine .inr ⟨_, ?_, ?_,rfl, ?_⟩;(focus (first|omega|(simp;done)|(simp;omega)));(focus (first|(simp;done)|(simp;omega)));(focus (intro j x hj;rcases j with _|_|_|j <;> simp [Rd.bC]at hj <;> (try subst hj) <;> (first|(simp [go_sem];done)|(simp [go_sem,World.cell?];done)))))
   ·rw [show Rd.bC false bh 2= [42,39] by simp [Rd.bC,c]]
    (refine .inr ⟨_, ?_, ?_,rfl, ?_⟩;(focus (first|omega|(simp;done)|(simp;omega)));(focus (first|(simp;done)|(simp;omega)));(focus (intro j x hj;rcases j with _|_|_|j <;> simp [Rd.bC]at hj <;> (try subst hj) <;> (first|(simp [go_sem];done)|(simp [go_sem,World.cell?];done)))))
   ·rw [show Rd.bC false bh 3= [] by simp [Rd.bC,c]]
    (exact .inl ⟨rfl,rfl⟩)
   ·rw [show Rd.bC false bh 4= [] by simp [Rd.bC,c]]
    (exact .inl ⟨rfl,rfl⟩)
 ·by_cases c:bh=1
  ·have c2:decide (bh=1)=true:=decide_eq_true c
   go_wp2_with fail
   refine bodyPost_ret (v:= .agg #[(0:Int),.slice none 0 0,(0:Int),.slice none 0 0,(44:Int),.slice (some ⟨w.1.size+1+1+1,0,none⟩) 2 2,(52:Int),.slice (some ⟨w.1.size+1+1+1+1+1,0,none⟩) 1 1,(53:Int),.slice none 0 0]) (by simp [results,Tryz.results164,go_sem]) rfl ?_
   refine⟨fun q=>match q with|0=> .slice none 0 0|1=> .slice none 0 0|2=> .slice (some ⟨w.1.size+1+1+1,0,none⟩) 2 2|3=> .slice (some ⟨w.1.size+1+1+1+1+1,0,none⟩) 1 1|_=> .slice none 0 0,by simp [Rd.iC,c], ?_,bel⟩
   intro q hq
   rcases(show q=0∨q=1∨q=2∨q=3∨q=4 by omega)with rfl|rfl|rfl|rfl|rfl
   ·rw [show Rd.bC true bh 0= [] by simp [Rd.bC,c]]
    (exact .inl ⟨rfl,rfl⟩)
   ·rw [show Rd.bC true bh 1= [] by simp [Rd.bC,c]]
    (exact .inl ⟨rfl,rfl⟩)
   ·rw [show Rd.bC true bh 2= [42,39] by simp [Rd.bC,c]]
    (refine .inr ⟨_, ?_, ?_,rfl, ?_⟩;(focus (first|omega|(simp;done)|(simp;omega)));(focus (first|(simp;done)|(simp;omega)));(focus (intro j x hj;rcases j with _|_|_|j <;> simp [Rd.bC]at hj <;> (try subst hj) <;> (first|(simp [go_sem];done)|(simp [go_sem,World.cell?];done)))))
   ·rw [show Rd.bC true bh 3= [51] by simp [Rd.bC,c]]
    (refine .inr ⟨_, ?_, ?_,rfl, ?_⟩;(focus (first|omega|(simp;done)|(simp;omega)));(focus (first|(simp;done)|(simp;omega)));(focus (intro j x hj;rcases j with _|_|_|j <;> simp [Rd.bC]at hj <;> (try subst hj) <;> (first|(simp [go_sem];done)|(simp [go_sem,World.cell?];done)))))
   ·rw [show Rd.bC true bh 4= [] by simp [Rd.bC,c]]
    (exact .inl ⟨rfl,rfl⟩)
  ·have c2:decide (bh=1)=false:=decide_eq_false c
   go_wp2_with fail
   refine bodyPost_ret (v:= .agg #[(0:Int),.slice none 0 0,(0:Int),.slice none 0 0,(44:Int),.slice (some ⟨w.1.size+1+1+1,0,none⟩) 2 2,(51:Int),.slice none 0 0,(53:Int),.slice none 0 0]) (by simp [results,Tryz.results164,go_sem]) rfl ?_
   refine⟨fun q=>match q with|0=> .slice none 0 0|1=> .slice none 0 0|2=> .slice (some ⟨w.1.size+1+1+1,0,none⟩) 2 2|3=> .slice none 0 0|_=> .slice none 0 0,by simp [Rd.iC,c], ?_,bel⟩
   intro q hq
   rcases(show q=0∨q=1∨q=2∨q=3∨q=4 by omega)with rfl|rfl|rfl|rfl|rfl
   ·rw [show Rd.bC true bh 0= [] by simp [Rd.bC,c]]
    (exact .inl ⟨rfl,rfl⟩)
   ·rw [show Rd.bC true bh 1= [] by simp [Rd.bC,c]]
    (exact .inl ⟨rfl,rfl⟩)
   ·rw [show Rd.bC true bh 2= [42,39] by simp [Rd.bC,c]]
    (refine .inr ⟨_, ?_, ?_,rfl, ?_⟩;(focus (first|omega|(simp;done)|(simp;omega)));(focus (first|(simp;done)|(simp;omega)));(focus (intro j x hj;rcases j with _|_|_|j <;> simp [Rd.bC]at hj <;> (try subst hj) <;> (first|(simp [go_sem];done)|(simp [go_sem,World.cell?];done)))))
   ·rw [show Rd.bC true bh 3= [] by simp [Rd.bC,c]]
    (exact .inl ⟨rfl,rfl⟩)
   ·rw [show Rd.bC true bh 4= [] by simp [Rd.bC,c]]
    (exact .inl ⟨rfl,rfl⟩)
end
section
open Go.ChangeShapes Go.WideShapes Go.ChangeAt Go.RowKit Go.Lib Go.Sort Go.Shelf
theorem Il.Own.but{g:Nat}{w w':World}{B:Nat}{v:Value}{l:List Int}(h:Il.Own w B v l)(hb:But g w w')(hg:g<B):Il.Own w' B v l:=by
 refine World.ownsRow.kept h (row:=some g) ⟨hb.os,hb.tape,hb.output,hb.size,fun k hk hne=>hb.block k hk (fun e=>hne (by rw [e]))⟩ ?_
 rcases hv:v.ownBlock with _|k
 ·exact .inl rfl
 ·refine .inr fun e=> ?_
  have:=(World.ownsRow.lt h k hv).1
  cases e
  omega
def PO(w:World)(g B:Nat)(vs:Nat->Value)(L:Nat->List Int):Prop:=
 g<B/\g<w.1.size/\(∀i,w.frozen? ⟨g,i,none⟩=false)/\(∀q,q<5->w.cell? ⟨g,q,none⟩=some (vs q)/\Il.Own w B (vs q) (L q))/\∀q q',q<5->q'<5->q≠q'->(vs q).ownBlock=none∨(vs q).ownBlock≠(vs q').ownBlock
theorem PO.below{w w':World}{g B:Nat}{vs:Nat->Value}{L:Nat->List Int}(h:PO w g B vs L)(hb:Below w.1.size w w'):PO w' g B vs L:=by
 obtain⟨h1,h2,h3,h4,h5⟩:=h
 exact⟨h1,Nat.lt_of_lt_of_le h2 hb.size,fun i=>(hb.frozen (p:=⟨g,i,none⟩) h2).trans (h3 i),fun q hq=>⟨(hb.cell (p:=⟨g,q,none⟩) h2).trans (h4 q hq).1,(h4 q hq).2.below hb⟩,h5⟩
theorem PO.put{w w7:World}{g B k:Nat}{vs:Nat->Value}{L:Nat->List Int}{v7:Value}{x:Int}(h:PO w g B vs L)(hk:k<5)(hown:Il.Own w7 B v7 (L k++ [x]))(hg:w.grownBy w7 (vs k).ownBlock)(hblk:v7.ownBlock=(vs k).ownBlock∨v7.ownBlock=some w.1.size):
  PO (w7.setCell ⟨g,k,none⟩ v7) g B (fun q=>if q=k then v7 else vs q) (fun q=>if q=k then L k++ [x]else L q):=by
 obtain⟨h1,h2,h3,h4,h5⟩:=h
 have hne:some g≠(vs k).ownBlock:=fun e=>by have:=(World.ownsRow.lt (h4 k hk).2 g e.symm).1;omega
 have hgb:=hg.block g h2 hne
 have hS:But g w7 (w7.setCell ⟨g,k,none⟩ v7):=But.set (But.of (Below.refl _ _)) _ _
 have hlt:∀q,q<5->∀b,(vs q).ownBlock=some b->b<w.1.size:=fun q hq b e=>(World.ownsRow.lt (h4 q hq).2 b e).2
 refine⟨h1, ?_,fun i=> ?_,fun q hq=> ?_,fun q q' hq hq' hd=> ?_⟩
 ·have:=hg.size
  simp [World.setCell]
  omega
 ·rw [World.frozen?_setCell,World.frozen?_of_block (w:=w) (a:=⟨g,i,none⟩) hgb]
  exact h3 i
 ·have hc:w7.cell? ⟨g,q,none⟩=some (vs q):=(World.cell?_of_block (w:=w) (a:=⟨g,q,none⟩) hgb).trans (h4 q hq).1
  by_cases e:q=k
  ·subst e
   simp only [if_true]
   exact⟨World.cell?_setCell_same _ _ _ hc,Il.Own.but hown hS h1⟩
  ·dsimp only
   rw [if_neg e,if_neg e]
   exact⟨(World.cell?_setCell_other _ _ _ _ (by simpa using e)).trans hc,Il.Own.but (World.ownsRow.kept (h4 q hq).2 hg (h5 q k hq hk e)) hS h1⟩
 ·dsimp only
  by_cases e:q=k
  ·have e':q'≠k:=fun e'=>hd (e.trans e'.symm)
   rw [if_pos e,if_neg e']
   rcases hblk with hb|hb
   ·rw [hb,←e];exact h5 q q' hq hq' hd
   ·exact .inr fun e2=>by have:=hlt q' hq' _ (e2.symm.trans hb);omega
  ·rw [if_neg e]
   by_cases e':q'=k
   ·rw [if_pos e']
    rcases hblk with hb|hb
    ·rw [hb,←e'];exact h5 q q' hq hq' hd
    ·refine .inr fun e2=> ?_
     have:=hlt q hq _ (e2.trans hb)
     omega
   ·rw [if_neg e']
    exact h5 q q' hq hq' hd
namespace Rd
def sel(part:Int->Nat)(l:List Int)(q:Nat):List Int:=l.filter fun d=>part d==q
theorem YL(part:Int->Nat)(l:List Int)(j:Nat)(d:Int)(hd:l[j]? =some d):sel part (l.take (j+1))=fun q=>if q=part d then sel part (l.take j) (part d)++ [d]else sel part (l.take j) q:=by
 funext q
 unfold sel
 rw [List.take_add_one,hd,List.filter_append]
 by_cases e:q=part d
 ·subst e;simp
 ·rw [if_neg e]
  have:(part d==q)=false:=by simpa using fun h=>e h.symm
  simp [this]
theorem U3(part:Int->Nat)(l:List Int)(q:Nat):(sel part l q).length<=l.length:=List.length_filter_le _ _
end Rd
end
end Go.Proofs.YtljbnicolhhicaaGreatDoor
