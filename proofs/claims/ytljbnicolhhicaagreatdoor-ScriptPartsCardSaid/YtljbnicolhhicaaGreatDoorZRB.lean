import Derived.Test.YtljbnicolhhicaaGreatDoorZRA
import Derived.Test.YtljbnicolhhicaaGreatDoorZTL
set_option maxHeartbeats 8000000
set_option maxRecDepth 100000
set_option linter.unusedSimpArgs false
set_option linter.unusedVariables false
namespace Go.Proofs.YtljbnicolhhicaaGreatDoor
section
open Go.ChangeShapes Go.WideShapes Go.ChangeAt Go.RowKit Go.Lib Go.Sort Go.Shelf
theorem Na{P:Program}(w:World){o:Oper}{a:Act}{K:Act->World->Prop}{Q:Exit->Act->World->Prop}(s x:Operand)(t:TypeId)
  (ho:o.op= .call {callee:= .builtin .append,args:= #[s,x],argTypes:= #[t,t]})
  (base:Nat) (e:TypeId) (i:TypeInfo) (z:Value) (size bytes:Nat) (ht:P.underlying t=some (.slice e)) (hi:P.info? e=some i) (hz:i.zero=some z)
  (hsize:i.size=size) (hby:i.bytes=bytes) (hzs:z.cells.size=size) (hsz:0<size)
  (v:Value) (n:Nat) (xs:List Value) (hs:a.eval s=v) (hown:w.ownsRow base e size v n xs)
  (ad:Addr) (m c:Nat) (news:List Value) (hx:a.eval x= .slice (some ad) m c) (hl:news.length=m*size) (hnews:∀j u,news[j]? =some u->w.cell? (ad.add j)=some u) (h1:∀u∈news,u.oneCell'=true)
  (h63:n+m<=maxLen) (hbytes:(n+m)*bytes<=140737488355328) (hbase:base<=w.1.size)
  (h:∀v' w',w'.ownsRow base e size v' (n+m) (xs++news)->w.grownBy w' v.ownBlock->K (a.put o.dst v') w'):
  Oper.wp P o a w K Q:=by
 obtain⟨v',w',hr,h2,h3,h4,h5⟩:=run_append_own_at (P:=P) w base t o.type e i z size bytes ht hi hz hsize hby hzs hsz v n xs hown ad m c news hl hnews h1 h63 hbytes hbase
 unfold Oper.wp execOp
 simp only [ho,resolve,invoke,builtin,Sem.run_bind,Sem.run_pure,Result.andThen_ok,List.map_toArray,List.map_cons,List.map_nil,hs,hx,hr]
 exact h v' w' h2 h3
theorem Il.Row.far{w w':World}{v:Value}{l:List Int}(h:Il.Row w v l)(H:∀k,k<w.1.size->w'.1[k]? =w.1[k]?):Il.Row w' v l:=by
 rcases h with h|⟨b,off,cap,rfl,hc⟩
 ·exact .inl h
 ·exact .inr ⟨b,off,cap,rfl,fun j x hj=>(World.cell?_of_block (w:=w) (a:=⟨b,off+j,none⟩) (H b (World.block_lt_of_cell? w _ (hc j x hj)))).trans (hc j x hj)⟩
theorem Rd.abF(last n len:Int)(J:List Int):Rd.few last n len J<=J.length:=by unfold Rd.few;omega
theorem Rd.abS(last n len:Int)(J:List Int):max 0 (min (last-n+1-len) (J.length:Int))=(Rd.few last n len J:Int):=by unfold Rd.few;omega
theorem Y4(ds J:List Int)(last nx:Int)(c lo:Nat)(vd vt:Value)(w:World)(hd60:ds.length<=60)(hJ:J.length<=100)(b1: -1000<=last/\last<=1000)(b2: -1000<=nx/\nx<=1000)
  (hc:fP w c nx) (HD:Hid (∀W,But c w W->Il.Row W vd ds)) (HL:Rd.Lit w lo vt J) (hlo:c<lo):
  Calls Tryo.prog 189 #[vd,.agg #[last,vt],.pointer (some ⟨c,0,none⟩)] w fun e w'=>∃v,e= .returned v/\Rd.Own w' w.1.size v (Rd.run (J.take (Rd.few last nx ds.length J)) nx ds).2/\fP w' c (Rd.run (J.take (Rd.few last nx ds.length J)) nx ds).1/\But c w w':=by
 have hfe:=Rd.abS last nx ds.length J
 have hfl:=Rd.abF last nx ds.length J
 rcases HL with ⟨rfl,rfl⟩|⟨b,hb1,hb2,rfl,hcs⟩
 ·have h0:Rd.few last nx ds.length []=0:=by simpa using hfl
  rw [h0]at hfe⊢
  exact Jp ds [] [] ds.length 0 last nx c 0 vd (.slice none 0 0) none none 0 0 w rfl (Lib.hid rfl) rfl vO hd60 b1 b2 hc HD (Lib.hid fun W _=> .inl ⟨rfl,rfl⟩) hfe (fun W=>by simp [Instr.slice,go_sem])
 ·generalize Rd.few last nx ds.length J=M at hfe hfl⊢
  refine Jp ds (J.take M) [] ds.length M last nx c J.length vd (.slice (some ⟨b,0,none⟩) M J.length) _ (some ⟨b,0,none⟩) J.length J.length w rfl (Lib.hid rfl) (by rw [List.length_take];omega) vO hd60 b1 b2 hc HD (Lib.hid fun W hW=> .inr ⟨b,0,J.length,by rw [List.length_take];congr 1;omega,fun j x hj=> ?_⟩) hfe (fun W=> ?_)
  ·rw [Nat.zero_add]
   have hj2:J[j]? =some x:=by
    rw [List.getElem?_take]at hj
    split at hj
    ·exact hj
    ·cases hj
   exact(hW.cell hb2 vO).trans (hcs j x hj2)
  ·have hm:(M:Int)<=(J.length:Int):=vO
   have h0:(0:Int)<=(M:Int):=vO
   simp [Instr.slice,go_sem,hm,h0]
end
section
open Go.ChangeShapes Go.WideShapes Go.ChangeAt Go.RowKit Go.Lib Go.Sort Go.Shelf
theorem WT(w:World):
  Calls Tryo.prog 163 #[] w fun e w'=>∃c,e= .returned (.func (.func 189) #[] #[.pointer (some ⟨c,0,none⟩)])/\fP w' c 1/\w.1.size<=c/\Below w.1.size w w':=by
 go_enter (vF Tryz.func163),Tryz.ntmps163
 go_wp2_with fail
 go_ret
 refine⟨_,rfl,⟨vG,fun i=>by simp [go_sem],vS⟩,Nat.le_refl _,bel⟩
namespace Rd
def ny(leap:Bool)(bh:Int)(L:Nat->List Int):Nat->Int×List Rd
 |0=>(1,[])
 | q+1=>
  ((run ((bC leap bh q).take (few (iC leap bh q) (ny leap bh L q).1 (L q).length (bC leap bh q))) (ny leap bh L q).1 (L q)).1,
   (ny leap bh L q).2++(run ((bC leap bh q).take (few (iC leap bh q) (ny leap bh L q).1 (L q).length (bC leap bh q))) (ny leap bh L q).1 (L q)).2)
theorem Tt{leap:Bool}{bh:Int}{L:Nat->List Int}{q:Nat}{N:Int}{S:List Rd}(h:ny leap bh L q=(N,S)):ny leap bh L (q+1)=((run ((bC leap bh q).take (few (iC leap bh q) N (L q).length (bC leap bh q))) N (L q)).1,S++(run ((bC leap bh q).take (few (iC leap bh q) N (L q).length (bC leap bh q))) N (L q)).2):=by
 rw [ny,h]
theorem Yx(leap:Bool)(bh:Int)(q:Nat): -1000<=iC leap bh q/\iC leap bh q<=1000:=by unfold iC;split <;> (try split) <;> omega
theorem Wp(leap:Bool)(bh:Int)(q:Nat):(bC leap bh q).length<=100:=by unfold bC;split <;> (try split) <;> simp
end Rd
theorem Hy(y pl:Int)(leap:Bool)(l:List Int)(n:Nat)(part:Int->Nat)(w:World)(hl:l.length=n)(hn:n<=60)(hT:Tab w 6 kevCells)(hL:Tab w 4 lenCells)(hF:Tab w 7 Fe.cells)
  (HD:Hid (∀d∈l,part d<5)) (HNE:Hid (∀q,q<5->0<(Rd.sel part l q).length))
  (HFr:Hid (∀w:World,Tab w 6 kevCells->Tab w 4 lenCells->Tab w 7 Fe.cells->Calls Tryo.prog 161 #[y,pl] w fun e w'=>∃v,e= .returned (.tuple #[v,(0:Int)])/\Il.Own w' w.1.size v l/\Below w.1.size w w'))
  (HLe:Hid (∀w:World,vC 43 #[y] w (.tuple #[leap,(0:Int)])))
  (HPt:Hid (∀d∈l,∀w:World,Tab w 6 kevCells->Tab w 4 lenCells->Tab w 7 Fe.cells->vB 162 #[y,d] w (.tuple #[.int .i64 ((part d:Int)+1),(0:Int)]))):
  Calls Tryo.prog 133 #[y,pl] w fun e w'=>∃v,e= .returned (.tuple #[v,(0:Int)])/\Rd.Own w' w.1.size v (Rd.ny leap ((Rd.sel part l 4).length:Int) (Rd.sel part l) 5).2/\Below w.1.size w w':=by
 obtain⟨i0,hi,hz0,hz1,hz2⟩:=info_parts JL
 obtain⟨r0,hri,hrz0,hrz1,hrz2⟩:=info_parts Rd.info
 go_enter (vF Tryz.func133),Tryz.ntmps133
 go_wp2_with fail
 refine(HFr.out _ (Tab.below hT bel) (Tab.below hL bel) (Tab.below hF bel)).mono ?_
 rintro e w1 ⟨v1,rfl,ho1,hb1⟩
 have hr1:=ho1.row
 obtain⟨p1,c1,rfl⟩:=hr1.len
 rw [hl]
 have HN:=Lib.hid hl
 clear hl ho1 HFr
 have hB1:Below w.1.size w w1:=bel
 go_wp2_with fail
 refine vW (HLe.out _) ?_
 go_wp2_with fail
 go_loopw [37] (fun i wr=>∃ (j:Nat) (vs:Nat->Value),j<=n/\i= .int .i64 (j:Int)/\PO wr w1.1.size (w1.1.size+1) vs (Rd.sel part (l.take j))/\Below w1.1.size w1 wr) (fun i _=>n-(intOf i).toNat)
 case atStart=>
  refine⟨0,fun _=> .slice none 0 0,Nat.zero_le _,rfl,⟨vO,vS,fun i=>by simp [go_sem],fun q hq=>⟨?_,Il.Own.nil _ _⟩,fun q q' _ _ _=> .inl rfl⟩,bel⟩
  rcases(show q=0∨q=1∨q=2∨q=3∨q=4 by omega)with rfl|rfl|rfl|rfl|rfl <;> simp [go_sem]
 case round=>
  obtain⟨j,vs,hj,rfl,HP,hB⟩:=hrel
  obtain⟨w9,rfl⟩:∃x,x=wr:=⟨_,rfl⟩
  have hBw:Below w.1.size w w9:=bt hB1 hB
  by_cases hlt:j<n
  ·obtain⟨D,hx⟩:∃x,l[j]? =some x:=⟨_,List.getElem?_eq_getElem (by rw [HN.out];exact hlt)⟩
   have HX:=Lib.hid (Rd.YL part l j D hx)
   have hk:=HD.out D (List.mem_of_getElem? hx)
   have HPd:=Lib.hid (HPt.out D (List.mem_of_getElem? hx))
   obtain⟨b,off,cc,hp1,hc⟩:=(hr1.below hB).kI (by rw [HN.out];omega)
   rw [HN.out]at hp1
   simp only [Value.slice.injEq]at hp1
   obtain⟨rfl,_,rfl⟩:=hp1
   have cx1:=hc j D hx
   have lx:=World.block_lt_of_cell? _ _ cx1
   dsimp only at lx cx1
   have j0:(0:Int)<=(j:Int):=vO
   have j1:(j:Int)<(n:Int):=vO
   obtain⟨k,hkk⟩:∃k,k=part D:=⟨_,rfl⟩
   have HK:=Lib.hid hkk
   rw [←hkk]at hk HPd HX
   obtain⟨P,hP⟩:∃P:Int,P=(k:Int)+1:=⟨_,rfl⟩
   rw [←hP]at HPd
   have e1:wrap64 (P-1)=(k:Int):=by rw [hP,Int.add_sub_cancel];exact IntWalk.wrap64_in _ ⟨vO,vO⟩
   have k0:(0:Int)<=(k:Int):=vO
   have k1:(k:Int)<5:=vO
   have HLn:=Rd.U3 part (l.take j) k
   have HLm:(l.take j).length<=60:=by rw [List.length_take];omega
   clear hc hx hkk hP
   go_wp2_with fail
   refine(HPd.out _ (Tab.below hT bel) (Tab.below hL bel) (Tab.below hF bel)).mono ?_
   rintro e w2 ⟨rfl,hb2⟩
   have hB2:Below w9.1.size w9 w2:=bel
   have HP2:=Lib.hid (HP.below hB2)
   obtain⟨a1,a2,a3,a4,_⟩:=HP2.out
   obtain⟨a5,a6⟩:=a4 k hk
   clear a4
   have HVL:∃p L c,vs k= .slice p L c:=⟨_,_,_,(a6.row.len.choose_spec.choose_spec)⟩
   go_wp2_with (have HX7:w2.ownsRow (w1.1.size+1) 3 1 (vs k) (Rd.sel part (l.take j) k).length (Il.vals (Rd.sel part (l.take j) k)):=a6;at_builtin;go_loud (refine wpList_append_own_at _ rfl (.tmp 55) (.tmp 57) 154 rfl (w1.1.size+1) 3 i0 (.int .i64 0) 1 8 (aB Tryz.underlying154) hi hz0 hz1 hz2 rfl vD (vs k) (Rd.sel part (l.take j) k).length (Il.vals (Rd.sel part (l.take j) k)) rfl (HX7.alloc _) ⟨w2.1.size,0,none⟩ 1 1 [.int .i64 _] rfl rfl (O7 _ _) (Ua _) (by simp only [maxLen];omega) vO (by first|assumption|(simp;omega)|omega) ?_;intro v7 w7 hown7 hgrow7 _ hblk7;obtain⟨p7,m7,cc7,rfl⟩:∃p m c,v7= .slice p m c:=⟨_,_,_,(Il.Own.row (Il.iJ rfl hown7)).len.choose_spec.choose_spec⟩;have HQ7:=Lib.hid (PO.put (PO.below HP2.out (ba _ _)) hk (Il.iJ rfl hown7) hgrow7 hblk7);have hf7:=(World.frozen?_of_block (w:=w2) (a:=⟨w1.1.size,k,none⟩) ((hgrow7.block w1.1.size vQ (fun e=>by have:=(World.ownsRow.lt HX7 _ e.symm).1;omega)).trans (heap_alloc_old w2 _ a2))).trans (a3 k);have hc7:=(World.cell?_of_block (w:=w2) (a:=⟨w1.1.size,k,none⟩) ((hgrow7.block w1.1.size vQ (fun e=>by have:=(World.ownsRow.lt HX7 _ e.symm).1;omega)).trans (heap_alloc_old w2 _ a2))).trans a5))
   go_roundw
   case rel=>
    refine⟨j+1,_,vO,by go_num,by rw [HX.out];exact HQ7.out, ?_⟩
    have hb7:Below w1.1.size w1 w7:=oG bel hgrow7 (fun b e=>by have:=(World.ownsRow.lt HX7 b e).1;omega)
    exact bs hb7 (Nat.le_refl _) _
   case measure=>simp [intOf];omega
  ·obtain rfl:j=n:=vO
   have HT:=Lib.hid (show l.take j=l from List.take_of_length_le (by rw [HN.out];exact Nat.le_refl _))
   rw [HT.out]at HP
   clear hlt
   have H4:∃p c,vs 4= .slice p (Rd.sel part l 4).length c:=(HP.2.2.2.1 4 vO).2.row.len
   obtain⟨p4,c4,e4⟩:=H4
   obtain⟨n4,hn4⟩:∃x,x=(Rd.sel part l 4).length:=⟨_,rfl⟩
   have HN4:=Lib.hid hn4
   rw [←hn4]at e4
   have HPH:=Lib.hid HP
   have HB:=Lib.hid hBw
   clear HPt HT hn4
   go_wp2_with fail
   refine(WT _).mono ?_
   rintro e w2 ⟨c,rfl,HC,hcg,hb2⟩
   have HP2:=HPH.out.below (show Below w9.1.size w9 w2 from bel)
   obtain⟨a1,a2,a3,a4,_⟩:=HP2
   have a5:=(a4 4 vO).1
   rw [e4]at a5
   have hB2:Below w9.1.size w9 w2:=bel
   clear a4
   go_wp2_with fail
   refine(ZV _ _ _).mono ?_
   rintro e w3 ⟨t,rfl,HLt,hb3⟩
   have hcl:c<w2.1.size:=HC.2.2
   have hz9:=hB2.size
   have hz3:=hb3.size
   have hB93:Below w9.1.size w9 w3:=bel
   have HC3:=Lib.hid (HC.below hb3)
   have HP3:=Lib.hid (HPH.out.below hB93)
   have HBW3:=Lib.hid (show Below w.1.size w w3 from bt HB.out hB93)
   have hws:=HB.out.size
   have HTF:Hid (∀j,j<5->∃p m q,t j= .slice p m q):=Lib.hid fun j hj=>by
    rcases HLt j hj with ⟨h,_⟩|⟨b,_,_,h,_⟩
    ·exact⟨_,_,_,h⟩
    ·exact⟨_,_,_,h⟩
   have HLI:=Lib.hid HLt
   have HIX:Hid (∀j:Nat,j<5->∀W,(Instr.index 197 (.agg #[Rd.iC leap (n4:Int) 0,t 0,Rd.iC leap (n4:Int) 1,t 1,Rd.iC leap (n4:Int) 2,t 2,Rd.iC leap (n4:Int) 3,t 3,Rd.iC leap (n4:Int) 4,t 4]) (.int .i64 (j:Int))).run Tryo.prog W= .ok (.agg #[Rd.iC leap (n4:Int) j,t j]) W):=Lib.hid fun j hj W=>by
    rcases(show j=0∨j=1∨j=2∨j=3∨j=4 by omega)with rfl|rfl|rfl|rfl|rfl <;> simp [Instr.index,go_sem]
   obtain⟨A,hA⟩:∃A,A=Value.agg #[Rd.iC leap (n4:Int) 0,t 0,Rd.iC leap (n4:Int) 1,t 1,Rd.iC leap (n4:Int) 2,t 2,Rd.iC leap (n4:Int) 3,t 3,Rd.iC leap (n4:Int) 4,t 4]:=⟨_,rfl⟩
   rw [←hA]at HIX
   rw [←hA]
   clear hA HLt HC a1 a2 a3 a5
   go_wp2_with fail
   go_loopw [14,67] (fun v i wr=>∃ (j:Nat) (N:Int) (S:List Rd),j<=5/\i= .int .i64 (j:Int)/\Hid (Rd.ny leap (n4:Int) (Rd.sel part l) j=(N,S))/\S.length<=60*j/\(1<=N/\N<=1+120*(j:Int))/\Rd.Own wr w3.1.size v S/\fP wr c N/\But c w3 wr) (fun _ i _=>5-(intOf i).toNat)
   case atStart=>exact⟨0,1,[],vO,rfl,Lib.hid rfl,vS,vO,Rd.Own.nil _ _,HC3.out,But.of (Below.refl _ _)⟩
   case round=>
    obtain⟨q,N,S,hq5,rfl,HR,hlen,hN,HO,HCr,hB5⟩:=hrel
    obtain⟨w5,rfl⟩:∃x,x=wr:=⟨_,rfl⟩
    have hs5:=hB5.size
    by_cases hlt:q<5
    ·obtain⟨pt,mt,ct,et⟩:=HTF.out q hlt
     have hix:=HIX.out q hlt
     have HLj:=Lib.hid (HLI.out q hlt)
     rw [et]at hix HLj
     obtain⟨o1,o2,o3,o4,_⟩:=HP3.out
     obtain⟨x1,x2⟩:=o4 q hlt
     have HRow:=Lib.hid ((HPH.out).2.2.2.1 q hlt).2.row
     obtain⟨pj,cj,ej⟩:=HRow.out.len
     rw [ej]at HRow x1
     have hdl:=Rd.U3 part l q
     have hdp:=HNE.out q hlt
     have hl60:(Rd.sel part l q).length<=60:=by have:=HN.out;omega
     have HNX:=Lib.hid (Rd.Tt HR.out)
     have hlb:=Rd.Yx leap (n4:Int) q
     have hpl:=Rd.Wp leap (n4:Int) q
     generalize Rd.iC leap (n4:Int) q=last at hix hlb HNX
     generalize Rd.bC leap (n4:Int) q=J at hpl HNX HLj
     generalize Rd.sel part l q=ds at hl60 hdp HNX HRow x1
     have HRd:=Lib.hid (fun(W:World) (h1:fP W c N) (h2:But c w9 W) (h3:Rd.Lit W w2.1.size (.slice pt mt ct) J)=>Y4 ds J last N c w2.1.size (.slice pj ds.length cj) (.slice pt mt ct) W hl60 hpl hlb vO h1 (Lib.hid fun W' hW'=>Il.Row.far HRow.out (fun k hk=>(h2.trans hW').block k hk vO)) h3 hcl)
     have hrl:=Rd.Zw (J.take (Rd.few last N ds.length J)) N ds
     have hrb:=Rd.abw (J.take (Rd.few last N ds.length J)) N ds
     obtain⟨R,hR⟩:∃R,R=Rd.run (J.take (Rd.few last N ds.length J)) N ds:=⟨_,rfl⟩
     rw [←hR]at HRd hrl hrb HNX
     have HRL:=Lib.hid hrl
     have HRB:=Lib.hid hrb
     obtain⟨nd,hnd⟩:∃x,x=ds.length:=⟨_,rfl⟩
     rw [←hnd]at HRd x1 hl60 hdp
     have HND:=Lib.hid hnd
     have hgc:w1.1.size≠c:=by have:=HPH.out.2.1;omega
     have cg:=(hB5.cell (o:=q) vO hgc).trans x1
     have lg:w1.1.size<w5.1.size:=vO
     have j0:(0:Int)<=(q:Int):=vO
     have j1:(q:Int)<5:=vO
     have HCR:=Lib.hid HCr
     have HOO:=Lib.hid HO
     clear hrl hrb hR hnd o3 o4 x1 x2 ej et HCr HO
     go_wp2_with fail
     refine fE 6 vK ?_
     refine up 0 (v:= ?_) rfl ?_ ?_
     rotate_left 1
     ·first|(intro w;go_simp;done)|(intro w;go_simp;with_reducible rfl)
     try simp only [Act.put,List.setIfInBounds_toArray]
     refine up 1 (v:= ?_) rfl ?_ ?_
     rotate_left 1
     ·first|(intro w;go_simp;done)|(intro w;go_simp;with_reducible rfl)
     try simp only [Act.put,List.setIfInBounds_toArray]
     refine up 2 (v:= ?_) rfl ?_ ?_
     rotate_left 1
     ·first|(intro w;go_simp;done)|(intro w;go_simp;with_reducible rfl)
     try simp only [Act.put,List.setIfInBounds_toArray]
     refine up 3 (v:= ?_) rfl ?_ ?_
     rotate_left 1
     ·first|(intro w;go_simp;done)|(intro w;go_simp;with_reducible rfl)
     try simp only [Act.put,List.setIfInBounds_toArray]
     refine ur 4 (v:= ?_) rfl ?_ ?_
     rotate_left 1
     ·first|(go_simp;done)|(go_simp;with_reducible rfl)
     try simp only [Act.put,List.setIfInBounds_toArray]
     refine ur 5 (v:= ?_) rfl ?_ ?_
     rotate_left 1
     ·first|(go_simp;done)|(go_simp;with_reducible rfl)
     try simp only [Act.put,List.setIfInBounds_toArray]
     refine bG (k:=6) rfl vK vK (fun K hK=> ?_)
     go_simp
     refine(HRd.out _ (HCR.out.below bel) (But.bt (But.trans (But.of hB93) hB5) bel) (Rd.Lit.below (Rd.Lit.but HLj.out hB5 hcl) bel)).mono ?_
     rintro e w10 ⟨v10,rfl,HO10,HC10,hB10⟩
     obtain⟨g10,c10,rfl,_⟩:=World.ownsRow.form HO10 (by rw [HRL.out,←HND.out];exact hdp)
     have HS10:w10.ownsRow w3.1.size 78 3 u14 S.length (Rd.flat S):=Rd.Own.but (Rd.Own.below HOO.out bel) hB10 vO
     have hs10:=hB10.size
     refine hK.out _ _ ?_
     clear hK K
     try simp only [Act.put,List.setIfInBounds_toArray]
     refine bG (k:=7) rfl vK vK (fun K hK=> ?_)
     rw [if_pos (by rfl)]
     refine Na w10 (.tmp 71) (.tmp 77) 129 rfl w3.1.size 78 r0 (.agg #[(0:Int),(0:Int),(0:Int)]) 3 24 (aB Tryz.underlying129) hri hrz0 hrz1 hrz2 rfl vD u14 S.length (Rd.flat S) rfl HS10 ⟨g10,0,none⟩ R.2.length c10 (Rd.flat R.2) rfl (Rd.kK _) (fun j u hj=>World.ownsRow.cells HO10 rfl j u hj) (Rd.zw _) (by have:=HRL.out;have:=HND.out;simp only [maxLen];omega) (by have:=HRL.out;have:=HND.out;omega) (by simp at hs10;omega) ?_
     intro v8 w8 hown8 hgrow8
     refine hK.out _ _ ?_
     clear hK K
     try simp only [Act.put,List.setIfInBounds_toArray]
     refine uq 8 (v:= ?_) rfl ?_ ?_
     rotate_left 1
     ·first|(intro w;go_simp;done)|(intro w;go_simp;with_reducible rfl)
     try simp only [Act.put,List.setIfInBounds_toArray]
     refine iQ vK ?_ _
     try simp only [List.getElem_toArray,List.getElem_cons_succ,List.getElem_cons_zero,List.setIfInBounds_toArray,List.set_cons_succ,List.set_cons_zero]
     go_wp2_with fail
     go_roundw
     case rel=>
      have hsz:=(HCR.out).2.2
      exact⟨q+1,R.1,S++R.2,vO,by go_num,Lib.hid HNX.out,by have:=HRL.out;have:=HND.out;rw [List.length_append];omega,by have:=HRB.out;have:=HND.out;omega,Rd.ZW rfl rfl hown8,fP.grown HC10 hgrow8 (fun e=>by have:=(World.ownsRow.lt HS10 _ e).1;omega),But.grown (But.trans (But.bt hB5 bel) hB10) hgrow8 (fun k e=>(World.ownsRow.lt HS10 k e).1)⟩
     case measure=>simp [intOf];omega
    ·obtain rfl:q=5:=vO
     clear hlt
     go_wp2_with fail
     go_ret2
     refine⟨_,rfl, ?_,But.below hB5 HBW3.out vO⟩
     rw [←HN4.out,HR.out]
     exact HO.base HBW3.out.size
end
section
open Go.ChangeShapes Go.WideShapes Go.ChangeAt Go.RowKit Go.Lib Go.Sort Go.Shelf
namespace Rd
def wst(P:List Rd)(s:Nat×List Rd)(d:Int):Nat×List Rd:=
 match P[s.1]? with
 |some r=>if r.2.2=d then(s.1+1,s.2++ [r])else(s.1,s.2++ [(0,0,d)])
 |none=>(s.1,s.2++ [(0,0,d)])
def uN(P:List Rd)(ds:List Int):Nat×List Rd:=ds.foldl (wst P) (0,[])
theorem TM(P:List Rd)(ds:List Int)(j:Nat)(d:Int)(hd:ds[j]? =some d):uN P (ds.take (j+1))=wst P (uN P (ds.take j)) d:=by
 unfold uN
 rw [List.take_add_one,hd,List.foldl_append]
 rfl
theorem Row.tail{w:World}{b off:Nat}{r:Rd}{l:List Rd}(h:∀j u,(flat (r :: l))[j]? =some u->w.cell? ⟨b,off+j,none⟩=some u)(cap:Nat):Row w (.slice (some ⟨b,off+3,none⟩) l.length cap) l:=
 .inr ⟨b,off+3,cap,rfl,fun j u hj=>by
  have e:flat (r :: l)= .int .i64 r.1 :: .int .i64 r.2.1 :: .int .i64 r.2.2 :: flat l:=rfl
  have:=h (j+3) u (by rw [e];simpa using hj)
  rwa [show off+3+j=off+(j+3) by omega]⟩
theorem Row.grown{w w':World}{r:Option Nat}{v:Value}{l:List Rd}(h:Row w v l)(hg:w.grownBy w' r)(hr:∀b off n c,v= .slice (some ⟨b,off,none⟩) n c->some b≠r):Row w' v l:=by
 rcases h with h|⟨b,off,cap,rfl,hc⟩
 ·exact .inl h
 ·exact .inr ⟨b,off,cap,rfl,fun j u hj=>hg.cell (hc j u hj) (hr b off _ _ rfl)⟩
end Rd
theorem SC(y pl:Int)(P:List Rd)(ds:List Int)(n:Nat)(w:World)(hl:ds.length=n)(hn:n<=100)(hT:Tab w 6 kevCells)(hL:Tab w 4 lenCells)(hF:Tab w 7 Fe.cells)
  (HA:Hid (∀w:World,Tab w 6 kevCells->Tab w 4 lenCells->Tab w 7 Fe.cells->Calls Tryo.prog 132 #[y,pl] w fun e w'=>∃v,e= .returned (.tuple #[v,(0:Int)])/\Il.Own w' w.1.size v ds/\Below w.1.size w w'))
  (HP:Hid (∀w:World,Tab w 6 kevCells->Tab w 4 lenCells->Tab w 7 Fe.cells->Calls Tryo.prog 133 #[y,pl] w fun e w'=>∃v,e= .returned (.tuple #[v,(0:Int)])/\Rd.Own w' w.1.size v P/\Below w.1.size w w')):
  Calls Tryo.prog 91 #[y,pl] w fun e w'=>∃v,e= .returned (.tuple #[v,(0:Int)])/\Rd.Own w' w.1.size v (Rd.uN P ds).2/\Below w.1.size w w':=by
 obtain⟨r0,hri,hrz0,hrz1,hrz2⟩:=info_parts Rd.info
 go_enter (vF Tryz.func91),Tryz.ntmps91
 go_wp2_with fail
 refine(HA.out _ (Tab.below hT bel) (Tab.below hL bel) (Tab.below hF bel)).mono ?_
 rintro e w1 ⟨v1,rfl,ho1,hb1⟩
 have hr1:=ho1.row
 obtain⟨p1,c1,rfl⟩:=hr1.len
 rw [hl]
 have HN:=Lib.hid hl
 clear hl ho1 HA
 have hB1:Below w.1.size w w1:=bel
 go_wp2_with fail
 refine(HP.out _ (Tab.below hT bel) (Tab.below hL bel) (Tab.below hF bel)).mono ?_
 rintro e w2 ⟨v2,rfl,ho2,hb2⟩
 have hB12:Below w1.1.size w1 w2:=bel
 have hB2:Below w.1.size w w2:=bt hB1 hB12
 have HR1:=Lib.hid (hr1.below hB12)
 have HR2:Rd.Row w2 v2 (P.drop 0):=ho2.row
 have HZ:Hid (∀b off n c,v2= .slice (some ⟨b,off,none⟩) n c->b<w2.1.size):=Lib.hid fun b off n c e=>(World.ownsRow.lt ho2 b (by rw [e];rfl)).2
 have HK2:Hid (∀p n c,v2= .slice p n c->n<=c):=Lib.hid fun p n c e=>by
  rcases ho2.2 with ⟨rfl,_⟩|⟨g,cap,cur,rfl,_,_,h,_⟩
  ·cases e;omega
  ·cases e;exact h
 obtain⟨p2,n2,c2,rfl⟩:∃p m c,v2= .slice p m c:=⟨_,_,_,HR2.len.choose_spec.choose_spec⟩
 clear hr1 ho2 HP
 go_wp2_with fail
 go_loopw [8,9,32] (fun r v i wr=>∃ (j k:Nat) (S:List Rd),j<=n/\i= .int .i64 (j:Int)/\Hid (Rd.uN P (ds.take j)=(k,S))/\S.length=j/\Rd.Row wr r (P.drop k)/\Hid (∀b off n c,r= .slice (some ⟨b,off,none⟩) n c->b<w2.1.size)/\Hid (∀p n c,r= .slice p n c->n<=c)/\Rd.Own wr w2.1.size v S/\Below w2.1.size w2 wr) (fun _ _ i _=>n-(intOf i).toNat)
 case atStart=>exact⟨0,0,[],Nat.zero_le _,rfl,Lib.hid rfl,rfl,HR2,HZ,HK2,Rd.Own.nil _ _,Below.refl _ _⟩
 case round=>
  obtain⟨j,k,S,hj,rfl,HW,hlen,HRr,HZr,HKr,HO,hB⟩:=hrel
  obtain⟨w9,rfl⟩:∃x,x=wr:=⟨_,rfl⟩
  have hs9:=hB.size
  by_cases hlt:j<n
  ·obtain⟨D,hx⟩:∃x,ds[j]? =some x:=⟨_,List.getElem?_eq_getElem (by rw [HN.out];exact hlt)⟩
   have HX:=Lib.hid (Rd.TM P ds j D hx)
   obtain⟨b,off,cc,hp1,hc⟩:=(HR1.out.below hB).kI (by rw [HN.out];omega)
   rw [HN.out]at hp1
   simp only [Value.slice.injEq]at hp1
   obtain⟨rfl,_,rfl⟩:=hp1
   have cx1:=hc j D hx
   have lx:=World.block_lt_of_cell? _ _ cx1
   dsimp only at lx cx1
   have j0:(0:Int)<=(j:Int):=vO
   have j1:(j:Int)<(n:Int):=vO
   have HO9:w9.ownsRow w2.1.size 78 3 u9 S.length (Rd.flat S):=HO
   have HNB:Hid (∀k,u9.ownBlock=some k->w2.1.size<=k):=Lib.hid fun k e=>(World.ownsRow.lt HO9 k e).1
   clear hc hx
   rcases hP:P[k]? with _|r
   ·have HST:=Lib.hid (show Rd.uN P (ds.take (j+1))=(k,S++ [(0,0,D)]) by rw [HX.out,HW.out];simp [Rd.wst,hP])
    have h0:(P.drop k)= []:=List.drop_eq_nil_of_le (by simpa using hP)
    have HRK:=Lib.hid HRr
    obtain⟨pr,cr,er⟩:=HRr.len
    subst er
    have hm0:(P.drop k).length=0:=by rw [h0];rfl
    rw [hm0]at HRK HZr HKr⊢
    clear h0 hm0 hP HRr
    go_wp2_with (at_builtin;go_loud (refine wpList_append_own_at _ rfl (.tmp 55) (.tmp 58) 129 rfl w2.1.size 78 r0 (.agg #[(0:Int),(0:Int),(0:Int)]) 3 24 (aB Tryz.underlying129) hri hrz0 hrz1 hrz2 rfl vD u9 S.length (Rd.flat S) rfl (HO9.alloc _) ⟨w9.1.size,0,none⟩ 1 1 [.int .i64 _,.int .i64 _,.int .i64 _] rfl rfl (Rd.news _ _ _ _) (Rd.one _ _ _) (by simp only [maxLen];omega) vO (by first|assumption|(simp;omega)|omega) ?_;intro v7 w7 hown7 hgrow7 _ hblk7))
    go_roundw
    case rel=>exact⟨j+1,k,S++ [(0,0,D)],vO,by go_num,HST,by simp [hlen],Rd.Row.grown (Rd.Row.below HRK.out bel) hgrow7 (fun b off n c e e2=>by have h1:=HZr.out b off n c e;have h2:=HNB.out b e2.symm;omega),HZr,HKr,Rd.iJ rfl hown7,oG bel hgrow7 HNB.out⟩
    case measure=>simp [intOf];omega
   ·have hd:P.drop k=r :: P.drop (k+1):=by
     have hk:=(List.getElem?_eq_some_iff.1 hP).1
     rw [List.drop_eq_getElem_cons hk]
     congr 1
     exact(List.getElem?_eq_some_iff.1 hP).2
    have HRK:=Lib.hid HRr
    rw [hd]at HRr HRK
    obtain⟨b2,off2,cc2,er,hc2⟩:=HRr.kI vS
    subst er
    obtain⟨r1,r2,r3⟩:=r
    obtain⟨x1,x2,x3⟩:=Rd.yg hc2 0 (r1,r2,r3) rfl
    simp only [Nat.zero_mul,Nat.add_zero]at x1 x2 x3
    have lx2:=World.block_lt_of_cell? _ _ x1
    dsimp only at lx2
    have HTL:=Lib.hid (Rd.Row.tail hc2)
    obtain⟨m,hm⟩:∃m,m=((r1,r2,r3) :: P.drop (k+1)).length:=⟨_,rfl⟩
    have HM:=Lib.hid hm
    have hm1:1<=m:=by rw [hm];simp
    rw [←hm]at HRK HZr HKr⊢
    have m1:(0:Int)<(m:Int):=vO
    have m2:(1:Int)<=(m:Int):=vO
    clear hm hc2 HRr
    by_cases c:r3=D
    ·subst c
     have HST:=Lib.hid (show Rd.uN P (ds.take (j+1))=(k+1,S++ [(r1,r2,r3)]) by rw [HX.out,HW.out];simp [Rd.wst,hP])
     clear hP hd
     by_cases hcc:cc2=1
     ·have hme:m=1:=by have:=HKr.out _ _ _ rfl;omega
      have HRT:Hid (Rd.Row w9 (.slice (some ⟨b2,off2,none⟩) (m-1) 0) (P.drop (k+1))):=Lib.hid (by
       have h1:(P.drop (k+1)).length=0:=by have:=HM.out;simp only [List.length_cons]at this;omega
       have h2:=List.eq_nil_of_length_eq_zero h1
       rw [h2,hme]
       exact .inr ⟨b2,off2,_,rfl,fun j u hj=>by simp [Rd.flat]at hj⟩)
      clear hme
      go_wp2_with (at_builtin;go_loud (refine wpList_append_own_at _ rfl (.tmp 47) (.tmp 51) 129 rfl w2.1.size 78 r0 (.agg #[(0:Int),(0:Int),(0:Int)]) 3 24 (aB Tryz.underlying129) hri hrz0 hrz1 hrz2 rfl vD u9 S.length (Rd.flat S) rfl (HO9.alloc _) ⟨w9.1.size,0,none⟩ 1 1 [.int .i64 _,.int .i64 _,.int .i64 _] rfl rfl (Rd.news _ _ _ _) (Rd.one _ _ _) (by simp only [maxLen];omega) vO (by first|assumption|(simp;omega)|omega) ?_;intro v7 w7 hown7 hgrow7 _ hblk7))
      go_roundw
      case rel=>exact⟨j+1,k+1,S++ [(r1,r2,r3)],vO,by go_num,HST,by simp [hlen],Rd.Row.grown (Rd.Row.below (HRT.out) bel) hgrow7 (fun b off n c e e2=>by have h1:=HZr.out b2 off2 _ _ rfl;have h2:=HNB.out b e2.symm;cases e;omega),Lib.hid (fun b off n c e=>by cases e;exact HZr.out b2 off2 _ _ rfl),Lib.hid (fun p n c e=>by have h1:=HKr.out _ _ _ rfl;cases e;omega),Rd.iJ rfl hown7,oG bel hgrow7 HNB.out⟩
      case measure=>simp [intOf];omega
     ·have HRT:Hid (Rd.Row w9 (.slice (some ⟨b2,off2+3,none⟩) (m-1) (cc2-1)) (P.drop (k+1))):=Lib.hid (by
       have h:=HTL.out (cc2-1)
       rw [show(P.drop (k+1)).length=m-1 by rw [HM.out];simp]at h
       exact h)
      go_wp2_with (at_builtin;go_loud (refine wpList_append_own_at _ rfl (.tmp 47) (.tmp 51) 129 rfl w2.1.size 78 r0 (.agg #[(0:Int),(0:Int),(0:Int)]) 3 24 (aB Tryz.underlying129) hri hrz0 hrz1 hrz2 rfl vD u9 S.length (Rd.flat S) rfl (HO9.alloc _) ⟨w9.1.size,0,none⟩ 1 1 [.int .i64 _,.int .i64 _,.int .i64 _] rfl rfl (Rd.news _ _ _ _) (Rd.one _ _ _) (by simp only [maxLen];omega) vO (by first|assumption|(simp;omega)|omega) ?_;intro v7 w7 hown7 hgrow7 _ hblk7))
      go_roundw
      case rel=>exact⟨j+1,k+1,S++ [(r1,r2,r3)],vO,by go_num,HST,by simp [hlen],Rd.Row.grown (Rd.Row.below (HRT.out) bel) hgrow7 (fun b off n c e e2=>by have h1:=HZr.out b2 off2 _ _ rfl;have h2:=HNB.out b e2.symm;cases e;omega),Lib.hid (fun b off n c e=>by cases e;exact HZr.out b2 off2 _ _ rfl),Lib.hid (fun p n c e=>by have h1:=HKr.out _ _ _ rfl;cases e;omega),Rd.iJ rfl hown7,oG bel hgrow7 HNB.out⟩
      case measure=>simp [intOf];omega
    ·have c2:decide (r3=D)=false:=decide_eq_false c
     have HST:=Lib.hid (show Rd.uN P (ds.take (j+1))=(k,S++ [(0,0,D)]) by rw [HX.out,HW.out];simp [Rd.wst,hP,c])
     clear hP
     rw [←hd]at HRK
     clear hd
     go_wp2_with (at_builtin;go_loud (refine wpList_append_own_at _ rfl (.tmp 55) (.tmp 58) 129 rfl w2.1.size 78 r0 (.agg #[(0:Int),(0:Int),(0:Int)]) 3 24 (aB Tryz.underlying129) hri hrz0 hrz1 hrz2 rfl vD u9 S.length (Rd.flat S) rfl (HO9.alloc _) ⟨w9.1.size,0,none⟩ 1 1 [.int .i64 _,.int .i64 _,.int .i64 _] rfl rfl (Rd.news _ _ _ _) (Rd.one _ _ _) (by simp only [maxLen];omega) vO (by first|assumption|(simp;omega)|omega) ?_;intro v7 w7 hown7 hgrow7 _ hblk7))
     go_roundw
     case rel=>exact⟨j+1,k,S++ [(0,0,D)],vO,by go_num,HST,by simp [hlen],Rd.Row.grown (Rd.Row.below HRK.out bel) hgrow7 (fun b off n c e e2=>by have h1:=HZr.out b off n c e;have h2:=HNB.out b e2.symm;omega),HZr,HKr,Rd.iJ rfl hown7,oG bel hgrow7 HNB.out⟩
     case measure=>simp [intOf];omega
  ·obtain rfl:j=n:=vO
   have HT:=Lib.hid (show ds.take j=ds from List.take_of_length_le (by rw [HN.out];exact Nat.le_refl _))
   clear hlt
   go_wp2_with fail
   go_ret2
   refine⟨_,rfl, ?_,bt hB2 hB⟩
   rw [←HT.out,HW.out]
   exact HO.base hB2.size
end
end Go.Proofs.YtljbnicolhhicaaGreatDoor
