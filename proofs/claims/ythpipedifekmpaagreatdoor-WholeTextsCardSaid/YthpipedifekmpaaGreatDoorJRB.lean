import Derived.Test.YthpipedifekmpaaGreatDoorJRA
import Derived.Test.YthpipedifekmpaaGreatDoorJTL
set_option maxHeartbeats 8000000
set_option maxRecDepth 100000
set_option linter.unusedSimpArgs false
set_option linter.unusedVariables false
section
namespace Go.Proofs.YthpipedifekmpaaGreatDoor
open Go.ChangeShapes Go.WideShapes Go.ChangeAt Go.RowKit Go.Lib Go.Sort Go.Shelf
theorem wp_append_op{P:Program}(w:World){o:Oper}{a:Act}{K:Act->World->Prop}{Q:Exit->Act->World->Prop}(s x:Operand)(t:TypeId)
  (ho:o.op= .call {callee:= .builtin .append,args:= #[s,x],argTypes:= #[t,t]})
  (base:Nat) (e:TypeId) (i:TypeInfo) (z:Value) (size bytes:Nat) (ht:P.underlying t=some (.slice e)) (hi:P.info? e=some i) (hz:i.zero=some z)
  (hsize:i.size=size) (hby:i.bytes=bytes) (hzs:z.cells.size=size) (hsz:0<size)
  (v:Value) (n:Nat) (xs:List Value) (hs:a.eval s=v) (hown:w.ownsRow base e size v n xs)
  (ad:Addr) (m c:Nat) (news:List Value) (hx:a.eval x= .slice (some ad) m c) (hl:news.length=m*size) (hnews:∀j u,news[j]? =some u->w.cell? (ad.add j)=some u) (h1:∀u∈news,u.oneCell'=true)
  (h63:n+m<=maxLen) (hbytes:(n+m)*bytes<=140737488355328) (hbase:base<=w.heap.size)
  (h:∀v' w',w'.ownsRow base e size v' (n+m) (xs++news)->w.grownBy w' v.ownBlock->K (a.put o.dst v') w'):
  Oper.wp P o a w K Q:=by
 obtain⟨v',w',hr,h2,h3,h4,h5⟩:=run_append_own_at (P:=P) w base t o.type e i z size bytes ht hi hz hsize hby hzs hsz v n xs hown ad m c news hl hnews h1 h63 hbytes hbase
 unfold Oper.wp execOp
 simp only [ho,resolve,invoke,builtin,Sem.run_bind,Sem.run_pure,Result.andThen_ok,List.map_toArray,List.map_cons,List.map_nil,hs,hx,hr]
 exact h v' w' h2 h3
theorem Il.Row.far{w w':World}{v:Value}{l:List Int}(h:Il.Row w v l)(H:∀k,k<w.heap.size->w'.heap[k]? =w.heap[k]?):Il.Row w' v l:=by
 rcases h with h|⟨b,off,cap,rfl,hc⟩
 ·exact .inl h
 ·exact .inr ⟨b,off,cap,rfl,fun j x hj=>(World.cell?_of_block (w:=w) (a:=⟨b,off+j,none⟩) (H b (World.block_lt_of_cell? w _ (hc j x hj)))).trans (hc j x hj)⟩
theorem Rd.few_le(last n len:Int)(J:List Int):Rd.few last n len J<=J.length:=by unfold Rd.few;omega
theorem Rd.few_eq(last n len:Int)(J:List Int):max 0 (min (last-n+1-len) (J.length:Int))=(Rd.few last n len J:Int):=by unfold Rd.few;omega
theorem rd_read(ds J:List Int)(last nx:Int)(c lo:Nat)(vd vt:Value)(w:World)(hd60:ds.length<=60)(hJ:J.length<=100)(b1: -1000<=last/\last<=1000)(b2: -1000<=nx/\nx<=1000)
  (hc:CellAt w c nx) (HD:Hid (∀W,But c w W->Il.Row W vd ds)) (HL:Rd.Lit w lo vt J) (hlo:c<lo):
  Calls Tryo.prog 119 #[vd,.agg #[.int .i64 last,vt],.pointer (some ⟨c,0,none⟩)] w fun e w'=>∃v,e= .returned v/\Rd.Own w' w.heap.size v (Rd.run (J.take (Rd.few last nx ds.length J)) nx ds).2/\CellAt w' c (Rd.run (J.take (Rd.few last nx ds.length J)) nx ds).1/\But c w w':=by
 have hfe:=Rd.few_eq last nx ds.length J
 have hfl:=Rd.few_le last nx ds.length J
 rcases HL with ⟨rfl,rfl⟩|⟨b,hb1,hb2,rfl,hcs⟩
 ·have h0:Rd.few last nx ds.length []=0:=by simpa using hfl
  rw [h0]at hfe⊢
  exact rd_read_go ds [] [] ds.length 0 last nx c 0 vd (.slice none 0 0) none none 0 0 w rfl (Lib.hid rfl) rfl (by omega) hd60 b1 b2 hc HD (Lib.hid fun W _=> .inl ⟨rfl,rfl⟩) hfe (fun W=>by simp [Instr.slice,go_sem])
 ·generalize Rd.few last nx ds.length J=M at hfe hfl⊢
  refine rd_read_go ds (J.take M) [] ds.length M last nx c J.length vd (.slice (some ⟨b,0,none⟩) M J.length) _ (some ⟨b,0,none⟩) J.length J.length w rfl (Lib.hid rfl) (by rw [List.length_take];omega) (by omega) hd60 b1 b2 hc HD (Lib.hid fun W hW=> .inr ⟨b,0,J.length,by rw [List.length_take];congr 1;omega,fun j x hj=> ?_⟩) hfe (fun W=> ?_)
  ·rw [Nat.zero_add]
   have hj2:J[j]? =some x:=by
    rw [List.getElem?_take]at hj
    split at hj
    ·exact hj
    ·cases hj
   exact(hW.cell hb2 (by omega)).trans (hcs j x hj2)
  ·have hm:(M:Int)<=(J.length:Int):=by omega
   have h0:(0:Int)<=(M:Int):=by omega
   simp [Instr.slice,go_sem,hm,h0]
end Go.Proofs.YthpipedifekmpaaGreatDoor
end
section
namespace Go.Proofs.YthpipedifekmpaaGreatDoor
open Go.ChangeShapes Go.WideShapes Go.ChangeAt Go.RowKit Go.Lib Go.Sort Go.Shelf
theorem rd_reader(w:World):
  Calls Tryo.prog 88 #[] w fun e w'=>∃c,e= .returned (.func (.func 119) #[] #[.pointer (some ⟨c,0,none⟩)])/\CellAt w' c 1/\w.heap.size<=c/\Below w.heap.size w w':=by
 go_enter Tryo.func88,Tryz.ntmps88
 go_wp2_with fail
 go_ret
 refine⟨_,rfl,⟨by simp [go_sem],fun i=>by simp [go_sem],by simp⟩,Nat.le_refl _,bel⟩
namespace Rd
def portS(leap:Bool)(bh:Int)(L:Nat->List Int):Nat->Int×List Rd
 |0=>(1,[])
 | q+1=>
  ((run ((pairP leap bh q).take (few (lastP leap bh q) (portS leap bh L q).1 (L q).length (pairP leap bh q))) (portS leap bh L q).1 (L q)).1,
   (portS leap bh L q).2++(run ((pairP leap bh q).take (few (lastP leap bh q) (portS leap bh L q).1 (L q).length (pairP leap bh q))) (portS leap bh L q).1 (L q)).2)
theorem portS_next{leap:Bool}{bh:Int}{L:Nat->List Int}{q:Nat}{N:Int}{S:List Rd}(h:portS leap bh L q=(N,S)):portS leap bh L (q+1)=((run ((pairP leap bh q).take (few (lastP leap bh q) N (L q).length (pairP leap bh q))) N (L q)).1,S++(run ((pairP leap bh q).take (few (lastP leap bh q) N (L q).length (pairP leap bh q))) N (L q)).2):=by
 rw [portS,h]
theorem lastP_bd(leap:Bool)(bh:Int)(q:Nat): -1000<=lastP leap bh q/\lastP leap bh q<=1000:=by unfold lastP;split <;> (try split) <;> omega
theorem pairP_len(leap:Bool)(bh:Int)(q:Nat):(pairP leap bh q).length<=100:=by unfold pairP;split <;> (try split) <;> simp
end Rd
theorem rd_portions_go(y pl:Int)(leap:Bool)(l:List Int)(n:Nat)(part:Int->Nat)(w:World)(hl:l.length=n)(hn:n<=60)(hT:Tab w 5 kevCells)(hL:Tab w 4 lenCells)(hF:Tab w 6 Fe.cells)
  (HD:Hid (∀d∈l,part d<5)) (HNE:Hid (∀q,q<5->0<(Rd.sel part l q).length))
  (HFr:Hid (∀w:World,Tab w 5 kevCells->Tab w 4 lenCells->Tab w 6 Fe.cells->Calls Tryo.prog 86 #[.int .i64 y,.int .i64 pl] w fun e w'=>∃v,e= .returned (.tuple #[v,.int .i64 0])/\Il.Own w' w.heap.size v l/\Below w.heap.size w w'))
  (HLe:Hid (∀w:World,Calls Tryo.prog 38 #[.int .i64 y] w fun e w'=>e= .returned (.tuple #[.bool leap,.int .i64 0])/\w=w'))
  (HPt:Hid (∀d∈l,∀w:World,Tab w 5 kevCells->Tab w 4 lenCells->Tab w 6 Fe.cells->Calls Tryo.prog 87 #[.int .i64 y,.int .i64 d] w fun e w'=>e= .returned (.tuple #[.int .i64 ((part d:Int)+1),.int .i64 0])/\Below w.heap.size w w')):
  Calls Tryo.prog 62 #[.int .i64 y,.int .i64 pl] w fun e w'=>∃v,e= .returned (.tuple #[v,.int .i64 0])/\Rd.Own w' w.heap.size v (Rd.portS leap ((Rd.sel part l 4).length:Int) (Rd.sel part l) 5).2/\Below w.heap.size w w':=by
 obtain⟨i0,hi,hz0,hz1,hz2⟩:=info_parts info_int
 obtain⟨r0,hri,hrz0,hrz1,hrz2⟩:=info_parts Rd.info
 go_enter Tryo.func62,Tryz.ntmps62
 go_wp2_with fail
 refine(HFr.out _ (Tab.below hT bel) (Tab.below hL bel) (Tab.below hF bel)).mono ?_
 rintro e w1 ⟨v1,rfl,ho1,hb1⟩
 have hr1:=ho1.row
 obtain⟨p1,c1,rfl⟩:=hr1.len
 rw [hl]
 have HN:=Lib.hid hl
 clear hl ho1 HFr
 have hB1:Below w.heap.size w w1:=bel
 go_wp2_with fail
 refine(HLe.out _).mono ?_
 rintro e w' ⟨rfl,rfl⟩
 go_wp2_with fail
 go_loopw [37] (fun i wr=>∃ (j:Nat) (vs:Nat->Value),j<=n/\i= .int .i64 (j:Int)/\PO wr w1.heap.size (w1.heap.size+1) vs (Rd.sel part (l.take j))/\Below w1.heap.size w1 wr) (fun i _=>n-(intOf i).toNat)
 case atStart=>
  refine⟨0,fun _=> .slice none 0 0,Nat.zero_le _,rfl,⟨by omega,by simp,fun i=>by simp [go_sem],fun q hq=>⟨?_,Il.Own.nil _ _⟩,fun q q' _ _ _=> .inl rfl⟩,bel⟩
  rcases(show q=0∨q=1∨q=2∨q=3∨q=4 by omega)with rfl|rfl|rfl|rfl|rfl <;> simp [go_sem]
 case round=>
  obtain⟨j,vs,hj,rfl,HP,hB⟩:=hrel
  obtain⟨w9,rfl⟩:∃x,x=wr:=⟨_,rfl⟩
  have hBw:Below w.heap.size w w9:=bt hB1 hB
  by_cases hlt:j<n
  ·obtain⟨D,hx⟩:∃x,l[j]? =some x:=⟨_,List.getElem?_eq_getElem (by rw [HN.out];exact hlt)⟩
   have HX:=Lib.hid (Rd.sel_next part l j D hx)
   have hk:=HD.out D (List.mem_of_getElem? hx)
   have HPd:=Lib.hid (HPt.out D (List.mem_of_getElem? hx))
   obtain⟨b,off,cc,hp1,hc⟩:=(hr1.below hB).at_some (by rw [HN.out];omega)
   rw [HN.out]at hp1
   simp only [Value.slice.injEq]at hp1
   obtain⟨rfl,_,rfl⟩:=hp1
   have cx1:=hc j D hx
   have lx:=World.block_lt_of_cell? _ _ cx1
   dsimp only at lx cx1
   have j0:(0:Int)<=(j:Int):=by omega
   have j1:(j:Int)<(n:Int):=by omega
   obtain⟨k,hkk⟩:∃k,k=part D:=⟨_,rfl⟩
   have HK:=Lib.hid hkk
   rw [←hkk]at hk HPd HX
   obtain⟨P,hP⟩:∃P:Int,P=(k:Int)+1:=⟨_,rfl⟩
   rw [←hP]at HPd
   have e1:wrap64 (P-1)=(k:Int):=by rw [hP,Int.add_sub_cancel];exact IntWalk.wrap64_in _ ⟨by omega,by omega⟩
   have k0:(0:Int)<=(k:Int):=by omega
   have k1:(k:Int)<5:=by omega
   have HLn:=Rd.sel_len part (l.take j) k
   have HLm:(l.take j).length<=60:=by rw [List.length_take];omega
   clear hc hx hkk hP
   go_wp2_with fail
   refine(HPd.out _ (Tab.below hT bel) (Tab.below hL bel) (Tab.below hF bel)).mono ?_
   rintro e w2 ⟨rfl,hb2⟩
   have hB2:Below w9.heap.size w9 w2:=bel
   have HP2:=Lib.hid (HP.below hB2)
   obtain⟨a1,a2,a3,a4,_⟩:=HP2.out
   obtain⟨a5,a6⟩:=a4 k hk
   clear a4
   have HVL:∃p L c,vs k= .slice p L c:=⟨_,_,_,(a6.row.len.choose_spec.choose_spec)⟩
   go_wp2_with (have HX7:w2.ownsRow (w1.heap.size+1) 3 1 (vs k) (Rd.sel part (l.take j) k).length (Il.vals (Rd.sel part (l.take j) k)):=a6;at_builtin;go_loud (refine wpList_append_own_at _ rfl (.tmp 55) (.tmp 57) 98 rfl (w1.heap.size+1) 3 i0 (.int .i64 0) 1 8 (und_o Tryz.underlying98) hi hz0 hz1 hz2 rfl (by decide) (vs k) (Rd.sel part (l.take j) k).length (Il.vals (Rd.sel part (l.take j) k)) rfl (HX7.alloc _) ⟨w2.heap.size,0,none⟩ 1 1 [.int .i64 _] rfl rfl (il_news _ _) (il_one _) (by simp only [maxLen];omega) (by omega) (by first|assumption|(simp;omega)|omega) ?_;intro v7 w7 hown7 hgrow7 _ hblk7;obtain⟨p7,m7,cc7,rfl⟩:∃p m c,v7= .slice p m c:=⟨_,_,_,(Il.Own.row (Il.own_snoc rfl hown7)).len.choose_spec.choose_spec⟩;have HQ7:=Lib.hid (PO.put (PO.below HP2.out (ba _ _)) hk (Il.own_snoc rfl hown7) hgrow7 hblk7);have hf7:=(World.frozen?_of_block (w:=w2) (a:=⟨w1.heap.size,k,none⟩) ((hgrow7.block w1.heap.size (by simp;omega) (fun e=>by have:=(World.ownsRow.lt HX7 _ e.symm).1;omega)).trans (heap_alloc_old w2 _ a2))).trans (a3 k);have hc7:=(World.cell?_of_block (w:=w2) (a:=⟨w1.heap.size,k,none⟩) ((hgrow7.block w1.heap.size (by simp;omega) (fun e=>by have:=(World.ownsRow.lt HX7 _ e.symm).1;omega)).trans (heap_alloc_old w2 _ a2))).trans a5))
   go_roundw
   case rel=>
    refine⟨j+1,_,by omega,by go_num,by rw [HX.out];exact HQ7.out, ?_⟩
    have hb7:Below w1.heap.size w1 w7:=bgrown bel hgrow7 (fun b e=>by have:=(World.ownsRow.lt HX7 b e).1;omega)
    exact bs hb7 (Nat.le_refl _) _
   case measure=>simp [intOf];omega
  ·obtain rfl:j=n:=by omega
   have HT:=Lib.hid (show l.take j=l from List.take_of_length_le (by rw [HN.out];exact Nat.le_refl _))
   rw [HT.out]at HP
   clear hlt
   have H4:∃p c,vs 4= .slice p (Rd.sel part l 4).length c:=(HP.2.2.2.1 4 (by omega)).2.row.len
   obtain⟨p4,c4,e4⟩:=H4
   obtain⟨n4,hn4⟩:∃x,x=(Rd.sel part l 4).length:=⟨_,rfl⟩
   have HN4:=Lib.hid hn4
   rw [←hn4]at e4
   have HPH:=Lib.hid HP
   have HB:=Lib.hid hBw
   clear HPt HT hn4
   go_wp2_with fail
   refine(rd_reader _).mono ?_
   rintro e w2 ⟨c,rfl,HC,hcg,hb2⟩
   have HP2:=HPH.out.below (show Below w9.heap.size w9 w2 from bel)
   obtain⟨a1,a2,a3,a4,_⟩:=HP2
   have a5:=(a4 4 (by omega)).1
   rw [e4]at a5
   have hB2:Below w9.heap.size w9 w2:=bel
   clear a4
   go_wp2_with fail
   refine(rd_plan _ _ _).mono ?_
   rintro e w3 ⟨t,rfl,HLt,hb3⟩
   have hcl:c<w2.heap.size:=HC.2.2
   have hz9:=hB2.size
   have hz3:=hb3.size
   have hB93:Below w9.heap.size w9 w3:=bel
   have HC3:=Lib.hid (HC.below hb3)
   have HP3:=Lib.hid (HPH.out.below hB93)
   have HBW3:=Lib.hid (show Below w.heap.size w w3 from bt HB.out hB93)
   have hws:=HB.out.size
   have HTF:Hid (∀j,j<5->∃p m q,t j= .slice p m q):=Lib.hid fun j hj=>by
    rcases HLt j hj with ⟨h,_⟩|⟨b,_,_,h,_⟩
    ·exact⟨_,_,_,h⟩
    ·exact⟨_,_,_,h⟩
   have HLI:=Lib.hid HLt
   have HIX:Hid (∀j:Nat,j<5->∀W,(Instr.index 142 (.agg #[.int .i64 (Rd.lastP leap (n4:Int) 0),t 0,.int .i64 (Rd.lastP leap (n4:Int) 1),t 1,.int .i64 (Rd.lastP leap (n4:Int) 2),t 2,.int .i64 (Rd.lastP leap (n4:Int) 3),t 3,.int .i64 (Rd.lastP leap (n4:Int) 4),t 4]) (.int .i64 (j:Int))).run Tryo.prog W= .ok (.agg #[.int .i64 (Rd.lastP leap (n4:Int) j),t j]) W):=Lib.hid fun j hj W=>by
    rcases(show j=0∨j=1∨j=2∨j=3∨j=4 by omega)with rfl|rfl|rfl|rfl|rfl <;> simp [Instr.index,go_sem]
   obtain⟨A,hA⟩:∃A,A=Value.agg #[.int .i64 (Rd.lastP leap (n4:Int) 0),t 0,.int .i64 (Rd.lastP leap (n4:Int) 1),t 1,.int .i64 (Rd.lastP leap (n4:Int) 2),t 2,.int .i64 (Rd.lastP leap (n4:Int) 3),t 3,.int .i64 (Rd.lastP leap (n4:Int) 4),t 4]:=⟨_,rfl⟩
   rw [←hA]at HIX
   rw [←hA]
   clear hA HLt HC a1 a2 a3 a5
   go_wp2_with fail
   go_loopw [14,67] (fun v i wr=>∃ (j:Nat) (N:Int) (S:List Rd),j<=5/\i= .int .i64 (j:Int)/\Hid (Rd.portS leap (n4:Int) (Rd.sel part l) j=(N,S))/\S.length<=60*j/\(1<=N/\N<=1+120*(j:Int))/\Rd.Own wr w3.heap.size v S/\CellAt wr c N/\But c w3 wr) (fun _ i _=>5-(intOf i).toNat)
   case atStart=>exact⟨0,1,[],by omega,rfl,Lib.hid rfl,by simp,by omega,Rd.Own.nil _ _,HC3.out,But.of (Below.refl _ _)⟩
   case round=>
    obtain⟨q,N,S,hq5,rfl,HR,hlen,hN,HO,HCr,hB5⟩:=hrel
    obtain⟨w5,rfl⟩:∃x,x=wr:=⟨_,rfl⟩
    have hs5:=hB5.size
    by_cases hlt:q<5
    ·obtain⟨pt,mt,ct,et⟩:=HTF.out q hlt
     have hix:=HIX.out q hlt
     have HLj:=Lib.hid (HLI.out q hlt)
     rw [et]at hix HLj
     obtain⟨o1,o2,o3,o4,_⟩:=HP3.out
     obtain⟨x1,x2⟩:=o4 q hlt
     have HRow:=Lib.hid ((HPH.out).2.2.2.1 q hlt).2.row
     obtain⟨pj,cj,ej⟩:=HRow.out.len
     rw [ej]at HRow x1
     have hdl:=Rd.sel_len part l q
     have hdp:=HNE.out q hlt
     have hl60:(Rd.sel part l q).length<=60:=by have:=HN.out;omega
     have HNX:=Lib.hid (Rd.portS_next HR.out)
     have hlb:=Rd.lastP_bd leap (n4:Int) q
     have hpl:=Rd.pairP_len leap (n4:Int) q
     generalize Rd.lastP leap (n4:Int) q=last at hix hlb HNX
     generalize Rd.pairP leap (n4:Int) q=J at hpl HNX HLj
     generalize Rd.sel part l q=ds at hl60 hdp HNX HRow x1
     have HRd:=Lib.hid (fun(W:World) (h1:CellAt W c N) (h2:But c w9 W) (h3:Rd.Lit W w2.heap.size (.slice pt mt ct) J)=>rd_read ds J last N c w2.heap.size (.slice pj ds.length cj) (.slice pt mt ct) W hl60 hpl hlb (by omega) h1 (Lib.hid fun W' hW'=>Il.Row.far HRow.out (fun k hk=>(h2.trans hW').block k hk (by omega))) h3 hcl)
     have hrl:=Rd.run_len (J.take (Rd.few last N ds.length J)) N ds
     have hrb:=Rd.run_bd (J.take (Rd.few last N ds.length J)) N ds
     obtain⟨R,hR⟩:∃R,R=Rd.run (J.take (Rd.few last N ds.length J)) N ds:=⟨_,rfl⟩
     rw [←hR]at HRd hrl hrb HNX
     have HRL:=Lib.hid hrl
     have HRB:=Lib.hid hrb
     obtain⟨nd,hnd⟩:∃x,x=ds.length:=⟨_,rfl⟩
     rw [←hnd]at HRd x1 hl60 hdp
     have HND:=Lib.hid hnd
     have hgc:w1.heap.size≠c:=by have:=HPH.out.2.1;omega
     have cg:=(hB5.cell (o:=q) (by omega) hgc).trans x1
     have lg:w1.heap.size<w5.heap.size:=by omega
     have j0:(0:Int)<=(q:Int):=by omega
     have j1:(q:Int)<5:=by omega
     have HCR:=Lib.hid HCr
     have HOO:=Lib.hid HO
     clear hrl hrb hR hnd o3 o4 x1 x2 ej et HCr HO
     go_wp2_with fail
     refine wp_region_until 6 (by kernel_rfl) ?_
     refine up 0 (v:= ?_) rfl ?_ ?_
     rotate_left 1
     ·first|(intro w;go_simp;done)|(intro w;go_simp;with_reducible rfl)
     try simp only [Act.put,List.setIfInBounds_toArray]
     refine up 1 (v:= ?_) rfl ?_ ?_
     rotate_left 1
     ·first|(intro w;go_simp;done)|(intro w;go_simp;with_reducible rfl)
     try simp only [Act.put,List.setIfInBounds_toArray]
     refine up 2 (v:= ?_) rfl ?_ ?_
     rotate_left 1
     ·first|(intro w;go_simp;done)|(intro w;go_simp;with_reducible rfl)
     try simp only [Act.put,List.setIfInBounds_toArray]
     refine up 3 (v:= ?_) rfl ?_ ?_
     rotate_left 1
     ·first|(intro w;go_simp;done)|(intro w;go_simp;with_reducible rfl)
     try simp only [Act.put,List.setIfInBounds_toArray]
     refine ur 4 (v:= ?_) rfl ?_ ?_
     rotate_left 1
     ·first|(go_simp;done)|(go_simp;with_reducible rfl)
     try simp only [Act.put,List.setIfInBounds_toArray]
     refine ur 5 (v:= ?_) rfl ?_ ?_
     rotate_left 1
     ·first|(go_simp;done)|(go_simp;with_reducible rfl)
     try simp only [Act.put,List.setIfInBounds_toArray]
     refine until_one (k:=6) rfl (by kernel_rfl) (by kernel_rfl) (fun K hK=> ?_)
     go_simp
     refine(HRd.out _ (HCR.out.below bel) (But.bt (But.trans (But.of hB93) hB5) bel) (Rd.Lit.below (Rd.Lit.but HLj.out hB5 hcl) bel)).mono ?_
     rintro e w10 ⟨v10,rfl,HO10,HC10,hB10⟩
     obtain⟨g10,c10,rfl,_⟩:=World.ownsRow.form HO10 (by rw [HRL.out,←HND.out];exact hdp)
     have HS10:w10.ownsRow w3.heap.size 40 3 u14 S.length (Rd.flat S):=Rd.Own.but (Rd.Own.below HOO.out bel) hB10 (by omega)
     have hs10:=hB10.size
     refine hK.out _ _ ?_
     clear hK K
     try simp only [Act.put,List.setIfInBounds_toArray]
     refine until_one (k:=7) rfl (by kernel_rfl) (by kernel_rfl) (fun K hK=> ?_)
     rw [if_pos (by rfl)]
     refine wp_append_op w10 (.tmp 71) (.tmp 77) 76 rfl w3.heap.size 40 r0 (.agg #[.int .i64 0,.int .i64 0,.int .i64 0]) 3 24 (und_o Tryz.underlying76) hri hrz0 hrz1 hrz2 rfl (by decide) u14 S.length (Rd.flat S) rfl HS10 ⟨g10,0,none⟩ R.2.length c10 (Rd.flat R.2) rfl (Rd.flat_len _) (fun j u hj=>World.ownsRow.cells HO10 rfl j u hj) (Rd.flat_one _) (by have:=HRL.out;have:=HND.out;simp only [maxLen];omega) (by have:=HRL.out;have:=HND.out;omega) (by simp at hs10;omega) ?_
     intro v8 w8 hown8 hgrow8
     refine hK.out _ _ ?_
     clear hK K
     try simp only [Act.put,List.setIfInBounds_toArray]
     refine uq 8 (v:= ?_) rfl ?_ ?_
     rotate_left 1
     ·first|(intro w;go_simp;done)|(intro w;go_simp;with_reducible rfl)
     try simp only [Act.put,List.setIfInBounds_toArray]
     refine until_done (by kernel_rfl) ?_ _
     try simp only [List.getElem_toArray,List.getElem_cons_succ,List.getElem_cons_zero,List.setIfInBounds_toArray,List.set_cons_succ,List.set_cons_zero]
     go_wp2_with fail
     go_roundw
     case rel=>
      have hsz:=(HCR.out).2.2
      exact⟨q+1,R.1,S++R.2,by omega,by go_num,Lib.hid HNX.out,by have:=HRL.out;have:=HND.out;rw [List.length_append];omega,by have:=HRB.out;have:=HND.out;omega,Rd.own_app rfl rfl hown8,CellAt.grown HC10 hgrow8 (fun e=>by have:=(World.ownsRow.lt HS10 _ e).1;omega),But.grown (But.trans (But.bt hB5 bel) hB10) hgrow8 (fun k e=>(World.ownsRow.lt HS10 k e).1)⟩
     case measure=>simp [intOf];omega
    ·obtain rfl:q=5:=by omega
     clear hlt
     go_wp2_with fail
     go_ret2
     refine⟨_,rfl, ?_,But.below hB5 HBW3.out (by omega)⟩
     rw [←HN4.out,HR.out]
     exact HO.base HBW3.out.size
end Go.Proofs.YthpipedifekmpaaGreatDoor
end
section
namespace Go.Proofs.YthpipedifekmpaaGreatDoor
open Go.ChangeShapes Go.WideShapes Go.ChangeAt Go.RowKit Go.Lib Go.Sort Go.Shelf
namespace Rd
def wst(P:List Rd)(s:Nat×List Rd)(d:Int):Nat×List Rd:=
 match P[s.1]? with
 |some r=>if r.2.2=d then(s.1+1,s.2++ [r])else(s.1,s.2++ [(0,0,d)])
 |none=>(s.1,s.2++ [(0,0,d)])
def weave(P:List Rd)(ds:List Int):Nat×List Rd:=ds.foldl (wst P) (0,[])
theorem weave_next(P:List Rd)(ds:List Int)(j:Nat)(d:Int)(hd:ds[j]? =some d):weave P (ds.take (j+1))=wst P (weave P (ds.take j)) d:=by
 unfold weave
 rw [List.take_add_one,hd,List.foldl_append]
 rfl
theorem Row.tail{w:World}{b off:Nat}{r:Rd}{l:List Rd}(h:∀j u,(flat (r :: l))[j]? =some u->w.cell? ⟨b,off+j,none⟩=some u)(cap:Nat):Row w (.slice (some ⟨b,off+3,none⟩) l.length cap) l:=
 .inr ⟨b,off+3,cap,rfl,fun j u hj=>by
  have e:flat (r :: l)= .int .i64 r.1 :: .int .i64 r.2.1 :: .int .i64 r.2.2 :: flat l:=rfl
  have:=h (j+3) u (by rw [e];simpa using hj)
  rwa [show off+3+j=off+(j+3) by omega]⟩
theorem Row.grown{w w':World}{r:Option Nat}{v:Value}{l:List Rd}(h:Row w v l)(hg:w.grownBy w' r)(hr:∀b off n c,v= .slice (some ⟨b,off,none⟩) n c->some b≠r):Row w' v l:=by
 rcases h with h|⟨b,off,cap,rfl,hc⟩
 ·exact .inl h
 ·exact .inr ⟨b,off,cap,rfl,fun j u hj=>hg.cell (hc j u hj) (hr b off _ _ rfl)⟩
end Rd
theorem rd_Cycle_go(y pl:Int)(P:List Rd)(ds:List Int)(n:Nat)(w:World)(hl:ds.length=n)(hn:n<=100)(hT:Tab w 5 kevCells)(hL:Tab w 4 lenCells)(hF:Tab w 6 Fe.cells)
  (HA:Hid (∀w:World,Tab w 5 kevCells->Tab w 4 lenCells->Tab w 6 Fe.cells->Calls Tryo.prog 61 #[.int .i64 y,.int .i64 pl] w fun e w'=>∃v,e= .returned (.tuple #[v,.int .i64 0])/\Il.Own w' w.heap.size v ds/\Below w.heap.size w w'))
  (HP:Hid (∀w:World,Tab w 5 kevCells->Tab w 4 lenCells->Tab w 6 Fe.cells->Calls Tryo.prog 62 #[.int .i64 y,.int .i64 pl] w fun e w'=>∃v,e= .returned (.tuple #[v,.int .i64 0])/\Rd.Own w' w.heap.size v P/\Below w.heap.size w w')):
  Calls Tryo.prog 34 #[.int .i64 y,.int .i64 pl] w fun e w'=>∃v,e= .returned (.tuple #[v,.int .i64 0])/\Rd.Own w' w.heap.size v (Rd.weave P ds).2/\Below w.heap.size w w':=by
 obtain⟨r0,hri,hrz0,hrz1,hrz2⟩:=info_parts Rd.info
 go_enter Tryo.func34,Tryz.ntmps34
 go_wp2_with fail
 refine(HA.out _ (Tab.below hT bel) (Tab.below hL bel) (Tab.below hF bel)).mono ?_
 rintro e w1 ⟨v1,rfl,ho1,hb1⟩
 have hr1:=ho1.row
 obtain⟨p1,c1,rfl⟩:=hr1.len
 rw [hl]
 have HN:=Lib.hid hl
 clear hl ho1 HA
 have hB1:Below w.heap.size w w1:=bel
 go_wp2_with fail
 refine(HP.out _ (Tab.below hT bel) (Tab.below hL bel) (Tab.below hF bel)).mono ?_
 rintro e w2 ⟨v2,rfl,ho2,hb2⟩
 have hB12:Below w1.heap.size w1 w2:=bel
 have hB2:Below w.heap.size w w2:=bt hB1 hB12
 have HR1:=Lib.hid (hr1.below hB12)
 have HR2:Rd.Row w2 v2 (P.drop 0):=ho2.row
 have HZ:Hid (∀b off n c,v2= .slice (some ⟨b,off,none⟩) n c->b<w2.heap.size):=Lib.hid fun b off n c e=>(World.ownsRow.lt ho2 b (by rw [e];rfl)).2
 have HK2:Hid (∀p n c,v2= .slice p n c->n<=c):=Lib.hid fun p n c e=>by
  rcases ho2.2 with ⟨rfl,_⟩|⟨g,cap,cur,rfl,_,_,h,_⟩
  ·cases e;omega
  ·cases e;exact h
 obtain⟨p2,n2,c2,rfl⟩:∃p m c,v2= .slice p m c:=⟨_,_,_,HR2.len.choose_spec.choose_spec⟩
 clear hr1 ho2 HP
 go_wp2_with fail
 go_loopw [8,9,32] (fun r v i wr=>∃ (j k:Nat) (S:List Rd),j<=n/\i= .int .i64 (j:Int)/\Hid (Rd.weave P (ds.take j)=(k,S))/\S.length=j/\Rd.Row wr r (P.drop k)/\Hid (∀b off n c,r= .slice (some ⟨b,off,none⟩) n c->b<w2.heap.size)/\Hid (∀p n c,r= .slice p n c->n<=c)/\Rd.Own wr w2.heap.size v S/\Below w2.heap.size w2 wr) (fun _ _ i _=>n-(intOf i).toNat)
 case atStart=>exact⟨0,0,[],Nat.zero_le _,rfl,Lib.hid rfl,rfl,HR2,HZ,HK2,Rd.Own.nil _ _,Below.refl _ _⟩
 case round=>
  obtain⟨j,k,S,hj,rfl,HW,hlen,HRr,HZr,HKr,HO,hB⟩:=hrel
  obtain⟨w9,rfl⟩:∃x,x=wr:=⟨_,rfl⟩
  have hs9:=hB.size
  by_cases hlt:j<n
  ·obtain⟨D,hx⟩:∃x,ds[j]? =some x:=⟨_,List.getElem?_eq_getElem (by rw [HN.out];exact hlt)⟩
   have HX:=Lib.hid (Rd.weave_next P ds j D hx)
   obtain⟨b,off,cc,hp1,hc⟩:=(HR1.out.below hB).at_some (by rw [HN.out];omega)
   rw [HN.out]at hp1
   simp only [Value.slice.injEq]at hp1
   obtain⟨rfl,_,rfl⟩:=hp1
   have cx1:=hc j D hx
   have lx:=World.block_lt_of_cell? _ _ cx1
   dsimp only at lx cx1
   have j0:(0:Int)<=(j:Int):=by omega
   have j1:(j:Int)<(n:Int):=by omega
   have HO9:w9.ownsRow w2.heap.size 40 3 u9 S.length (Rd.flat S):=HO
   have HNB:Hid (∀k,u9.ownBlock=some k->w2.heap.size<=k):=Lib.hid fun k e=>(World.ownsRow.lt HO9 k e).1
   clear hc hx
   rcases hP:P[k]? with _|r
   ·have HST:=Lib.hid (show Rd.weave P (ds.take (j+1))=(k,S++ [(0,0,D)]) by rw [HX.out,HW.out];simp [Rd.wst,hP])
    have h0:(P.drop k)= []:=List.drop_eq_nil_of_le (by simpa using hP)
    have HRK:=Lib.hid HRr
    obtain⟨pr,cr,er⟩:=HRr.len
    subst er
    have hm0:(P.drop k).length=0:=by rw [h0];rfl
    rw [hm0]at HRK HZr HKr⊢
    clear h0 hm0 hP HRr
    go_wp2_with (at_builtin;go_loud (refine wpList_append_own_at _ rfl (.tmp 55) (.tmp 58) 76 rfl w2.heap.size 40 r0 (.agg #[.int .i64 0,.int .i64 0,.int .i64 0]) 3 24 (und_o Tryz.underlying76) hri hrz0 hrz1 hrz2 rfl (by decide) u9 S.length (Rd.flat S) rfl (HO9.alloc _) ⟨w9.heap.size,0,none⟩ 1 1 [.int .i64 _,.int .i64 _,.int .i64 _] rfl rfl (Rd.news _ _ _ _) (Rd.one _ _ _) (by simp only [maxLen];omega) (by omega) (by first|assumption|(simp;omega)|omega) ?_;intro v7 w7 hown7 hgrow7 _ hblk7))
    go_roundw
    case rel=>exact⟨j+1,k,S++ [(0,0,D)],by omega,by go_num,HST,by simp [hlen],Rd.Row.grown (Rd.Row.below HRK.out bel) hgrow7 (fun b off n c e e2=>by have h1:=HZr.out b off n c e;have h2:=HNB.out b e2.symm;omega),HZr,HKr,Rd.own_snoc rfl hown7,bgrown bel hgrow7 HNB.out⟩
    case measure=>simp [intOf];omega
   ·have hd:P.drop k=r :: P.drop (k+1):=by
     have hk:=(List.getElem?_eq_some_iff.1 hP).1
     rw [List.drop_eq_getElem_cons hk]
     congr 1
     exact(List.getElem?_eq_some_iff.1 hP).2
    have HRK:=Lib.hid HRr
    rw [hd]at HRr HRK
    obtain⟨b2,off2,cc2,er,hc2⟩:=HRr.at_some (by simp)
    subst er
    obtain⟨r1,r2,r3⟩:=r
    obtain⟨x1,x2,x3⟩:=Rd.cells_at hc2 0 (r1,r2,r3) rfl
    simp only [Nat.zero_mul,Nat.add_zero]at x1 x2 x3
    have lx2:=World.block_lt_of_cell? _ _ x1
    dsimp only at lx2
    have HTL:=Lib.hid (Rd.Row.tail hc2)
    obtain⟨m,hm⟩:∃m,m=((r1,r2,r3) :: P.drop (k+1)).length:=⟨_,rfl⟩
    have HM:=Lib.hid hm
    have hm1:1<=m:=by rw [hm];simp
    rw [←hm]at HRK HZr HKr⊢
    have m1:(0:Int)<(m:Int):=by omega
    have m2:(1:Int)<=(m:Int):=by omega
    clear hm hc2 HRr
    by_cases c:r3=D
    ·subst c
     have HST:=Lib.hid (show Rd.weave P (ds.take (j+1))=(k+1,S++ [(r1,r2,r3)]) by rw [HX.out,HW.out];simp [Rd.wst,hP])
     clear hP hd
     by_cases hcc:cc2=1
     ·have hme:m=1:=by have:=HKr.out _ _ _ rfl;omega
      have HRT:Hid (Rd.Row w9 (.slice (some ⟨b2,off2,none⟩) (m-1) 0) (P.drop (k+1))):=Lib.hid (by
       have h1:(P.drop (k+1)).length=0:=by have:=HM.out;simp only [List.length_cons]at this;omega
       have h2:=List.eq_nil_of_length_eq_zero h1
       rw [h2,hme]
       exact .inr ⟨b2,off2,_,rfl,fun j u hj=>by simp [Rd.flat]at hj⟩)
      clear hme
      go_wp2_with (at_builtin;go_loud (refine wpList_append_own_at _ rfl (.tmp 47) (.tmp 51) 76 rfl w2.heap.size 40 r0 (.agg #[.int .i64 0,.int .i64 0,.int .i64 0]) 3 24 (und_o Tryz.underlying76) hri hrz0 hrz1 hrz2 rfl (by decide) u9 S.length (Rd.flat S) rfl (HO9.alloc _) ⟨w9.heap.size,0,none⟩ 1 1 [.int .i64 _,.int .i64 _,.int .i64 _] rfl rfl (Rd.news _ _ _ _) (Rd.one _ _ _) (by simp only [maxLen];omega) (by omega) (by first|assumption|(simp;omega)|omega) ?_;intro v7 w7 hown7 hgrow7 _ hblk7))
      go_roundw
      case rel=>exact⟨j+1,k+1,S++ [(r1,r2,r3)],by omega,by go_num,HST,by simp [hlen],Rd.Row.grown (Rd.Row.below (HRT.out) bel) hgrow7 (fun b off n c e e2=>by have h1:=HZr.out b2 off2 _ _ rfl;have h2:=HNB.out b e2.symm;cases e;omega),Lib.hid (fun b off n c e=>by cases e;exact HZr.out b2 off2 _ _ rfl),Lib.hid (fun p n c e=>by have h1:=HKr.out _ _ _ rfl;cases e;omega),Rd.own_snoc rfl hown7,bgrown bel hgrow7 HNB.out⟩
      case measure=>simp [intOf];omega
     ·have HRT:Hid (Rd.Row w9 (.slice (some ⟨b2,off2+3,none⟩) (m-1) (cc2-1)) (P.drop (k+1))):=Lib.hid (by
       have h:=HTL.out (cc2-1)
       rw [show(P.drop (k+1)).length=m-1 by rw [HM.out];simp]at h
       exact h)
      go_wp2_with (at_builtin;go_loud (refine wpList_append_own_at _ rfl (.tmp 47) (.tmp 51) 76 rfl w2.heap.size 40 r0 (.agg #[.int .i64 0,.int .i64 0,.int .i64 0]) 3 24 (und_o Tryz.underlying76) hri hrz0 hrz1 hrz2 rfl (by decide) u9 S.length (Rd.flat S) rfl (HO9.alloc _) ⟨w9.heap.size,0,none⟩ 1 1 [.int .i64 _,.int .i64 _,.int .i64 _] rfl rfl (Rd.news _ _ _ _) (Rd.one _ _ _) (by simp only [maxLen];omega) (by omega) (by first|assumption|(simp;omega)|omega) ?_;intro v7 w7 hown7 hgrow7 _ hblk7))
      go_roundw
      case rel=>exact⟨j+1,k+1,S++ [(r1,r2,r3)],by omega,by go_num,HST,by simp [hlen],Rd.Row.grown (Rd.Row.below (HRT.out) bel) hgrow7 (fun b off n c e e2=>by have h1:=HZr.out b2 off2 _ _ rfl;have h2:=HNB.out b e2.symm;cases e;omega),Lib.hid (fun b off n c e=>by cases e;exact HZr.out b2 off2 _ _ rfl),Lib.hid (fun p n c e=>by have h1:=HKr.out _ _ _ rfl;cases e;omega),Rd.own_snoc rfl hown7,bgrown bel hgrow7 HNB.out⟩
      case measure=>simp [intOf];omega
    ·have c2:decide (r3=D)=false:=decide_eq_false c
     have HST:=Lib.hid (show Rd.weave P (ds.take (j+1))=(k,S++ [(0,0,D)]) by rw [HX.out,HW.out];simp [Rd.wst,hP,c])
     clear hP
     rw [←hd]at HRK
     clear hd
     go_wp2_with (at_builtin;go_loud (refine wpList_append_own_at _ rfl (.tmp 55) (.tmp 58) 76 rfl w2.heap.size 40 r0 (.agg #[.int .i64 0,.int .i64 0,.int .i64 0]) 3 24 (und_o Tryz.underlying76) hri hrz0 hrz1 hrz2 rfl (by decide) u9 S.length (Rd.flat S) rfl (HO9.alloc _) ⟨w9.heap.size,0,none⟩ 1 1 [.int .i64 _,.int .i64 _,.int .i64 _] rfl rfl (Rd.news _ _ _ _) (Rd.one _ _ _) (by simp only [maxLen];omega) (by omega) (by first|assumption|(simp;omega)|omega) ?_;intro v7 w7 hown7 hgrow7 _ hblk7))
     go_roundw
     case rel=>exact⟨j+1,k,S++ [(0,0,D)],by omega,by go_num,HST,by simp [hlen],Rd.Row.grown (Rd.Row.below HRK.out bel) hgrow7 (fun b off n c e e2=>by have h1:=HZr.out b off n c e;have h2:=HNB.out b e2.symm;omega),HZr,HKr,Rd.own_snoc rfl hown7,bgrown bel hgrow7 HNB.out⟩
     case measure=>simp [intOf];omega
  ·obtain rfl:j=n:=by omega
   have HT:=Lib.hid (show ds.take j=ds from List.take_of_length_le (by rw [HN.out];exact Nat.le_refl _))
   clear hlt
   go_wp2_with fail
   go_ret2
   refine⟨_,rfl, ?_,bt hB2 hB⟩
   rw [←HT.out,HW.out]
   exact HO.base hB2.size
end Go.Proofs.YthpipedifekmpaaGreatDoor
end
