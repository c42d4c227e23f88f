import Derived.Test.YthnjjcoahdhmnaaGreatDoorEBB
import Derived.Test.YthnjjcoahdhmnaaGreatDoorEG1
import Derived.Test.YthnjjcoahdhmnaaGreatDoorEOM
import Derived.Test.YthnjjcoahdhmnaaGreatDoorEFA
import Derived.Test.YthnjjcoahdhmnaaGreatDoorECH
import Derived.Test.YthnjjcoahdhmnaaGreatDoorETK
import Derived.Test.YthnjjcoahdhmnaaGreatDoorEFO
import Derived.Test.YthnjjcoahdhmnaaGreatDoorEEV
import Derived.Laws.AppendOwnNone
import Derived.Test.YthnjjcoahdhmnaaGreatDoorESB
import Derived.Deep.RegionWith
import Derived.Deep.CutRange
set_option maxHeartbeats 8000000
set_option maxRecDepth 100000
set_option linter.unusedSimpArgs false
set_option linter.unusedVariables false
namespace Go.Proofs.YthnjjcoahdhmnaaGreatDoor
section
open Go Go.RowKit Go.BigFrame
section
variable {P:Program} {ops:Array Oper} {C:World->Prop}
theorem kN{Q:Exit->Act->World->Prop}{R:Act->Prop}(hQ:∀a w,C w->R a->Q .normal a w):∀ (l:List Oper) (a:Act) (w:World),C w->wpQuiet P ops C R l a->wpList P ops Q l a w
 | [],a,w,hw,h=>hQ a w hw h
 | o :: rest,a,w,hw,h=>by
  unfold wpQuiet at h
  unfold wpList
  split at h
  ·rename_i g
   rw [if_pos g]
   exact .inl (Oper.wp_of_quiet hw (fun a' w' hw' hk=>kN hQ rest a' w' hw' hk) h)
  ·rename_i g
   rw [if_neg g]
   exact kN hQ rest _ w hw h
end
theorem uM{P:Program}{W:World}{id:Nat}{Q:Exit->Act->World->Prop}{a:Act}{l:List Oper}
  (h:(∀q:Prop,(∀x,Below W.heap.size W x->q)=q)->wpQuiet P l.toArray (Below W.heap.size W) (fun a'=>∀x,Below W.heap.size W x->Q .normal a' x) l a):(Code.region id l.toArray false).wp P Q a W:=
 wp_region_lit (kN (C:=Below W.heap.size W) (fun a w hw h=>h w hw) l a W (Below.refl _ _) (h fun q=>propext ⟨fun k=>k W (Below.refl _ _),fun k _ _=>k⟩))
end
section
end
section
open Go.ChangeShapes Go.WideShapes Go.ChangeAt Go.RowKit Go.Lib Go.Sort Go.Shelf
theorem Az{P:Program}(w:World)(t u ty e:TypeId)(i:TypeInfo)(z:Value)(ht:P.underlying t=some (.slice e))(hu:P.underlying u=some (.int .i64))(hi:P.info? e=some i)(hz:i.zero=some z)
  (n:Nat) (h0:0<n) (hs:0<i.size) (h63:(n:Int)<=9223372036854775807) (h48:n*i.bytes<=281474976710656):
  (Builtin.append_ #[t,u] ty #[.slice none 0 0,.int .i64 (n:Int)]).run P w=
   .ok (.slice (some ⟨w.heap.size,0,none⟩) n (grownCap w n 0 e)) (w.drew.alloc (.cells (Builtin.zeroCells z.cells n++Builtin.zeroCells z.cells (grownCap w n 0 e-n)) e)):=by
 have hn:n≠0:=by omega
 have hn2:¬ n*i.size=0:=by
  intro h
  rcases Nat.mul_eq_zero.1 h with h|h <;> omega
 have h63':¬ (9223372036854775807<(n:Int)):=by omega
 have h48':¬ (281474976710656<Builtin.nextslicecap n 0*i.bytes):=by rw [nextslicecap_zero h0];omega
 have h48i:¬ (281474976710656<(n:Int)*(i.bytes:Int)):=by
  have:((n*i.bytes:Nat):Int)<=281474976710656:=by omega
  rw [Int.natCast_mul]at this
  omega
 have hw:IntKind.i64.wrap (n:Int)=(n:Int):=IntWalk.i64_in _ ⟨by omega,by omega⟩
 have hneg:¬ (n:Int)<0:=by omega
 simp [Builtin.append_,run_underlying ht,run_underlying hu,sizeOf,typeInfo,zeroValue,hi,hz,asInt,asIntOf,hw,hneg,h48i,Builtin.lenOf,hn,hn2,h63',h48',Question.forced,run_firstCells_none,newRow,grownCap]
theorem Dq{w:World}{ops:Array Oper}{rest:List Oper}{o:Oper}{a:Act}{Q:Exit->Act->World->Prop}(hgd:o.guard=none)(s x:Operand)
  (ho:o.op= .call {callee:= .builtin .append,args:= #[s,x],argTypes:= #[38,3]}) (n:Nat) (hs:a.eval s= .slice none 0 0) (hx:a.eval x= .int .i64 (n:Int)) (h0:0<n) (hn:n<=100000)
  (h:∀c w',n<=c->Ev.Own w' w.heap.size (.slice (some ⟨w.heap.size,0,none⟩) 0 c) []->Below w.heap.size w w'->wpList Tryo.prog ops Q rest (a.put o.dst (.slice (some ⟨w.heap.size,0,none⟩) n c)) w'):wpList Tryo.prog ops Q (o :: rest) a w:=by
 obtain⟨i0,hi,hz,hs0,hb0⟩:=info_parts bD
 refine wpList_plain hgd fun K hK=> ?_
 have hr:=Az (P:=Tryo.prog) w 38 3 o.type 72 i0 _ (aI Tryz.underlying38) (aI Tryz.underlying3) hi hz n h0 (by rw [hs0];decide) (by omega) (by rw [hb0];omega)
 unfold Oper.wp execOp
 simp only [ho,resolve,invoke,builtin,Sem.run_bind,Sem.run_pure,Result.andThen_ok,List.map_toArray,List.map_cons,List.map_nil,hs,hx,hr]
 have hge:=grownCap_ge w n 0 72
 have hle:=grownCap_le_maxLen w n 0 72 (by simp only [maxLen];omega)
 refine hK _ _ (h _ _ hge ?_ ?_)
 ·exact World.ownsRow_made w.drew _ _ (Nat.le_refl _) hle (by simp only [Array.size_append,size_zeroCells];show n*2+(_-n)*2=_*2;omega)
 ·exact baa (bU (Below.refl _ _)) _
theorem X9(n:Nat)(w:World)(h0:0<n)(hn:n<=100000):
  Calls Tryo.prog 114 #[.slice none 0 0,.int .i64 (n:Int)] w fun e w'=>∃v,e= .returned v/\Ev.Own w' w.heap.size v []/\Below w.heap.size w w':=by
 have d1:decide ((n:Int)<0)=false:=decide_eq_false (by omega)
 have d2:decide ((n:Int)>0)=true:=decide_eq_true (by omega)
 have d3:decide ((0:Int)<(n:Int))=true:=decide_eq_true (by omega)
 have e1:wrap64 (n:Int)=(n:Int):=IntWalk.wrap64_in _ ⟨by omega,by omega⟩
 have e2:wrap64 ((n:Int)-0)=(n:Int):=by rw [Int.sub_zero];exact e1
 go_enter Tryo.func114,Tryz.ntmps114
 go_wp2_with (at_builtin;refine Dq rfl (.tmp 20) (.tmp 21) rfl n rfl rfl h0 hn ?_;intro c w1 hc hown hb)
 go_ret
 exact⟨_,rfl,hown,hb⟩
theorem nQ{w:World}{ops:Array Oper}{rest:List Oper}{o:Oper}{a:Act}{Q:Exit->Act->World->Prop}(hgd:o.guard=none)(s x:Operand)
  (ho:o.op= .call {callee:= .builtin .append,args:= #[s,x],argTypes:= #[38,38]}) (B:Nat) (v:Value) (xs:List (Int×Int)) (hs:a.eval s=v) (hown:Ev.Own w B v xs)
  (v2:Value) (ys:List (Int×Int)) (hx:a.eval x=v2) (hrow:Ev.Row w v2 ys) (hlen:xs.length+ys.length<=100000) (hB:B<=w.heap.size)
  (h:∀v' w',Ev.Own w' B v' (xs++ys)->Below B w w'->wpList Tryo.prog ops Q rest (a.put o.dst v') w'):wpList Tryo.prog ops Q (o :: rest) a w:=by
 obtain⟨i0,hi,hz,hsz,hby⟩:=info_parts bD
 rcases hrow with ⟨rfl,rfl⟩|⟨b,off,cap,rfl,hc⟩
 ·exact wpList_append_own_none hgd s x 38 ho B 72 i0 2 (aI Tryz.underlying38) hi v xs.length (Ev.flat xs) hs hown hx (h v w (by rw [List.append_nil];exact hown) (Below.refl _ _))
 ·refine wpList_append_own_at _ hgd s x 38 ho B 72 i0 (.agg #[.int .i64 0,.int .i64 0]) 2 16 (aI Tryz.underlying38) hi hz hsz hby rfl (by decide) v xs.length (Ev.flat xs) hs hown ⟨b,off,none⟩ ys.length cap (Ev.flat ys) hx (Ev.aX ys) (fun j u hj=> ?_) (Ev.fD ys) (by simp only [maxLen];omega) (by omega) hB ?_
  ·have h9:=hc j u hj
   unfold Addr.add
   split
   ·rename_i e0;subst e0;simpa using h9
   ·exact h9
  ·intro v7 w7 hown7 hgrow7 _ hblk7
   refine h v7 w7 ?_ ((Below.refl _ _).grown hgrow7 hB (fun k e=>(World.ownsRow.lt hown k e).1))
   unfold Ev.Own
   rw [List.length_append,Ev.iq]
   exact hown7
namespace Dy
def tot(Ls:List (Value×List (Int×Int)))(j:Nat):Nat:=((Ls.take j).map fun x=>x.2.length).sum
def cat(Ls:List (Value×List (Int×Int)))(j:Nat):List (Int×Int):=((Ls.take j).map fun x=>x.2).flatten
theorem Fh{Ls:List (Value×List (Int×Int))}{j:Nat}{x:Value×List (Int×Int)}(h:Ls[j]? =some x):tot Ls (j+1)=tot Ls j+x.2.length:=by
 unfold tot
 rw [List.take_add_one,h]
 simp
theorem WV{Ls:List (Value×List (Int×Int))}{j:Nat}{x:Value×List (Int×Int)}(h:Ls[j]? =some x):cat Ls (j+1)=cat Ls j++x.2:=by
 unfold cat
 rw [List.take_add_one,h]
 simp
theorem Ym(Ls:List (Value×List (Int×Int)))(j:Nat):(cat Ls j).length=tot Ls j:=by
 unfold cat tot
 simp [List.length_flatten,Function.comp_def]
theorem r1{q m T:Nat}(h:q+m<=T)(h2:T<=1000):wrap64 ((q:Int)+(m:Int))=(q:Int)+(m:Int)/\decide ((q:Int)+(m:Int)<0)=false:=⟨IntWalk.wrap64_in _ ⟨by omega,by omega⟩,decide_eq_false (by omega)⟩
theorem Xn(Ls:List (Value×List (Int×Int)))(j:Nat):tot Ls j<=tot Ls (j+1):=by
 cases e:Ls[j]? with
 |none=>unfold tot;rw [List.take_add_one,e];simp
 |some x=>rw [Fh e];omega
theorem PY(Ls:List (Value×List (Int×Int)))(j:Nat):∀k,tot Ls j<=tot Ls (j+k)
 |0=>Nat.le_refl _
 |k+1=>Nat.le_trans (PY Ls j k) (Xn Ls (j+k))
end Dy
theorem LJ(b off cap n T:Nat)(Ls:List (Value×List (Int×Int)))(w:World)(hn:Ls.length=n)(hn10:n<=10)(hT:Dy.tot Ls n=T)(h0:0<T)(hT2:T<=1000)
  (hc:Hid (∀ (j:Nat) x,Ls[j]? =some x->w.cell? ⟨b,off+j,none⟩=some x.1)) (hr:Hid (∀ (j:Nat) x,Ls[j]? =some x->Ev.Row w x.1 x.2))
  (HG:Hid (∀w:World,Calls Tryo.prog 114 #[.slice none 0 0,.int .i64 (T:Int)] w fun e w'=>∃v,e= .returned v/\Ev.Own w' w.heap.size v []/\Below w.heap.size w w')):
  Calls Tryo.prog 43 #[.slice (some ⟨b,off,none⟩) n cap] w fun e w'=>∃v,e= .returned v/\Ev.Own w' w.heap.size v (Dy.cat Ls n)/\Below w.heap.size w w':=by
 have HN:=Lib.hid hn
 have HT:=Lib.hid hT
 have HM:=Lib.hid (fun(j:Nat) (hj:j<=n)=>(show Dy.tot Ls j<=T by have:=Dy.PY Ls j (n-j);rw [show j+(n-j)=n by omega,hT]at this;exact this))
 clear hn hT
 go_enter Tryo.func43,Tryz.ntmps43
 go_wp2_with fail
 go_loopw [3,11] (fun s i wr=>∃j:Nat,j<=n/\i= .int .i64 (j:Int)/\s= .int .i64 (Dy.tot Ls j:Int)/\w=wr) (fun _ i _=>n-(intOf i).toNat)
 case atStart=>exact⟨0,Nat.zero_le _,by first|rfl|trivial,by first|rfl|(simp [Dy.tot];done)|trivial,by first|rfl|trivial⟩
 case round=>
  obtain⟨j,hj,rfl,rfl,rfl⟩:=hrel
  by_cases hlt:j<n
  ·obtain⟨⟨v,l⟩,hx⟩:∃x,Ls[j]? =some x:=⟨_,List.getElem?_eq_getElem (by rw [HN.out];exact hlt)⟩
   have cx:=hc.out j _ hx
   have lx:=World.block_lt_of_cell? _ _ cx
   obtain⟨p,c,hv⟩:=(hr.out j _ hx).len
   dsimp only at cx lx hv
   subst hv
   have HX:=Lib.hid (Dy.Fh hx)
   have hm1:=HM.out (j+1) hlt
   have ht:=HX.out
   dsimp only at ht
   rw [ht]at hm1
   generalize hq:Dy.tot Ls j=q at*
   have HQ:=Lib.hid hq
   generalize hm:l.length=m at*
   have j0:(0:Int)<=(j:Int):=by omega
   have j1:(j:Int)<(n:Int):=by omega
   obtain⟨e1,d1⟩:=Dy.r1 hm1 hT2
   clear hx ht hq hm
   go_wp2_with fail
   go_roundw
   case rel=>exact⟨j+1,hlt,by go_num,by rw [HX.out];simp,trivial⟩
   case measure=>simp [intOf];omega
  ·obtain rfl:j=n:=by omega
   rw [HT.out]
   clear hlt
   go_wp2_with fail
   refine(HG.out _).mono ?_
   rintro e w1 ⟨v1,rfl,ho1,hb1⟩
   go_wp2_with fail
   go_loopw [6,27] (fun v i wr=>∃k:Nat,k<=j/\i= .int .i64 (k:Int)/\Ev.Own wr w.heap.size v (Dy.cat Ls k)/\Below w.heap.size w wr) (fun _ i _=>j-(intOf i).toNat)
   case atStart=>exact⟨0,Nat.zero_le _,rfl,ho1,hb1⟩
   case round=>
    obtain⟨k,hk,rfl,HO,hB⟩:=hrel
    obtain⟨w9,rfl⟩:∃x,x=wr:=⟨_,rfl⟩
    have hs9:=hB.size
    by_cases hlt:k<j
    ·obtain⟨⟨v,l⟩,hx⟩:∃x,Ls[k]? =some x:=⟨_,List.getElem?_eq_getElem (by rw [HN.out];exact hlt)⟩
     have cx:=hc.out k _ hx
     have cx9:=(hB.cell (World.block_lt_of_cell? _ _ cx)).trans cx
     have lx:=World.block_lt_of_cell? _ _ cx9
     have HR9:=Lib.hid ((hr.out k _ hx).below hB)
     have HX:=Lib.hid (Dy.WV hx)
     have hm1:=HM.out (k+1) hlt
     rw [Dy.Fh hx,←Dy.Ym]at hm1
     dsimp only at cx9 lx hm1
     have hm2:(Dy.cat Ls k).length+l.length<=100000:=Nat.le_trans hm1 (Nat.le_trans hT2 (by decide))
     obtain⟨pl,cl,hv⟩:=(hr.out k _ hx).len
     dsimp only at hv
     subst hv
     have k0:(0:Int)<=(k:Int):=by omega
     have k1:(k:Int)<(j:Int):=by omega
     clear hx cx hm1
     go_wp2_with (at_builtin;go_loud (refine nQ rfl (.tmp 31) (.tmp 32) rfl w.heap.size _ _ rfl HO _ _ rfl HR9.out hm2 hs9 ?_;intro v7 w7 hown7 hbel7))
     go_roundw
     case rel=>exact⟨k+1,hlt,by go_num,by rw [HX.out];exact hown7,Below.trans hB (by first|exact hbel7|exact hbel7.mono hs9)⟩
     case measure=>simp [intOf];omega
    ·obtain rfl:k=j:=by omega
     clear hlt
     go_wp2_with fail
     go_ret
     exact⟨_,rfl,HO,hB⟩
theorem Vj(b off cap n T:Nat)(Ls:List (Value×List (Int×Int)))(w:World)(hn:Ls.length=n)(hn10:n<=10)(hT:Dy.tot Ls n=T)(h0:0<T)(hT2:T<=1000)
  (hc:Hid (∀ (j:Nat) x,Ls[j]? =some x->w.cell? ⟨b,off+j,none⟩=some x.1)) (hr:Hid (∀ (j:Nat) x,Ls[j]? =some x->Ev.Row w x.1 x.2)):
  Calls Tryo.prog 43 #[.slice (some ⟨b,off,none⟩) n cap] w fun e w'=>∃v,e= .returned v/\Ev.Own w' w.heap.size v (Dy.cat Ls n)/\Below w.heap.size w w':=
 LJ b off cap n T Ls w hn hn10 hT h0 hT2 hc hr (Lib.hid fun w=>X9 T w h0 (by omega))
end
section
open Go.ChangeShapes Go.WideShapes Go.ChangeAt Go.RowKit Go.Lib Go.Sort Go.Shelf
namespace Ev
def on(D:Int)(l:List (Int×Int)):List Int:=(l.filter fun x=>decide (x.2=D)).map fun x=>x.1
theorem Xi{D:Int}{l:List (Int×Int)}{j:Nat}{k:Int}(h:l[j]? =some (k,D)):on D (l.take (j+1))=on D (l.take j)++ [k]:=by
 unfold on
 rw [List.take_add_one,h]
 simp
theorem Y9{D:Int}{l:List (Int×Int)}{j:Nat}{k d:Int}(h:l[j]? =some (k,d))(hd:¬ d=D):on D (l.take (j+1))=on D (l.take j):=by
 unfold on
 rw [List.take_add_one,h]
 simp [hd]
theorem Tq(D:Int)(l:List (Int×Int)):(on D l).length<=l.length:=by
 unfold on
 rw [List.length_map]
 exact List.length_filter_le _ _
end Ev
theorem V9(w:World)(E:Obj)(x:Int):∀j u,[Value.int .i64 x][j]? =some u->((w.alloc E).alloc (.cells #[.int .i64 x] 3)).cell? ((⟨w.heap.size+1,0,none⟩:Addr).add j)=some u:=by
 have:=oP (w.alloc E) x
 simpa using this
theorem Kw(va:Value)(l:List (Int×Int))(D:Int)(n:Nat)(w:World)(hr:Ev.Row w va l)(hl:l.length=n)(hn:n<=1000):
  Calls Tryo.prog 30 #[va,.int .i64 D] w fun e w'=>∃v,e= .returned v/\Il.Own w' w.heap.size v (Ev.on D l)/\Below w.heap.size w w':=by
 obtain⟨i0,hi,hz0,hz1,hz2⟩:=info_parts ku
 obtain⟨p2,c2,rfl⟩:=hr.len
 rw [hl]
 have HN:=Lib.hid hl
 clear hl
 go_enter Tryo.func30,Tryz.ntmps30
 go_wp2_with fail
 go_loopw [5,10] (fun v i wr=>∃j:Nat,j<=n/\i= .int .i64 (j:Int)/\Il.Own wr w.heap.size v (Ev.on D (l.take j))/\Below w.heap.size w wr) (fun _ i _=>n-(intOf i).toNat)
 case atStart=>exact⟨0,Nat.zero_le _,rfl,Il.Own.nil _ _,Below.refl _ _⟩
 case round=>
  obtain⟨j,hj,rfl,HO,hB⟩:=hrel
  obtain⟨w9,rfl⟩:∃x,x=wr:=⟨_,rfl⟩
  have hs9:=hB.size
  by_cases hlt:j<n
  ·obtain⟨⟨kd,d'⟩,hx⟩:∃x,l[j]? =some x:=⟨_,List.getElem?_eq_getElem (by rw [HN.out];exact hlt)⟩
   obtain⟨b,off,cc,hp1,hc⟩:=(hr.below hB).bH (by rw [HN.out];omega)
   rw [HN.out]at hp1
   simp only [Value.slice.injEq]at hp1
   obtain⟨rfl,_,rfl⟩:=hp1
   obtain⟨cx1,cx2⟩:=Ev.dW hc j (kd,d') hx
   have lx:=World.block_lt_of_cell? _ _ cx1
   dsimp only at lx cx1 cx2
   have j0:(0:Int)<=(j:Int):=by omega
   have j1:(j:Int)<(n:Int):=by omega
   have hol:(Ev.on D (l.take j)).length<=1000:=Nat.le_trans (Ev.Tq _ _) (by rw [List.length_take];omega)
   by_cases c:d'=D
   ·have c:=c.symm
    subst c
    have HX:=Lib.hid (Ev.Xi hx)
    have c3:(D==D)=true:=by simp
    clear hc hx
    go_wp2_with (at_builtin;go_loud (have HX7:w9.ownsRow w.heap.size 3 1 u5 (Ev.on D (l.take j)).length (Il.vals (Ev.on D (l.take j))):=HO;refine wpList_append_own_at _ rfl (.tmp 18) (.tmp 21) 30 rfl w.heap.size 3 i0 (.int .i64 0) 1 8 (aI Tryz.underlying30) hi hz0 hz1 hz2 rfl (by decide) _ (Ev.on D (l.take j)).length (Il.vals (Ev.on D (l.take j))) rfl ((HX7.alloc _).alloc _) ⟨w9.heap.size+1,0,none⟩ 1 1 [.int .i64 _] rfl rfl (V9 _ _ _) (uR _) (by simp only [maxLen];omega) (by omega) (by first|assumption|(simp;omega)|omega) ?_;intro v7 w7 hown7 hgrow7 _ hblk7))
    go_roundw
    case rel=>exact⟨j+1,hlt,by go_num,by rw [HX.out];exact Il.aM rfl hown7,aB bel hgrow7 (fun k e=>(World.ownsRow.lt HO k e).1)⟩
    case measure=>simp [intOf];omega
   ·have HX:=Lib.hid (Ev.Y9 hx c)
    have c3:(d'==D)=false:=by simpa using c
    have c4:decide (d'=D)=false:=decide_eq_false c
    clear hc hx c
    go_wp2_with fail
    go_roundw
    case rel=>exact⟨j+1,hlt,by go_num,by rw [HX.out];exact Il.Own.below HO bel,bel⟩
    case measure=>simp [intOf];omega
  ·obtain rfl:j=n:=by omega
   clear hlt
   go_wp2_with fail
   go_ret
   refine⟨_,rfl, ?_,hB⟩
   have e:l.take j=l:=List.take_of_length_le (by rw [HN.out];exact Nat.le_refl _)
   rw [←e]
   exact HO
end
section
open Go.ChangeShapes Go.WideShapes Go.ChangeAt Go.RowKit Go.Lib Go.Sort Go.Shelf
namespace Dy
def evs(i:Nat)(p:Bool)(F:Int):List (Int×Int):=Ev.sort ((Fe.dM i p).map (Ev.sh F)++((Fa.qB i).map (Ev.sh F)++((Ch.chL i).map (Ev.sh F)++(Sp.spL i).map (Ev.sh F))))
theorem aao:((List.range 14).all fun i=> [false,true].all fun p=>decide (0<(Fe.dM i p).length/\(Fe.dM i p).length<=60/\(Fa.qB i).length<=60/\(Ch.chL i).length<=60/\(Sp.spL i).length<=60))=true:=by decide+kernel
theorem Xe{i:Nat}(hi:i<14)(p:Bool):0<(Fe.dM i p).length/\(Fe.dM i p).length<=60/\(Fa.qB i).length<=60/\(Ch.chL i).length<=60/\(Sp.spL i).length<=60:=by
 have h:=List.all_eq_true.1 aao i (List.mem_range.2 hi)
 exact of_decide_eq_true (List.all_eq_true.1 h p (by cases p <;> simp))
theorem ZY(W:World)(a b c d:Value)(t:TypeId)(A B E G:List (Int×Int)):∀ (j:Nat) (x:Value×List (Int×Int)),[(a,A),(b,B),(c,E),(d,G)][j]? =some x->(W.alloc (.cells #[a,b,c,d] t)).cell? ⟨W.heap.size,0+j,none⟩=some x.1:=by
 intro j x hx
 rw [Nat.zero_add,Joins.cell_alloc_mark_at _ _ _ _ _ _ rfl]
 match j,hx with
 |0,h|1,h|2,h|3,h=>simp at h;subst h;rfl
 |j+4,h=>simp at h
theorem rows4{W:World}{a b c d:Value}{A B E G:List (Int×Int)}(h1:Ev.Row W a A)(h2:Ev.Row W b B)(h3:Ev.Row W c E)(h4:Ev.Row W d G):∀ (j:Nat) (x:Value×List (Int×Int)),[(a,A),(b,B),(c,E),(d,G)][j]? =some x->Ev.Row W x.1 x.2:=by
 intro j x hx
 match j,hx with
 |0,h=>simp at h;subst h;exact h1
 |1,h=>simp at h;subst h;exact h2
 |2,h=>simp at h;subst h;exact h3
 |3,h=>simp at h;subst h;exact h4
 |j+4,h=>simp at h
end Dy
theorem Iz(y pl:Int)(A B E G:List (Int×Int))(w:World)(h0:0<A.length)(hA':A.length<=60)(hB':B.length<=60)(hE':E.length<=60)(hG':G.length<=60)(hT:Tab w 7 kevCells)(hL:Tab w 5 lenCells)(hF:Tab w 0 Fe.cells)(hA:Tab w 1 Fa.cells)
  (HO:Hid (∀w:World,Tab w 7 kevCells->Tab w 5 lenCells->Tab w 0 Fe.cells->Calls Tryo.prog 38 #[.int .i64 y,.int .i64 pl] w fun e w'=>∃v,e= .returned (.tuple #[v,.int .i64 0])/\Ev.Own w' w.heap.size v A/\Below w.heap.size w w'))
  (HFa:Hid (∀w:World,Tab w 7 kevCells->Tab w 5 lenCells->Tab w 1 Fa.cells->Calls Tryo.prog 39 #[.int .i64 y] w fun e w'=>∃v,e= .returned (.tuple #[v,.int .i64 0])/\Ev.Own w' w.heap.size v B/\Below w.heap.size w w'))
  (HC:Hid (∀w:World,Tab w 7 kevCells->Tab w 5 lenCells->Calls Tryo.prog 40 #[.int .i64 y] w fun e w'=>∃v,e= .returned (.tuple #[v,.int .i64 0])/\Ev.Own w' w.heap.size v E/\Below w.heap.size w w'))
  (HS:Hid (∀w:World,Tab w 7 kevCells->Tab w 5 lenCells->Calls Tryo.prog 41 #[.int .i64 y] w fun e w'=>∃v,e= .returned (.tuple #[v,.int .i64 0])/\Ev.Own w' w.heap.size v G/\Below w.heap.size w w')):
  Calls Tryo.prog 9 #[.int .i64 y,.int .i64 pl] w fun e w'=>∃v,e= .returned (.tuple #[v,.int .i64 0])/\Ev.Own w' w.heap.size v (Ev.sort (A++(B++(E++G))))/\Below w.heap.size w w':=by
 go_enter Tryo.func9,Tryz.ntmps9
 go_wp2_with fail
 refine(HO.out _ (Tab.below hT bel) (Tab.below hL bel) (Tab.below hF bel)).mono ?_
 rintro e w1 ⟨v1,rfl,ho1,hb1⟩
 have hB01:Below w.heap.size w w1:=bel
 have hB1:Below w.heap.size w w1:=hB01
 go_wp2_with fail
 refine(HFa.out _ (Tab.below hT bel) (Tab.below hL bel) (Tab.below hA bel)).mono ?_
 rintro e w2 ⟨v2,rfl,ho2,hb2⟩
 have hB12:Below w1.heap.size w1 w2:=bel
 have hB2:Below w.heap.size w w2:=bt hB1 hB12
 go_wp2_with fail
 refine(HC.out _ (Tab.below hT bel) (Tab.below hL bel)).mono ?_
 rintro e w3 ⟨v3,rfl,ho3,hb3⟩
 have hB23:Below w2.heap.size w2 w3:=bel
 have hB3:Below w.heap.size w w3:=bt hB2 hB23
 go_wp2_with fail
 refine(HS.out _ (Tab.below hT bel) (Tab.below hL bel)).mono ?_
 rintro e w4 ⟨v4,rfl,ho4,hb4⟩
 have hB34:Below w3.heap.size w3 w4:=bel
 have hB4:Below w.heap.size w w4:=bt hB3 hB34
 have R1:=((ho1.row.below hB12).below hB23).below hB34
 have R2:=(ho2.row.below hB23).below hB34
 have R3:=ho3.row.below hB34
 have R4:=ho4.row
 clear ho1 ho2 ho3 ho4
 obtain⟨p1,c1,rfl⟩:=R1.len
 obtain⟨p2,c2,rfl⟩:=R2.len
 obtain⟨p3,c3,rfl⟩:=R3.len
 obtain⟨p4,c4,rfl⟩:=R4.len
 have HX:=Lib.hid (Dy.rows4 R1 R2 R3 R4)
 have HL:=Lib.hid (show Dy.tot [(Value.slice p1 A.length c1,A),(.slice p2 B.length c2,B),(.slice p3 E.length c3,E),(.slice p4 G.length c4,G)] 4=A.length+(B.length+(E.length+G.length)) by simp [Dy.tot])
 have HK:=Lib.hid (show Dy.cat [(Value.slice p1 A.length c1,A),(.slice p2 B.length c2,B),(.slice p3 E.length c3,E),(.slice p4 G.length c4,G)] 4=A++(B++(E++G)) by simp [Dy.cat])
 clear R1 R2 R3 R4
 go_wp2_with fail
 refine(Vj w4.heap.size 0 4 4 _ [(Value.slice p1 A.length c1,A),(.slice p2 B.length c2,B),(.slice p3 E.length c3,E),(.slice p4 G.length c4,G)] _ rfl (by omega) HL.out (by omega) (by omega) (Lib.hid (Dy.ZY w4 _ _ _ _ _ A B E G)) (Lib.hid fun j x hx=>(HX.out j x hx).below (ba w4 _))).mono ?_
 rintro e w5 ⟨v5,rfl,ho5,hb5⟩
 have hB45:Below w4.heap.size w4 w5:=bel
 have hB5:Below w.heap.size w w5:=bt hB4 hB45
 have R5:=Lib.hid ho5.row
 clear ho5
 rw [HK.out]at R5
 obtain⟨p5,m5,c5,rfl⟩:∃p m c,v5= .slice p m c:=⟨_,_,_,R5.out.len.choose_spec.choose_spec⟩
 go_wp2_with fail
 refine(jR _ _ _ R5.out (by simp only [List.length_append];omega)).mono ?_
 rintro e w6 ⟨v6,rfl,ho6,hb6⟩
 have hB56:Below w5.heap.size w5 w6:=bel
 have hz5:=hB5.size
 go_wp2_with fail
 go_ret2
 exact⟨_,rfl,ho6.base hz5,bt hB5 hB56⟩
theorem lK(y:Int)(i:Nat)(p:Bool)(w:World)(h:Yr.Is y i)(hT:Tab w 7 kevCells)(hL:Tab w 5 lenCells)(hF:Tab w 0 Fe.cells)(hA:Tab w 1 Fa.cells):
  Calls Tryo.prog 9 #[.int .i64 y,.int .i64 (if p then 1 else 0)] w fun e w'=>∃v,e= .returned (.tuple #[v,.int .i64 0])/\Ev.Own w' w.heap.size v (Dy.evs i p (Cal.first y))/\Below w.heap.size w w':=by
 obtain⟨a1,a2,a3,a4,a5⟩:=Dy.Xe h.2.2.1 p
 exact Iz y _ _ _ _ _ w (by rw [List.length_map];exact a1) (by rw [List.length_map];exact a2) (by rw [List.length_map];exact a3) (by rw [List.length_map];exact a4) (by rw [List.length_map];exact a5) hT hL hF hA
  (Lib.hid fun w hT hL hF=>mK y i p w h hT hL hF) (Lib.hid fun w hT hL hA=>Sm y i w h hT hL hA) (Lib.hid fun w hT hL=>Ja y i w h hT hL) (Lib.hid fun w hT hL=>IB y i w h hT hL)
theorem Dy.sU{i:Nat}(hi:i<14)(p:Bool)(F:Int):(Dy.evs i p F).length<=240:=by
 obtain⟨a1,a2,a3,a4,a5⟩:=Dy.Xe hi p
 unfold Dy.evs
 rw [(Ev.lD _).length_eq]
 simp only [List.length_append,List.length_map]
 omega
end
section
open Go.ChangeShapes Go.WideShapes Go.ChangeAt Go.RowKit Go.Lib Go.Sort Go.Shelf
def jJ(W:World)(g:Nat)(c:List Value):Prop:=(∀ (j:Nat) u,c[j]? =some u->W.cell? ⟨g,j,none⟩=some u)/\(∀i,W.frozen? ⟨g,i,none⟩=false)/\g<W.heap.size
theorem jJ.below{W W':World}{g:Nat}{c:List Value}(h:jJ W g c)(hb:Below W.heap.size W W'):jJ W' g c:=
 ⟨fun j u hj=>(hb.cell (p:=⟨g,j,none⟩) h.2.2).trans (h.1 j u hj),fun i=>(hb.frozen (p:=⟨g,i,none⟩) h.2.2).trans (h.2.1 i),Nat.lt_of_lt_of_le h.2.2 hb.size⟩
theorem bN(W:World)(c:List Value)(t:TypeId):jJ (W.alloc (.cells c.toArray t)) W.heap.size c:=
 ⟨fun j u hj=>(Joins.cell_alloc_mark_at _ _ _ _ _ _ rfl).trans (by simpa using hj),fun i=>by simp [go_sem],by simp⟩
theorem jJ.set{W:World}{g:Nat}{c:List Value}(h:jJ W g c)(k:Nat)(v:Value)(hk:k<c.length):jJ (W.setCell ⟨g,k,none⟩ v) g (c.set k v):=by
 refine⟨fun j u hj=> ?_,fun i=> ?_, ?_⟩
 ·by_cases e:k=j
  ·subst e
   rw [List.getElem?_set_self hk]at hj
   cases hj
   exact World.cell?_setCell_same _ _ _ (h.1 k _ (List.getElem?_eq_getElem hk))
  ·rw [List.getElem?_set_ne e]at hj
   exact(World.cell?_setCell_other _ _ _ _ (by simp [e])).trans (h.1 j u hj)
 ·have:=h.2.1 i
  simp [go_sem,this]
 ·simpa [World.setCell]using h.2.2
theorem Il.Own.VT{w:World}{B g o:Nat}{v x:Value}{l:List Int}(h:Il.Own w B v l)(hg:g<B):Il.Own (w.setCell ⟨g,o,none⟩ x) B v l:=by
 refine⟨h.1, ?_⟩
 rcases h.2 with h0|⟨gg,cp,cur,e,hb,hh,r2⟩
 ·exact .inl h0
 ·exact .inr ⟨gg,cp,cur,e,hb,by simpa [World.setCell,Array.getElem?_modify,show ¬ g=gg by omega]using hh,r2⟩
theorem jJ.drew{W:World}{g:Nat}{c:List Value}(h:jJ W g c):jJ W.drew g c:=⟨fun j u hj=>(by have:=h.1 j u hj;simpa using this),fun i=>(by have:=h.2.1 i;simpa using this),(by have:=h.2.2;simpa using this)⟩
theorem F4(D y n d:Int)(lf:Bool)(c1 c2 c3 om r1 r2 r3 er:Int)(L:List (Int×Int))(k:Nat)(w:World)(hl:L.length=k)(hk:k<=1000)(hD:I64 D)(hT:Tab w 7 kevCells)(hL:Tab w 5 lenCells)(hF:Tab w 0 Fe.cells)(hA:Tab w 1 Fa.cells)(hG:Tab w 4 Gr.gregCells)
  (HF:Hid (∀w:World,Tab w 7 kevCells->Tab w 5 lenCells->Calls Tryo.prog 23 #[.int .i64 D] w fun e w'=>e= .returned (.tuple #[.agg #[.int .i64 y,.int .i64 n,.bool lf,.int .i64 d],.int .i64 0])/\Below w.heap.size w w'))
  (HE:Hid (∀w:World,Tab w 7 kevCells->Tab w 5 lenCells->Tab w 0 Fe.cells->Tab w 1 Fa.cells->Calls Tryo.prog 9 #[.int .i64 y,.int .i64 1] w fun e w'=>∃v,e= .returned (.tuple #[v,.int .i64 0])/\Ev.Own w' w.heap.size v L/\Below w.heap.size w w'))
  (HGr:Hid (∀w:World,Tab w 4 Gr.gregCells->Calls Tryo.prog 28 #[.int .i64 D] w fun e w'=>e= .returned (.tuple #[.agg #[.int .i64 c1,.int .i64 c2,.int .i64 c3],.int .i64 0])/\Below w.heap.size w w'))
  (HO:Hid (∀w:World,Tab w 7 kevCells->Tab w 5 lenCells->Calls Tryo.prog 29 #[.int .i64 D] w fun e w'=>e= .returned (.tuple #[.int .i64 om,.int .i64 0])/\Below w.heap.size w w'))
  (HR:Hid (∀w:World,Tab w 7 kevCells->Tab w 5 lenCells->Tab w 0 Fe.cells->Calls Tryo.prog 31 #[.int .i64 D,.int .i64 1] w fun e w'=>e= .returned (.tuple #[.agg #[.int .i64 r1,.int .i64 r2,.int .i64 r3],.int .i64 er])/\Below w.heap.size w w')):
  Calls Tryo.prog 7 #[.int .i64 D,.int .i64 1] w fun e w'=>∃v,e= .returned (.tuple #[.agg #[.int .i64 D,.int .i64 y,.int .i64 n,.bool lf,.int .i64 d,.int .i64 c1,.int .i64 c2,.int .i64 c3,.int .i64 (D % 7),.int .i64 om,v,.int .i64 r1,.int .i64 r2,.int .i64 r3],.int .i64 0])/\Il.Row w' v (Ev.on D L)/\Below w.heap.size w w':=by
 have HWd:=Lib.hid (fun w=>aT D w hD)
 have HK:=Lib.hid (fun va w hr=>Kw va L D k w hr hl hk)
 clear hl hk
 go_enter Tryo.func7,Tryz.ntmps7
 go_wp2_with fail
 refine(HF.out _ (Tab.below hT bel) (Tab.below hL bel)).mono ?_
 rintro e w1 ⟨rfl,hb1⟩
 have hB1:Below w.heap.size w w1:=bel
 have A1:=Lib.hid ((bN w [.int .i64 0,.int .i64 0,.int .i64 0,.bool false,.int .i64 0,.int .i64 0,.int .i64 0,.int .i64 0,.int .i64 0,.int .i64 0,.slice none 0 0,.int .i64 0,.int .i64 0,.int .i64 0] 34).below hb1)
 have hz1:=hb1.size
 try simp at hz1
 go_wp2_with fail
 refine(HE.out _ (Tab.below hT bel) (Tab.below hL bel) (Tab.below hF bel) (Tab.below hA bel)).mono ?_
 rintro e w2 ⟨v2,rfl,ho2,hb2⟩
 have hB12:Below w1.heap.size w1 w2:=bel
 have hB2:Below w.heap.size w w2:=bt hB1 hB12
 have A2:=Lib.hid (A1.out.below hB12)
 obtain⟨hc2,hf2⟩:=aA hb2
 have hz2:=hb2.size
 try simp at hz2
 have hl2:w1.heap.size<w2.heap.size:=by omega
 have g20:w2.cell? ⟨w1.heap.size,0,none⟩=some (.int .i64 y):=(hc2 _ _ (by first|omega|(simp;done)|(simp;omega))).trans (by simp [go_sem])
 have g21:w2.cell? ⟨w1.heap.size,1,none⟩=some (.int .i64 n):=(hc2 _ _ (by first|omega|(simp;done)|(simp;omega))).trans (by simp [go_sem])
 have g22:w2.cell? ⟨w1.heap.size,2,none⟩=some (.bool lf):=(hc2 _ _ (by first|omega|(simp;done)|(simp;omega))).trans (by simp [go_sem])
 have g23:w2.cell? ⟨w1.heap.size,3,none⟩=some (.int .i64 d):=(hc2 _ _ (by first|omega|(simp;done)|(simp;omega))).trans (by simp [go_sem])
 have R2:=Lib.hid ho2.row
 obtain⟨p2,m2,cc2,rfl⟩:∃p m c,v2= .slice p m c:=⟨_,_,_,R2.out.len.choose_spec.choose_spec⟩
 clear ho2 hc2 hf2 A1 HF HE
 go_upto_region 9 with fail
 go_cut [9]from 37 to 41 (fun A wx=>∃g:Nat,A= .pointer (some ⟨g,0,none⟩)/\Hid (jJ wx g [.int .i64 D,.int .i64 y,.int .i64 n,.bool lf,.int .i64 d,.int .i64 0,.int .i64 0,.int .i64 0,.int .i64 (D % 7),.int .i64 0,.slice none 0 0,.int .i64 0,.int .i64 0,.int .i64 0])/\w2.heap.size<=g/\Below w2.heap.size w2 wx)
 case first=>
  go_region_with (go_at_call 27;refine(HWd.out _).mono ?_;rintro e w' ⟨rfl,rfl⟩)
  all_goals(go_wp2_with fail;go_meet;exact⟨w2.heap.size,rfl,Lib.hid (by repeat(first|exact bN _ _ _|refine jJ.drew ?_)),Nat.le_refl _,bel⟩)
 case rest=>
  obtain⟨g,rfl,HA3,hg,hB23⟩:=hcut
  rename World=>w3
  have hB3:Below w.heap.size w w3:=bt hB2 hB23
  have hz3:=hB23.size
  clear g20 g21 g22 g23
  go_wp2_with fail
  refine(HGr.out _ (Tab.below hG bel)).mono ?_
  rintro e w4 ⟨rfl,hb4⟩
  have hB34:Below w3.heap.size w3 w4:=bel
  have hB4:Below w.heap.size w w4:=bt hB3 hB34
  have HA4:=Lib.hid (HA3.out.below hB34)
  have hB24:Below w2.heap.size w2 w4:=bt hB23 hB34
  have x5:=HA4.out.1 5 _ rfl
  have x6:=HA4.out.1 6 _ rfl
  have x7:=HA4.out.1 7 _ rfl
  have xf:=HA4.out.2.1
  have xs:=HA4.out.2.2
  go_wp2_with fail
  refine(HO.out _ (Tab.below hT bel) (Tab.below hL bel)).mono ?_
  rintro e w5 ⟨rfl,hb5⟩
  have HA5:=Lib.hid ((((HA4.out.set 5 (.int .i64 c1) (by simp)).set 6 (.int .i64 c2) (by simp)).set 7 (.int .i64 c3) (by simp)).below hb5)
  have hB25:Below w2.heap.size w2 w5:=bel
  clear x5 x6 x7 xf xs HA3 HA4
  have x9:=HA5.out.1 9 _ rfl
  have xf:=HA5.out.2.1
  have xs:=HA5.out.2.2
  go_wp2_with fail
  refine(HK.out _ _ (R2.out.below bel)).mono ?_
  rintro e w6 ⟨v6,rfl,ho6,hb6⟩
  have hB26:Below w2.heap.size w2 w6:=bel
  have HA6:=Lib.hid ((HA5.out.set 9 (.int .i64 om) (by simp)).below hb6)
  obtain⟨p6,m6,c6,rfl⟩:∃p m c,v6= .slice p m c:=⟨_,_,_,ho6.row.len.choose_spec.choose_spec⟩
  have H6:=Lib.hid (show Il.Own w6 w5.heap.size (.slice p6 m6 c6) (Ev.on D L) by simpa [World.setCell]using ho6)
  have hgs:=xs
  clear x9 xf xs HA5 ho6
  have x10:=HA6.out.1 10 _ rfl
  have xf:=HA6.out.2.1
  have xs:=HA6.out.2.2
  go_wp2_with fail
  refine(HR.out _ (Tab.below hT bel) (Tab.below hL bel) (Tab.below hF bel)).mono ?_
  rintro e w7 ⟨rfl,hb7⟩
  have hB27:Below w2.heap.size w2 w7:=bel
  have HA7:=Lib.hid ((HA6.out.set 10 (.slice p6 m6 c6) (by simp)).below hb7)
  have H7:=Lib.hid ((Il.Own.VT H6.out hgs (o:=10) (x:= .slice p6 m6 c6)).below hb7)
  have HZ:=Lib.hid (A2.out.below hB27)
  clear x10 xf xs HA6 H6 A2 R2
  have x0:=HA7.out.1 0 _ rfl
  have x1:=HA7.out.1 1 _ rfl
  have x2:=HA7.out.1 2 _ rfl
  have x3:=HA7.out.1 3 _ rfl
  have x4:=HA7.out.1 4 _ rfl
  have x5:=HA7.out.1 5 _ rfl
  have x6:=HA7.out.1 6 _ rfl
  have x7:=HA7.out.1 7 _ rfl
  have x8:=HA7.out.1 8 _ rfl
  have x9:=HA7.out.1 9 _ rfl
  have x10:=HA7.out.1 10 _ rfl
  have x11:=HA7.out.1 11 _ rfl
  have x12:=HA7.out.1 12 _ rfl
  have x13:=HA7.out.1 13 _ rfl
  have xf:=HA7.out.2.1
  have xs:=HA7.out.2.2
  have z0:=HZ.out.1 0 _ rfl
  have z1:=HZ.out.1 1 _ rfl
  have z2:=HZ.out.1 2 _ rfl
  have z3:=HZ.out.1 3 _ rfl
  have z4:=HZ.out.1 4 _ rfl
  have z5:=HZ.out.1 5 _ rfl
  have z6:=HZ.out.1 6 _ rfl
  have z7:=HZ.out.1 7 _ rfl
  have z8:=HZ.out.1 8 _ rfl
  have z9:=HZ.out.1 9 _ rfl
  have z10:=HZ.out.1 10 _ rfl
  have z11:=HZ.out.1 11 _ rfl
  have z12:=HZ.out.1 12 _ rfl
  have z13:=HZ.out.1 13 _ rfl
  have zf:=HZ.out.2.1
  have zs:=HZ.out.2.2
  have hz12:=hB12.size
  have hng:w.heap.size<g:=by omega
  clear HA7 HZ
  go_wp2_with fail
  refine bodyPost_ret (v:= .tuple #[.agg #[.int .i64 D,.int .i64 y,.int .i64 n,.bool lf,.int .i64 d,.int .i64 c1,.int .i64 c2,.int .i64 c3,.int .i64 (D % 7),.int .i64 om,.slice p6 m6 c6,.int .i64 r1,.int .i64 r2,.int .i64 r3],.int .i64 0]) (by simp [results,Tryz.results7,go_sem, *]) rfl ?_
  refine⟨_,rfl,Il.Own.row (B:=w5.heap.size) ?_, ?_⟩
  ·repeat(with_reducible refine Il.Own.VT ?_ (by omega))
   with_reducible exact H7.out
  ·have hB7:Below w.heap.size w w7:=bt hB2 hB27
   have hng':w.heap.size<=g:=Nat.le_of_lt hng
   clear hB27 hB26 hB25
   exact bel
theorem FD(D y n d:Int)(lf:Bool)(c1 c2 c3 om r1 r2 r3 er:Int)(L:List (Int×Int))(k:Nat)(w:World)(hl:L.length=k)(hk:k<=1000)(hD:I64 D)(hT:Tab w 7 kevCells)(hL:Tab w 5 lenCells)(hF:Tab w 0 Fe.cells)(hA:Tab w 1 Fa.cells)(hG:Tab w 4 Gr.gregCells)
  (HF:Hid (∀w:World,Tab w 7 kevCells->Tab w 5 lenCells->Calls Tryo.prog 23 #[.int .i64 D] w fun e w'=>e= .returned (.tuple #[.agg #[.int .i64 y,.int .i64 n,.bool lf,.int .i64 d],.int .i64 0])/\Below w.heap.size w w'))
  (HE:Hid (∀w:World,Tab w 7 kevCells->Tab w 5 lenCells->Tab w 0 Fe.cells->Tab w 1 Fa.cells->Calls Tryo.prog 9 #[.int .i64 y,.int .i64 0] w fun e w'=>∃v,e= .returned (.tuple #[v,.int .i64 0])/\Ev.Own w' w.heap.size v L/\Below w.heap.size w w'))
  (HGr:Hid (∀w:World,Tab w 4 Gr.gregCells->Calls Tryo.prog 28 #[.int .i64 D] w fun e w'=>e= .returned (.tuple #[.agg #[.int .i64 c1,.int .i64 c2,.int .i64 c3],.int .i64 0])/\Below w.heap.size w w'))
  (HO:Hid (∀w:World,Tab w 7 kevCells->Tab w 5 lenCells->Calls Tryo.prog 29 #[.int .i64 D] w fun e w'=>e= .returned (.tuple #[.int .i64 om,.int .i64 0])/\Below w.heap.size w w'))
  (HR:Hid (∀w:World,Tab w 7 kevCells->Tab w 5 lenCells->Tab w 0 Fe.cells->Calls Tryo.prog 31 #[.int .i64 D,.int .i64 0] w fun e w'=>e= .returned (.tuple #[.agg #[.int .i64 r1,.int .i64 r2,.int .i64 r3],.int .i64 er])/\Below w.heap.size w w')):
  Calls Tryo.prog 7 #[.int .i64 D,.int .i64 0] w fun e w'=>∃v,e= .returned (.tuple #[.agg #[.int .i64 D,.int .i64 y,.int .i64 n,.bool lf,.int .i64 d,.int .i64 c1,.int .i64 c2,.int .i64 c3,.int .i64 (D % 7),.int .i64 om,v,.int .i64 r1,.int .i64 r2,.int .i64 r3],.int .i64 0])/\Il.Row w' v (Ev.on D L)/\Below w.heap.size w w':=by
 have HWd:=Lib.hid (fun w=>aT D w hD)
 have HK:=Lib.hid (fun va w hr=>Kw va L D k w hr hl hk)
 clear hl hk
 go_enter Tryo.func7,Tryz.ntmps7
 go_wp2_with fail
 refine(HF.out _ (Tab.below hT bel) (Tab.below hL bel)).mono ?_
 rintro e w1 ⟨rfl,hb1⟩
 have hB1:Below w.heap.size w w1:=bel
 have A1:=Lib.hid ((bN w [.int .i64 0,.int .i64 0,.int .i64 0,.bool false,.int .i64 0,.int .i64 0,.int .i64 0,.int .i64 0,.int .i64 0,.int .i64 0,.slice none 0 0,.int .i64 0,.int .i64 0,.int .i64 0] 34).below hb1)
 have hz1:=hb1.size
 try simp at hz1
 go_wp2_with fail
 refine(HE.out _ (Tab.below hT bel) (Tab.below hL bel) (Tab.below hF bel) (Tab.below hA bel)).mono ?_
 rintro e w2 ⟨v2,rfl,ho2,hb2⟩
 have hB12:Below w1.heap.size w1 w2:=bel
 have hB2:Below w.heap.size w w2:=bt hB1 hB12
 have A2:=Lib.hid (A1.out.below hB12)
 obtain⟨hc2,hf2⟩:=aA hb2
 have hz2:=hb2.size
 try simp at hz2
 have hl2:w1.heap.size<w2.heap.size:=by omega
 have g20:w2.cell? ⟨w1.heap.size,0,none⟩=some (.int .i64 y):=(hc2 _ _ (by first|omega|(simp;done)|(simp;omega))).trans (by simp [go_sem])
 have g21:w2.cell? ⟨w1.heap.size,1,none⟩=some (.int .i64 n):=(hc2 _ _ (by first|omega|(simp;done)|(simp;omega))).trans (by simp [go_sem])
 have g22:w2.cell? ⟨w1.heap.size,2,none⟩=some (.bool lf):=(hc2 _ _ (by first|omega|(simp;done)|(simp;omega))).trans (by simp [go_sem])
 have g23:w2.cell? ⟨w1.heap.size,3,none⟩=some (.int .i64 d):=(hc2 _ _ (by first|omega|(simp;done)|(simp;omega))).trans (by simp [go_sem])
 have R2:=Lib.hid ho2.row
 obtain⟨p2,m2,cc2,rfl⟩:∃p m c,v2= .slice p m c:=⟨_,_,_,R2.out.len.choose_spec.choose_spec⟩
 clear ho2 hc2 hf2 A1 HF HE
 go_upto_region 9 with fail
 go_cut [9]from 37 to 41 (fun A wx=>∃g:Nat,A= .pointer (some ⟨g,0,none⟩)/\Hid (jJ wx g [.int .i64 D,.int .i64 y,.int .i64 n,.bool lf,.int .i64 d,.int .i64 0,.int .i64 0,.int .i64 0,.int .i64 (D % 7),.int .i64 0,.slice none 0 0,.int .i64 0,.int .i64 0,.int .i64 0])/\w2.heap.size<=g/\Below w2.heap.size w2 wx)
 case first=>
  go_region_with (go_at_call 27;refine(HWd.out _).mono ?_;rintro e w' ⟨rfl,rfl⟩)
  all_goals(go_wp2_with fail;go_meet;exact⟨w2.heap.size,rfl,Lib.hid (by repeat(first|exact bN _ _ _|refine jJ.drew ?_)),Nat.le_refl _,bel⟩)
 case rest=>
  obtain⟨g,rfl,HA3,hg,hB23⟩:=hcut
  rename World=>w3
  have hB3:Below w.heap.size w w3:=bt hB2 hB23
  have hz3:=hB23.size
  clear g20 g21 g22 g23
  go_wp2_with fail
  refine(HGr.out _ (Tab.below hG bel)).mono ?_
  rintro e w4 ⟨rfl,hb4⟩
  have hB34:Below w3.heap.size w3 w4:=bel
  have hB4:Below w.heap.size w w4:=bt hB3 hB34
  have HA4:=Lib.hid (HA3.out.below hB34)
  have hB24:Below w2.heap.size w2 w4:=bt hB23 hB34
  have x5:=HA4.out.1 5 _ rfl
  have x6:=HA4.out.1 6 _ rfl
  have x7:=HA4.out.1 7 _ rfl
  have xf:=HA4.out.2.1
  have xs:=HA4.out.2.2
  go_wp2_with fail
  refine(HO.out _ (Tab.below hT bel) (Tab.below hL bel)).mono ?_
  rintro e w5 ⟨rfl,hb5⟩
  have HA5:=Lib.hid ((((HA4.out.set 5 (.int .i64 c1) (by simp)).set 6 (.int .i64 c2) (by simp)).set 7 (.int .i64 c3) (by simp)).below hb5)
  have hB25:Below w2.heap.size w2 w5:=bel
  clear x5 x6 x7 xf xs HA3 HA4
  have x9:=HA5.out.1 9 _ rfl
  have xf:=HA5.out.2.1
  have xs:=HA5.out.2.2
  go_wp2_with fail
  refine(HK.out _ _ (R2.out.below bel)).mono ?_
  rintro e w6 ⟨v6,rfl,ho6,hb6⟩
  have hB26:Below w2.heap.size w2 w6:=bel
  have HA6:=Lib.hid ((HA5.out.set 9 (.int .i64 om) (by simp)).below hb6)
  obtain⟨p6,m6,c6,rfl⟩:∃p m c,v6= .slice p m c:=⟨_,_,_,ho6.row.len.choose_spec.choose_spec⟩
  have H6:=Lib.hid (show Il.Own w6 w5.heap.size (.slice p6 m6 c6) (Ev.on D L) by simpa [World.setCell]using ho6)
  have hgs:=xs
  clear x9 xf xs HA5 ho6
  have x10:=HA6.out.1 10 _ rfl
  have xf:=HA6.out.2.1
  have xs:=HA6.out.2.2
  go_wp2_with fail
  refine(HR.out _ (Tab.below hT bel) (Tab.below hL bel) (Tab.below hF bel)).mono ?_
  rintro e w7 ⟨rfl,hb7⟩
  have hB27:Below w2.heap.size w2 w7:=bel
  have HA7:=Lib.hid ((HA6.out.set 10 (.slice p6 m6 c6) (by simp)).below hb7)
  have H7:=Lib.hid ((Il.Own.VT H6.out hgs (o:=10) (x:= .slice p6 m6 c6)).below hb7)
  have HZ:=Lib.hid (A2.out.below hB27)
  clear x10 xf xs HA6 H6 A2 R2
  have x0:=HA7.out.1 0 _ rfl
  have x1:=HA7.out.1 1 _ rfl
  have x2:=HA7.out.1 2 _ rfl
  have x3:=HA7.out.1 3 _ rfl
  have x4:=HA7.out.1 4 _ rfl
  have x5:=HA7.out.1 5 _ rfl
  have x6:=HA7.out.1 6 _ rfl
  have x7:=HA7.out.1 7 _ rfl
  have x8:=HA7.out.1 8 _ rfl
  have x9:=HA7.out.1 9 _ rfl
  have x10:=HA7.out.1 10 _ rfl
  have x11:=HA7.out.1 11 _ rfl
  have x12:=HA7.out.1 12 _ rfl
  have x13:=HA7.out.1 13 _ rfl
  have xf:=HA7.out.2.1
  have xs:=HA7.out.2.2
  have z0:=HZ.out.1 0 _ rfl
  have z1:=HZ.out.1 1 _ rfl
  have z2:=HZ.out.1 2 _ rfl
  have z3:=HZ.out.1 3 _ rfl
  have z4:=HZ.out.1 4 _ rfl
  have z5:=HZ.out.1 5 _ rfl
  have z6:=HZ.out.1 6 _ rfl
  have z7:=HZ.out.1 7 _ rfl
  have z8:=HZ.out.1 8 _ rfl
  have z9:=HZ.out.1 9 _ rfl
  have z10:=HZ.out.1 10 _ rfl
  have z11:=HZ.out.1 11 _ rfl
  have z12:=HZ.out.1 12 _ rfl
  have z13:=HZ.out.1 13 _ rfl
  have zf:=HZ.out.2.1
  have zs:=HZ.out.2.2
  have hz12:=hB12.size
  have hng:w.heap.size<g:=by omega
  clear HA7 HZ
  go_wp2_with fail
  refine bodyPost_ret (v:= .tuple #[.agg #[.int .i64 D,.int .i64 y,.int .i64 n,.bool lf,.int .i64 d,.int .i64 c1,.int .i64 c2,.int .i64 c3,.int .i64 (D % 7),.int .i64 om,.slice p6 m6 c6,.int .i64 r1,.int .i64 r2,.int .i64 r3],.int .i64 0]) (by simp [results,Tryz.results7,go_sem, *]) rfl ?_
  refine⟨_,rfl,Il.Own.row (B:=w5.heap.size) ?_, ?_⟩
  ·repeat(with_reducible refine Il.Own.VT ?_ (by omega))
   with_reducible exact H7.out
  ·have hB7:Below w.heap.size w w7:=bt hB2 hB27
   have hng':w.heap.size<=g:=Nat.le_of_lt hng
   clear hB27 hB26 hB25
   exact bel
end
section
open Go.ChangeShapes Go.WideShapes Go.ChangeAt Go.RowKit Go.Lib Go.Sort Go.Shelf
theorem Qt(D:Int)(w:World)(h:D< -1373427∨2278650<D):
  Calls Tryo.prog 7 #[.int .i64 D,.int .i64 0] w fun e w'=>e= .returned (.tuple #[.agg #[.int .i64 0,.int .i64 0,.int .i64 0,.bool false,.int .i64 0,.int .i64 0,.int .i64 0,.int .i64 0,.int .i64 0,.int .i64 0,.slice none 0 0,.int .i64 0,.int .i64 0,.int .i64 0],.int .i64 2])/\Below w.heap.size w w':=by
 have HF:=Lib.hid (fun w=>jw D w h)
 clear h
 go_enter Tryo.func7,Tryz.ntmps7
 go_wp2_with fail
 refine(HF.out _).mono ?_
 rintro e w1 ⟨rfl,hb1⟩
 have hB1:Below w.heap.size w w1:=bel
 have HZ:=Lib.hid ((bN w [.int .i64 0,.int .i64 0,.int .i64 0,.bool false,.int .i64 0,.int .i64 0,.int .i64 0,.int .i64 0,.int .i64 0,.int .i64 0,.slice none 0 0,.int .i64 0,.int .i64 0,.int .i64 0] 34).below hb1)
 have z0:=HZ.out.1 0 _ rfl
 have z1:=HZ.out.1 1 _ rfl
 have z2:=HZ.out.1 2 _ rfl
 have z3:=HZ.out.1 3 _ rfl
 have z4:=HZ.out.1 4 _ rfl
 have z5:=HZ.out.1 5 _ rfl
 have z6:=HZ.out.1 6 _ rfl
 have z7:=HZ.out.1 7 _ rfl
 have z8:=HZ.out.1 8 _ rfl
 have z9:=HZ.out.1 9 _ rfl
 have z10:=HZ.out.1 10 _ rfl
 have z11:=HZ.out.1 11 _ rfl
 have z12:=HZ.out.1 12 _ rfl
 have z13:=HZ.out.1 13 _ rfl
 have zf:=HZ.out.2.1
 have zs:=HZ.out.2.2
 clear HZ
 go_wp2_with fail
 refine bodyPost_ret (v:= .tuple #[.agg #[.int .i64 0,.int .i64 0,.int .i64 0,.bool false,.int .i64 0,.int .i64 0,.int .i64 0,.int .i64 0,.int .i64 0,.int .i64 0,.slice none 0 0,.int .i64 0,.int .i64 0,.int .i64 0],.int .i64 2]) (by simp [results,Tryz.results7,go_sem, *]) rfl ?_
 refine⟨rfl, ?_⟩
 exact bel
theorem Pb(D:Int)(w:World)(h:D< -1373427∨2278650<D):
  Calls Tryo.prog 7 #[.int .i64 D,.int .i64 1] w fun e w'=>e= .returned (.tuple #[.agg #[.int .i64 0,.int .i64 0,.int .i64 0,.bool false,.int .i64 0,.int .i64 0,.int .i64 0,.int .i64 0,.int .i64 0,.int .i64 0,.slice none 0 0,.int .i64 0,.int .i64 0,.int .i64 0],.int .i64 2])/\Below w.heap.size w w':=by
 have HF:=Lib.hid (fun w=>jw D w h)
 clear h
 go_enter Tryo.func7,Tryz.ntmps7
 go_wp2_with fail
 refine(HF.out _).mono ?_
 rintro e w1 ⟨rfl,hb1⟩
 have hB1:Below w.heap.size w w1:=bel
 have HZ:=Lib.hid ((bN w [.int .i64 0,.int .i64 0,.int .i64 0,.bool false,.int .i64 0,.int .i64 0,.int .i64 0,.int .i64 0,.int .i64 0,.int .i64 0,.slice none 0 0,.int .i64 0,.int .i64 0,.int .i64 0] 34).below hb1)
 have z0:=HZ.out.1 0 _ rfl
 have z1:=HZ.out.1 1 _ rfl
 have z2:=HZ.out.1 2 _ rfl
 have z3:=HZ.out.1 3 _ rfl
 have z4:=HZ.out.1 4 _ rfl
 have z5:=HZ.out.1 5 _ rfl
 have z6:=HZ.out.1 6 _ rfl
 have z7:=HZ.out.1 7 _ rfl
 have z8:=HZ.out.1 8 _ rfl
 have z9:=HZ.out.1 9 _ rfl
 have z10:=HZ.out.1 10 _ rfl
 have z11:=HZ.out.1 11 _ rfl
 have z12:=HZ.out.1 12 _ rfl
 have z13:=HZ.out.1 13 _ rfl
 have zf:=HZ.out.2.1
 have zs:=HZ.out.2.2
 clear HZ
 go_wp2_with fail
 refine bodyPost_ret (v:= .tuple #[.agg #[.int .i64 0,.int .i64 0,.int .i64 0,.bool false,.int .i64 0,.int .i64 0,.int .i64 0,.int .i64 0,.int .i64 0,.int .i64 0,.slice none 0 0,.int .i64 0,.int .i64 0,.int .i64 0],.int .i64 2]) (by simp [results,Tryz.results7,go_sem, *]) rfl ?_
 refine⟨rfl, ?_⟩
 exact bel
theorem GN(D pl:Int)(w:World)(h0:pl≠0)(h1:pl≠1):
  Calls Tryo.prog 7 #[.int .i64 D,.int .i64 pl] w fun e w'=>e= .returned (.tuple #[.agg #[.int .i64 0,.int .i64 0,.int .i64 0,.bool false,.int .i64 0,.int .i64 0,.int .i64 0,.int .i64 0,.int .i64 0,.int .i64 0,.slice none 0 0,.int .i64 0,.int .i64 0,.int .i64 0],.int .i64 1])/\Below w.heap.size w w':=by
 have d0:(pl !=0)=true:=by simpa using h0
 have d1:(pl !=1)=true:=by simpa using h1
 have e0:decide (pl=0)=false:=decide_eq_false h0
 have e1:decide (pl=1)=false:=decide_eq_false h1
 have HZ:=Lib.hid (bN w [.int .i64 0,.int .i64 0,.int .i64 0,.bool false,.int .i64 0,.int .i64 0,.int .i64 0,.int .i64 0,.int .i64 0,.int .i64 0,.slice none 0 0,.int .i64 0,.int .i64 0,.int .i64 0] 34)
 have z0:=HZ.out.1 0 _ rfl
 have z1:=HZ.out.1 1 _ rfl
 have z2:=HZ.out.1 2 _ rfl
 have z3:=HZ.out.1 3 _ rfl
 have z4:=HZ.out.1 4 _ rfl
 have z5:=HZ.out.1 5 _ rfl
 have z6:=HZ.out.1 6 _ rfl
 have z7:=HZ.out.1 7 _ rfl
 have z8:=HZ.out.1 8 _ rfl
 have z9:=HZ.out.1 9 _ rfl
 have z10:=HZ.out.1 10 _ rfl
 have z11:=HZ.out.1 11 _ rfl
 have z12:=HZ.out.1 12 _ rfl
 have z13:=HZ.out.1 13 _ rfl
 have zf:=HZ.out.2.1
 have zs:=HZ.out.2.2
 clear HZ
 go_enter Tryo.func7,Tryz.ntmps7
 go_wp2_with fail
 refine bodyPost_ret (v:= .tuple #[.agg #[.int .i64 0,.int .i64 0,.int .i64 0,.bool false,.int .i64 0,.int .i64 0,.int .i64 0,.int .i64 0,.int .i64 0,.int .i64 0,.slice none 0 0,.int .i64 0,.int .i64 0,.int .i64 0],.int .i64 1]) (by simp [results,Tryz.results7,go_sem, *]) rfl ?_
 refine⟨rfl, ?_⟩
 exact bel
theorem YC(D:Int)(p:Bool)(hD:I64 D):∃r1 r2 r3 er:Int,((r1=0/\r2=0/\r3=0)∨(r3=D/\D % 7=6))/\Hid (∀w:World,Tab w 7 kevCells->Tab w 5 lenCells->Tab w 0 Fe.cells->Calls Tryo.prog 31 #[.int .i64 D,.int .i64 (if p then 1 else 0)] w fun e w'=>e= .returned (.tuple #[.agg #[.int .i64 r1,.int .i64 r2,.int .i64 r3],.int .i64 er])/\Below w.heap.size w w'):=by
 rcases Rd.caseP D p with ⟨y,i,i2,h,h2,h3,h4⟩|HS
 ·by_cases h6:D % 7=6
  ·obtain⟨r1,r2,hX⟩:=Rd.there p D h h2 h3 h4 h6
   exact⟨r1,r2,D,0,.inr ⟨rfl,h6⟩,Lib.hid fun w hT hL hF=>Zb y i i2 p D r1 r2 w h h2 h3 h4 h6 hX (Rd.Ab h.2.2.1 p) hT hL hF⟩
  ·exact⟨0,0,0,4,.inl ⟨rfl,rfl,rfl⟩,Lib.hid fun w hT hL hF=>Rw y i i2 p D w h h2 h3 h4 h6 hT hL hF⟩
 ·exact⟨0,0,0,2,.inl ⟨rfl,rfl,rfl⟩,Lib.hid fun w hT hL hF=>J4 D _ 0 2 w (by decide) hT hL hF HS⟩
def Dy.Y7(p:Bool)(D y n:Int)(lf:Bool)(d c1 c2 c3 om r1 r2 r3:Int)(L:List (Int×Int)):Prop:=
 ∀w:World,Tab w 7 kevCells->Tab w 5 lenCells->Tab w 0 Fe.cells->Tab w 1 Fa.cells->Tab w 4 Gr.gregCells->Calls Tryo.prog 7 #[.int .i64 D,.int .i64 (if p then 1 else 0)] w fun e w'=>∃v,e= .returned (.tuple #[.agg #[.int .i64 D,.int .i64 y,.int .i64 n,.bool lf,.int .i64 d,.int .i64 c1,.int .i64 c2,.int .i64 c3,.int .i64 (D % 7),.int .i64 om,v,.int .i64 r1,.int .i64 r2,.int .i64 r3],.int .i64 0])/\Il.Row w' v (Ev.on D L)/\Below w.heap.size w w'
theorem YF(p:Bool)(y m d:Int)(i:Nat)(h:Yr.Is y i)(hv:D10.Valid y m d):∃r1 r2 r3:Int,((r1=0/\r2=0/\r3=0)∨(r3=D10.aS y m d/\D10.aS y m d % 7=6))/\Hid (Dy.Y7 p (D10.aS y m d) y (Cal.ofN (Cal.leap y) m) (Cal.ofL (Cal.leap y) m) d (Gr.gY (D10.aS y m d)) (Gr.gF (D10.aS y m d)).1 (Gr.gF (D10.aS y m d)).2.1 (Om.val (D10.aS y m d-Om.om y)) r1 r2 r3 (Dy.evs i p (Cal.first y))):=by
 have hbd:=D10.mG hv
 have hD:I64 (D10.aS y m d):=⟨by omega,by omega⟩
 obtain⟨r1,r2,r3,er,hr,HR⟩:=YC (D10.aS y m d) p hD
 have hlen:=Dy.sU h.2.2.1 p (Cal.first y)
 refine⟨r1,r2,r3,hr,Lib.hid ?_⟩
 cases p
 ·intro w hT hL hF hA hG
  exact FD (D10.aS y m d) y _ d _ _ _ _ _ r1 r2 r3 er _ _ w rfl (by omega) hD hT hL hF hA hG (Lib.hid fun w hT hL=>dz y m d w hT hL hv) (Lib.hid fun w hT hL hF hA=>lK y i false w h hT hL hF hA) (Lib.hid fun w hG=>iW (D10.aS y m d) w hG hbd.1 hbd.2) (Lib.hid fun w hT hL=>iY y m d w hv hT hL) HR
 ·intro w hT hL hF hA hG
  exact F4 (D10.aS y m d) y _ d _ _ _ _ _ r1 r2 r3 er _ _ w rfl (by omega) hD hT hL hF hA hG (Lib.hid fun w hT hL=>dz y m d w hT hL hv) (Lib.hid fun w hT hL hF hA=>lK y i true w h hT hL hF hA) (Lib.hid fun w hG=>iW (D10.aS y m d) w hG hbd.1 hbd.2) (Lib.hid fun w hT hL=>iY y m d w hv hT hL) HR
end
end Go.Proofs.YthnjjcoahdhmnaaGreatDoor
