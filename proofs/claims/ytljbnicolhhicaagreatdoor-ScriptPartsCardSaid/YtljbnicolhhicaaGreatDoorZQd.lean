import Derived.Test.YtljbnicolhhicaaGreatDoorZQc
set_option linter.defProp false
set_option maxHeartbeats 8000000
set_option maxRecDepth 100000
set_option linter.unusedSimpArgs false
set_option linter.unusedVariables false
namespace Go.Proofs.YtljbnicolhhicaaGreatDoor
open Go.ChangeShapes Go.WideShapes Go.ChangeAt Go.RowKit Go.Lib
open Go.ChangeMaps (setBlock heap_setBlock_same heap_setBlock_other)
theorem YH{P:Program}{w:World}(t kt et:TypeId)(b clock:Nat)(es:Array MapEntry)(s:Int)(v:Value)(ht:P.underlying t=some (.map kt et))(hk:P.underlying kt=some (.int .i64))
  (hb:w.1[b]? =some (.map es clock)) (hf:Instr.findNow (.int .i64) (.int .i64 s) es.toList 0=some none):
  (Instr.mapUpdate t (.map (some b)) (.int .i64 s) v).run P w= .ok () (setBlock w b (.map (es.push {key:= .int .i64 s,val:=v,born:=clock}) (clock+1))):=by
 have hc:(Instr.checkKey false 10000 kt (.int .i64 s)).run P w= .ok () w:=MapKept.run_checkKey (k:= .int .i64 s) hk (by simp [MapKept.IsKey]) false 9999
 simp [Instr.mapUpdate,run_underlying ht,MapKept.run_getObj_map hb,hc,MapKept.run_findKey hk hf,MapKept.run_setObj_map _ hb,Result.andThen,setBlock]
theorem yG{P:Program}(w:World){ops:Array Oper}{rest:List Oper}{o:Oper}{a:Act}{Q:Exit->Act->World->Prop}
  (hg:o.guard=none) (m x v:Operand) (t:TypeId) (hop:o.op=Op.insert t m x v) (kt et:TypeId) (ht:P.underlying t=some (.map kt et)) (hk:P.underlying kt=some (.int .i64)) (b clock:Nat) (es:Array MapEntry)
  (hb:w.1[b]? =some (.map es clock)) (hm:a.eval m= .map (some b)) (s:Int) (val:Value) (hx:a.eval x= .int .i64 s) (hv:a.eval v=val) (hf:Instr.findNow (.int .i64) (.int .i64 s) es.toList 0=some none)
  (hK:∀w',w'.1[b]? =some (.map (es.push {key:= .int .i64 s,val:=val,born:=clock}) (clock+1))->But b w w'->wpList P ops Q rest (a.put o.dst undef) w'):
  wpList P ops Q (o :: rest) a w:=by
 refine wpList_plain hg fun K' hK'=> ?_
 unfold Oper.wp
 simp [execOp,hop,hm,hx,hv,YH t kt et b clock es s val ht hk hb hf,Result.andThen]
 exact hK' _ _ (hK _ (heap_setBlock_same hb _) ⟨rfl,rfl,rfl,by simp [setBlock],fun k _ hk=>heap_setBlock_other hb _ hk⟩)
theorem Wn{P:Program}{w:World}(t kt et:TypeId)(b clock:Nat)(es:Array MapEntry)(s:Int)(i:Nat)(v:Value)(ht:P.underlying t=some (.map kt et))(hk:P.underlying kt=some (.int .i64))
  (hb:w.1[b]? =some (.map es clock)) (hf:Instr.findNow (.int .i64) (.int .i64 s) es.toList 0=some (some (i,v))):
  (Instr.lookup t (.map (some b)) (.int .i64 s) true).run P w= .ok (.tuple #[v,true]) w:=by
 have hc:∀e,(Instr.checkKey e 10000 kt (.int .i64 s)).run P w= .ok () w:=fun e=>MapKept.run_checkKey (k:= .int .i64 s) hk (by simp [MapKept.IsKey]) e 9999
 simp [Instr.lookup,run_underlying ht,MapKept.run_getObj_map hb,hc,MapKept.run_findKey hk hf,Result.andThen]
theorem Wm{P:Program}{w:World}(t kt et:TypeId)(b clock:Nat)(es:Array MapEntry)(s:Int)(z:Value)(ht:P.underlying t=some (.map kt et))(hk:P.underlying kt=some (.int .i64))
  (hz:(zeroValue et).run P w= .ok z w) (hb:w.1[b]? =some (.map es clock)) (hf:Instr.findNow (.int .i64) (.int .i64 s) es.toList 0=some none):
  (Instr.lookup t (.map (some b)) (.int .i64 s) true).run P w= .ok (.tuple #[z,false]) w:=by
 have hc:∀e,(Instr.checkKey e 10000 kt (.int .i64 s)).run P w= .ok () w:=fun e=>MapKept.run_checkKey (k:= .int .i64 s) hk (by simp [MapKept.IsKey]) e 9999
 simp [Instr.lookup,run_underlying ht,MapKept.run_getObj_map hb,hc,MapKept.run_findKey hk hf,hz,Result.andThen]
def kH(g h:Nat):Array MapEntry:= #[{key:= .int .i64 1,val:= .func (.func 11) #[] #[],born:=0},{key:= .int .i64 2,val:= .func (.func 12) #[] #[],born:=1},{key:= .int .i64 3,val:= .func (.func 13) #[] #[],born:=2},{key:= .int .i64 4,val:= .func (.func 14) #[] #[],born:=3},{key:= .int .i64 5,val:= .func (.func 15) #[] #[],born:=4},{key:= .int .i64 6,val:= .func (.func 16) #[] #[],born:=5},{key:= .int .i64 7,val:= .func (.func 17) #[] #[],born:=6},{key:= .int .i64 8,val:= .func (.func 18) #[] #[],born:=7},{key:= .int .i64 9,val:= .func (.func 39) #[] #[.pointer (some ⟨g,0,none⟩)],born:=8},{key:= .int .i64 10,val:= .func (.func 39) #[] #[.pointer (some ⟨h,0,none⟩)],born:=9},{key:= .int .i64 11,val:= .func (.func 22) #[] #[],born:=10},{key:= .int .i64 12,val:= .func (.func 23) #[] #[],born:=11}]
def Dm(w:World)(b:Nat):Prop:=∃g h,w.1[b]? =some (.map (kH g h) 12)/\w.cell? ⟨g,0,none⟩=some (.func (.func 20) #[] #[])/\w.cell? ⟨h,0,none⟩=some (.func (.func 21) #[] #[])/\b<w.1.size/\g<w.1.size/\h<w.1.size
theorem Dm.below{w W:World}{b:Nat}(h:Dm w b)(hW:Below w.1.size w W):Dm W b:=by
 obtain⟨g,h,h1,h2,h3,h4,h5,h6⟩:=h
 have:=hW.size
 exact⟨g,h,(hW.block _ h4).trans h1,(hW.cell h5).trans h2,(hW.cell h6).trans h3,vO,vO,vO⟩
theorem Ao(n:Nat)(w:World):
  Calls Tryo.prog 19 #[.func (.func n) #[] #[]] w fun e w'=>e= .returned (.func (.func 39) #[] #[.pointer (some ⟨w.1.size,0,none⟩)])/\w'=w.alloc (.cells #[.func (.func n) #[] #[]] 49):=by
 go_enter (vF Tryz.func19),Tryz.ntmps19
 go_wp2_with fail
 go_ret
 exact⟨rfl,rfl⟩
theorem But.get{b k:Nat}{w W:World}{o:Obj}(h:But b w W)(hk:w.1[k]? =some o)(hn:k≠b):W.1[k]? =some o:=(h.block k (Array.getElem?_eq_some_iff.1 hk).1 hn).trans hk
theorem Ed(w:World)(o:Obj)(k:Nat)(h:k<w.1.size):(w.alloc o).1[k]? =w.1[k]? :=by
 show(w.1.push o)[k]? =_
 rw [Array.getElem?_push_lt h,Array.getElem?_eq_getElem h]
theorem Oq(w:World):Calls Tryo.prog 9 #[] w fun e w'=>e= .returned (.map (some w.1.size))/\Dm w' w.1.size/\Below w.1.size w w':=by
 have hmm:= @run_makeMap Tryo.prog
 have h0:(w.alloc (.map #[] 0)).1[w.1.size]? =some (.map #[] 0):=by first|(simp;done)|(show(w.1.push _)[w.1.size]? =_;simp)
 have hL:Below w.1.size w (w.alloc (.map #[] 0)):=ba _ _
 go_enter (vF Tryz.func9),Tryz.ntmps9
 go_wp2_with (refine yG _ rfl _ _ _ 44 rfl 3 47 (aB Tryz.underlying44) (aB Tryz.underlying3) w.1.size _ _ tQ rfl _ _ rfl rfl vK ?_;rintro w1 hm hB;have hL:=But.below hB hL (Nat.le_refl _))
 refine(Ao _ _).mono ?_
 rintro e _ ⟨rfl,rfl⟩
 have hz:=(Array.getElem?_eq_some_iff.1 hm).1
 have hq:(w1.alloc (.cells #[.func (.func 20) #[] #[]] 49)).1[w.1.size]? =_:=(Ed _ _ _ hz).trans hm
 have hL:=baa hL (.cells #[.func (.func 20) #[] #[]] 49)
 have hg:=al0 w1 (.cells #[.func (.func 20) #[] #[]] 49)
 have hgs:w.1.size<w1.1.size:=hz
 generalize w1.1.size=g at*
 go_wp2_with (refine yG _ rfl _ _ _ 44 rfl 3 47 (aB Tryz.underlying44) (aB Tryz.underlying3) w.1.size _ _ tQ rfl _ _ rfl rfl vK ?_;rintro w1 hm hB;have hL:=But.below hB hL (Nat.le_refl _);have hg:=hB.get hg vO)
 refine(Ao _ _).mono ?_
 rintro e _ ⟨rfl,rfl⟩
 have hz:=(Array.getElem?_eq_some_iff.1 hm).1
 have hq:(w1.alloc (.cells #[.func (.func 21) #[] #[]] 49)).1[w.1.size]? =_:=(Ed _ _ _ hz).trans hm
 have hL:=baa hL (.cells #[.func (.func 21) #[] #[]] 49)
 have hh:=al0 w1 (.cells #[.func (.func 21) #[] #[]] 49)
 have hhs:w.1.size<w1.1.size:=hz
 have hg:=(Ed w1 (.cells #[.func (.func 21) #[] #[]] 49) _ (Array.getElem?_eq_some_iff.1 hg).1).trans hg
 generalize w1.1.size=h at*
 go_wp2_with (refine yG _ rfl _ _ _ 44 rfl 3 47 (aB Tryz.underlying44) (aB Tryz.underlying3) w.1.size _ _ tQ rfl _ _ rfl rfl vK ?_;rintro w1 hm hB;have hL:=But.below hB hL (Nat.le_refl _);have hg:=hB.get hg vO;have hh:=hB.get hh vO)
 go_ret
 have hlt:∀k o,w1.1[k]? =some o->k<w1.1.size:=fun k o h=>(Array.getElem?_eq_some_iff.1 h).1
 exact⟨rfl,⟨g,h,hm,World.news_of_block hg 0 _ rfl,World.news_of_block hh 0 _ rfl,hlt _ _ hm,hlt _ _ hg,hlt _ _ hh⟩,hL⟩
theorem Am:(∀(o:O26)(b f:Nat)(i clock:Nat)(cs:Array Value)(es:Array MapEntry)(X:A26)(w:World)(hb:w.1[b]? =some (.map es clock))(hf:Instr.findNow (.int .i64) (.int .i64 o.k) es.toList 0=some (some (i,.func (.func f) #[] cs)))
  (hK:∀a (w:World),(callFunc f a).run Tryo.prog w= .ok (.enter f a) w) (HF:∀W,Below w.1.size w W->vB f (#[o.v]++cs) W X.v),vB 10 #[.map (some b),o.v] w X.v)/\(∀(o:O26)(b:Nat)(clock:Nat)(es:Array MapEntry)(w:World)(hb:w.1[b]? =some (.map es clock))(hf:Instr.findNow (.int .i64) (.int .i64 o.k) es.toList 0=some none),Calls Tryo.prog 10 #[.map (some b),o.v] w fun e w'=>e= .returned (A26.v {e:=8})/\Below w.1.size w w'):=by
 refine⟨@fun o b f i clock cs es X w hb hf hK HF=>(fun(k90:Nat)=> ?_) 0,@fun o b clock es w hb hf=> ?_⟩
 all_goals(
 have hbl:=(Array.getElem?_eq_some_iff.1 hb).1
 first|(have _:=k90;have hlk:∀W,Below w.1.size w W->(Instr.lookup 44 (.map (some b)) (.int .i64 o.k) true).run Tryo.prog W= .ok (.tuple #[.func (.func f) #[] cs,true]) W:=fun W hW=>Wn 44 3 47 b clock es o.k i _ (aB Tryz.underlying44) (aB Tryz.underlying3) ((hW.block _ hbl).trans hb) hf)|(have hlk:∀W,Below w.1.size w W->(Instr.lookup 44 (.map (some b)) (.int .i64 o.k) true).run Tryo.prog W= .ok (.tuple #[.nilFunc,false]) W:=fun W hW=>Wm 44 3 47 b clock es o.k _ (aB Tryz.underlying44) (aB Tryz.underlying3) (by first|exact(au (Tryo.zeroValue 47) Tryz.zeroValue47) W|exact(au (Tryo.zeroValue 47) Tryz.zeroValue47)|(simp [go_sem];done)|kernel_rfl) ((hW.block _ hbl).trans hb) hf)
 have hl0:=hlk ((w.alloc (.cells #[o.k,o.a,o.b,o.c,o.l,o.p,o.q,o.r,o.s,o.t] 42)).alloc (.cells (A26.c {}) 39)) bel
 clear hlk hf hb
 unfold O26.v A26.c at*
 go_enter (vF Tryz.func10),Tryz.ntmps10
 go_wp2_with fail
 first|(have _:=k90;refine(HF _ bel).mono ?_)|(refine(fu _ _).mono ?_)
 rintro e w1 ⟨rfl,hb1⟩
 have hR1:Row w1 (w.1.size+1) 39 (A26.c {}):=(hb1.block _ vS).trans (al1 _ _ _)
 have hz1:=hb1.size
 try simp at hz1
 go_wp2_with (refine wpList_store_row rfl _ _ _ rfl _ _ rfl rfl _ _ hR1 vK rfl vK ?_)
 first|(have _:=k90;refine bodyPost_ret (v:=A26.v X) (results_cell_row rfl _ _ _ _ _ _ _ rfl (setRow_heap _ _ _ _ _ _ hR1) (aB (aB Tryz.underlying39)) rfl vK) rfl ⟨by first|rfl|(simp [*];done), ?_⟩)|(refine bodyPost_ret (v:=A26.v {e:=8}) (results_cell_row rfl _ _ _ _ _ _ _ rfl (setRow_heap _ _ _ _ _ _ hR1) (aB (aB Tryz.underlying39)) rfl vK) rfl ⟨by first|rfl|(simp [*];done), ?_⟩)
 exact below_setRow bel vO _
 )
def u6:=Am.1
def Rp:=Am.2
theorem aaJ(w:World)(a b:Obj):((w.alloc a).alloc b).drew.1.size=w.1.size+1+1:=by
 show((w.1.push a).push b).size=_
 simp
section
variable {P:Program} {md:Region.Mode} {ops:Array Oper} {Q:Exit->Act->World->Prop} {c:Nat} {w0:World}
theorem LA{i j:Nat}{oi oj:Oper}{f:Nat}{listed:Array Bool}{a:Act}{w:World}(hi:ops[i]? =some oi)(hj:ops[j]? =some oj)(hr:((Region.ready md ops listed).all (fun x=>x==i||x==j)&& !(Region.ready md ops listed).isEmpty)=true)
  (hk:(listed.setIfInBounds i true).getD c true=true) (hjc:(listed.setIfInBounds j true).getD c true=listed.getD c true) (hw:listed.getD c true=false->w=w0)
  (h1:∀K':Act->World->Prop,Shut (∀a w,dx P md ops Q c w0 f (listed.setIfInBounds i true) a w->K' a w)->if Region.wanted oi (yielded ops a.tmps)=true then Oper.wp P oi a w K' Q else K' (a.put oi.dst undef) w)
  (h2:∀K':Act->World->Prop,Shut (∀a,dx P md ops Q c w0 f (listed.setIfInBounds j true) a w->K' a w)->if Region.wanted oj (yielded ops a.tmps)=true then Oper.wp P oj a w K' Q else K' (a.put oj.dst undef) w):
  dx P md ops Q c w0 (f+1) listed a w:=by
 simp only [Bool.and_eq_true,List.all_eq_true,Bool.or_eq_true,beq_iff_eq,Bool.not_eq_true']at hr
 refine⟨fun h0=>(by rw [h0]at hr;simp at hr),fun x hx=> ?_⟩
 rcases hr.1 x hx with rfl|rfl
 ·exact wpOp_step hi (fun K' hK=>h1 K' (fun a w hA=>hK a w ⟨fun h=>(by rw [hk]at h;cases h),hA⟩))
 ·exact wpOp_step hj (fun K' hK=>h2 K' (fun a hA=>hK a w ⟨fun h=>hw (hjc▸h),hA⟩))
end
theorem do26(o:O26)(m:Int)(X:A26)(HX:∀W b,Tbs W m->Dm W b->vB 10 #[.map (some b),o.v] W X.v):Yes m 8 #[o.v] X.v:=by
 intro w hT
 unfold O26.v at*
 go_enter (vF Tryz.func8),Tryz.ntmps8
 go_wp2_with fail
 refine fE 0 vK ?_
 refine LA (i:=0) (j:=1) rfl rfl vK vK vK (fun _=>rfl) (fun K hK=> ?_) (fun K hK=> ?_)
 ·go_simp
  refine(Oq _).mono ?_
  rintro e w1 ⟨rfl,hd1,hb1⟩
  rw [aaJ]at hd1
  obtain⟨hc1,hf1⟩:=aL hb1
  have hz1:w.1.size+2<=w1.1.size:=Nat.le_trans (by show w.1.size+2<=((w.1.push _).push _).size;simp) hb1.size
  have hs1:w.1.size<w1.1.size:=vO
  have hR1:Row w1 (w.1.size+1) 39 (A26.c {}):=(hb1.block (w.1.size+1) (by show w.1.size+1<((w.1.push _).push _).size;simp)).trans (al1 _ _ _)
  have⟨g0,g1,g2,g3⟩:=ce5 hc1 (w.1.size) (o.k) (o.a) (o.b) (o.c)
  have g4:w1.cell? ⟨w.1.size,4,none⟩=some (.bool o.l):=cel hc1
  have g5:w1.cell? ⟨w.1.size,5,none⟩=some (o.p:vV):=cel hc1
  have g6:w1.cell? ⟨w.1.size,6,none⟩=some (o.q:vV):=cel hc1
  have g7:w1.cell? ⟨w.1.size,7,none⟩=some (o.r:vV):=cel hc1
  have g8:w1.cell? ⟨w.1.size,8,none⟩=some (o.s:vV):=cel hc1
  have g9:w1.cell? ⟨w.1.size,9,none⟩=some (.string o.t):=cel hc1
  refine hK.out _ _ ?_
  clear hK K
  try simp only [Act.put,List.setIfInBounds_toArray]
  refine bG (k:=1) rfl vK vK (fun K hK=> ?_)
  go_simp
  refine hK.out _ _ ?_
  clear hK K
  try simp only [Act.put,List.setIfInBounds_toArray]
  refine bG (k:=2) rfl vK vK (fun K hK=> ?_)
  go_simp
  refine(HX _ _ (hT.below bel) hd1).mono ?_
  rintro e w2 ⟨rfl,hb2⟩
  have hR2:Row w2 (w.1.size+1) 39 (A26.c {}):=(hb2.block (w.1.size+1) vO).trans hR1
  refine hK.out _ _ ?_
  clear hK K
  try simp only [Act.put,List.setIfInBounds_toArray]
  refine bG (k:=3) rfl vK vK (fun K hK=> ?_)
  rw [if_pos (by rfl)]
  refine wp_store_row 39 (.tmp 2) (.tmp 5) rfl (w.1.size+1) X.c rfl rfl 39 (A26.c {}) hR2 vK rfl vK ?_
  refine hK.out _ _ ?_
  clear hK K
  try simp only [Act.put,List.setIfInBounds_toArray]
  refine iQ vK ?_ _
  go_wp2_with fail
  refine bodyPost_ret (v:=A26.v X) (results_cell_row rfl _ _ _ _ _ _ _ rfl (setRow_heap _ _ _ _ _ _ hR2) (aB (aB Tryz.underlying39)) rfl vK) rfl ⟨by first|rfl|(simp [*];done), ?_⟩
  exact below_setRow bel vO _
 ·go_simp
  refine hK.out _ ?_
  clear hK K
  try simp only [Act.put,List.setIfInBounds_toArray]
  refine bG (k:=0) rfl vK vK (fun K hK=> ?_)
  go_simp
  refine(Oq _).mono ?_
  rintro e w1 ⟨rfl,hd1,hb1⟩
  rw [aaJ]at hd1
  obtain⟨hc1,hf1⟩:=aL hb1
  have hz1:w.1.size+2<=w1.1.size:=Nat.le_trans (by show w.1.size+2<=((w.1.push _).push _).size;simp) hb1.size
  have hs1:w.1.size<w1.1.size:=vO
  have hR1:Row w1 (w.1.size+1) 39 (A26.c {}):=(hb1.block (w.1.size+1) (by show w.1.size+1<((w.1.push _).push _).size;simp)).trans (al1 _ _ _)
  have⟨g0,g1,g2,g3⟩:=ce5 hc1 (w.1.size) (o.k) (o.a) (o.b) (o.c)
  have g4:w1.cell? ⟨w.1.size,4,none⟩=some (.bool o.l):=cel hc1
  have g5:w1.cell? ⟨w.1.size,5,none⟩=some (o.p:vV):=cel hc1
  have g6:w1.cell? ⟨w.1.size,6,none⟩=some (o.q:vV):=cel hc1
  have g7:w1.cell? ⟨w.1.size,7,none⟩=some (o.r:vV):=cel hc1
  have g8:w1.cell? ⟨w.1.size,8,none⟩=some (o.s:vV):=cel hc1
  have g9:w1.cell? ⟨w.1.size,9,none⟩=some (.string o.t):=cel hc1
  refine hK.out _ _ ?_
  clear hK K
  try simp only [Act.put,List.setIfInBounds_toArray]
  refine bG (k:=2) rfl vK vK (fun K hK=> ?_)
  go_simp
  refine(HX _ _ (hT.below bel) hd1).mono ?_
  rintro e w2 ⟨rfl,hb2⟩
  have hR2:Row w2 (w.1.size+1) 39 (A26.c {}):=(hb2.block (w.1.size+1) vO).trans hR1
  refine hK.out _ _ ?_
  clear hK K
  try simp only [Act.put,List.setIfInBounds_toArray]
  refine bG (k:=3) rfl vK vK (fun K hK=> ?_)
  rw [if_pos (by rfl)]
  refine wp_store_row 39 (.tmp 2) (.tmp 5) rfl (w.1.size+1) X.c rfl rfl 39 (A26.c {}) hR2 vK rfl vK ?_
  refine hK.out _ _ ?_
  clear hK K
  try simp only [Act.put,List.setIfInBounds_toArray]
  refine iQ vK ?_ _
  go_wp2_with fail
  refine bodyPost_ret (v:=A26.v X) (results_cell_row rfl _ _ _ _ _ _ _ rfl (setRow_heap _ _ _ _ _ _ hR2) (aB (aB Tryz.underlying39)) rfl vK) rfl ⟨by first|rfl|(simp [*];done), ?_⟩
  exact below_setRow bel vO _
end Go.Proofs.YtljbnicolhhicaaGreatDoor
