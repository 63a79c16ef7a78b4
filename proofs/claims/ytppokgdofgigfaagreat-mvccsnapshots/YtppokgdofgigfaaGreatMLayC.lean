import Derived.Test.YtppokgdofgigfaaGreatMUnd
set_option maxHeartbeats 4000000
set_option maxRecDepth 100000
namespace Go.Proofs.YtppokgdofgigfaaGreat
open Go.RowKit Go Go.Sort Go.Maps
theorem lay_A (w:World) (hb mb tb:Nat) (T:List (Int×Nat)) (E:List En) (C:Nat→Ch) (σ:Nat→Option Nat) (q:Nat) (h:HW w hb mb tb T E C σ q) (hq:q≤1000) (k:Int) (h1: -9223372036854775808≤k) (h2:k≤9223372036854775807) (S:ByteArray) (hS:S.size≤maxLen) (z:VV) (hz:VOK w σ z) (l:Nat) (hl:lkT T k=some l) (cb:Nat) (he:lkE E k S.data.toList=some cb):
  Calls Tryz.prog 60 #[.pointer (some ⟨hb,0,none⟩),.int .i64 k,.string S,.agg #[.int .i64 z.1.wr,.bool z.1.th,.slice z.2.1 z.1.n z.2.2]] w fun x w'=>LayOut w hb mb tb E C σ q k S z x w':=by
 obtain⟨wr,hwr⟩: ∃wr,wr=z.1.wr:=⟨_,rfl⟩
 obtain⟨th,hth⟩: ∃th,th=z.1.th:=⟨_,rfl⟩
 obtain⟨rv,hrv⟩: ∃rv,rv=z.2.1:=⟨_,rfl⟩
 obtain⟨rn,hrn⟩: ∃rn,rn=z.1.n:=⟨_,rfl⟩
 obtain⟨rc,hrc⟩: ∃rc,rc=z.2.2:=⟨_,rfl⟩
 have HZ:Hid (wr=z.1.wr∧th=z.1.th∧rv=z.2.1∧rn=z.1.n∧rc=z.2.2):=⟨hwr,hth,hrv,hrn,hrc⟩
 rw[←hwr, ←hth, ←hrv, ←hrn, ←hrc]
 clear hwr hth hrv hrn hrc
 obtain⟨N,hN⟩: ∃N,N=w.heap.size:=⟨_,rfl⟩
 obtain⟨w0,hw0⟩: ∃w0,w0=(((w.alloc (.cells #[.pointer (some ⟨hb,0,none⟩)] 36)).alloc (.cells #[.int .i64 k] 3)).alloc (.cells #[.string S] 9)).alloc (.cells #[.int .i64 wr,.bool th,.slice rv rn rc] 69):=⟨_,rfl⟩
 have t0:Tch (fun _=>False) w w0:=by rw[hw0];exact(((Tch.alloc _ _ _).allocR _).allocR _).allocR _
 have d0:w0.heap[N]? =some (.cells #[.pointer (some ⟨hb,0,none⟩)] 36 (0,0)):=by
  rw[hw0,hN,(((Tch.alloc (fun _=>False) (w.alloc (.cells #[.pointer (some ⟨hb,0,none⟩)] 36)) _).allocR _).allocR _).block _ (by simp) (fun h=>h)];exact alloc_new _ _
 have d1:w0.heap[N+1]? =some (.cells #[.int .i64 k] 3 (0,0)):=by
  rw[hw0,hN,((Tch.alloc (fun _=>False) ((w.alloc (.cells #[.pointer (some ⟨hb,0,none⟩)] 36)).alloc (.cells #[.int .i64 k] 3)) _).allocR _).block _ (by simp) (fun h=>h)]
  have:=alloc_new (w.alloc (.cells #[.pointer (some ⟨hb,0,none⟩)] 36)) (.cells #[.int .i64 k] 3)
  rwa [World.size_alloc] at this
 have d2:w0.heap[N+1+1]? =some (.cells #[.string S] 9 (0,0)):=by
  rw[hw0,hN,(Tch.alloc (fun _=>False) (((w.alloc (.cells #[.pointer (some ⟨hb,0,none⟩)] 36)).alloc (.cells #[.int .i64 k] 3)).alloc (.cells #[.string S] 9)) _).block _ (by simp) (fun h=>h)]
  have:=alloc_new ((w.alloc (.cells #[.pointer (some ⟨hb,0,none⟩)] 36)).alloc (.cells #[.int .i64 k] 3)) (.cells #[.string S] 9)
  simp only[World.size_alloc] at this
  exact this
 have d3:w0.heap[N+1+1+1]? =some (.cells #[.int .i64 wr,.bool th,.slice rv rn rc] 69 (0,0)):=by
  rw[hw0,hN]
  have:=alloc_new (((w.alloc (.cells #[.pointer (some ⟨hb,0,none⟩)] 36)).alloc (.cells #[.int .i64 k] 3)).alloc (.cells #[.string S] 9)) (.cells #[.int .i64 wr,.bool th,.slice rv rn rc] 69)
  simp only[World.size_alloc] at this
  exact this
 have hs0:w0.heap.size=N+4:=by rw[hw0,hN];simp
 have H0:=h.no t0
 have HD:Hid (∀W,Tch (fun _=>False) w0 W→W.heap[N]? =some (.cells #[.pointer (some ⟨hb,0,none⟩)] 36 (0,0))∧W.heap[N+1]? =some (.cells #[.int .i64 k] 3 (0,0))∧W.heap[N+1+1]? =some (.cells #[.string S] 9 (0,0))∧W.heap[N+1+1+1]? =some (.cells #[.int .i64 wr,.bool th,.slice rv rn rc] 69 (0,0))):=fun W t=>
  ⟨by rw[t.block _ (blk_lt d0) (fun h=>h)];exact d0,by rw[t.block _ (blk_lt d1) (fun h=>h)];exact d1,by rw[t.block _ (blk_lt d2) (fun h=>h)];exact d2,by rw[t.block _ (blk_lt d3) (fun h=>h)];exact d3⟩
 have cc1:=H0.c1
 have e0:w0.cell? ⟨N,0,none⟩=some (.pointer (some ⟨hb,0,none⟩)):=by rw[blk_cell d0];rfl
 have e1:w0.cell? ⟨N+1,0,none⟩=some (.int .i64 k):=by rw[blk_cell d1];rfl
 have g0:=cell_regrown e0
 have g1:=cell_regrown e1
 have gc:=cell_regrown cc1
 have gl: ∀d os,(Instr.lookup 86 (.map (some tb)) (.int .i64 k) false).run Tryz.prog (grow (redrawn w0 d) os)= .ok (mapV (lkT T k)) (grow (redrawn w0 d) os):=fun d os=>(H0.no (tch_regrown w0 ⟨d,os⟩)).look h1 h2
 rw[hl] at gl
 simp only[mapV] at gl
 have Hw0:Hid _:=hw0
 have HN:Hid (N=w.heap.size∧w0.heap.size=N+4):=⟨hN,hs0⟩
 have HT0:Hid _:=t0
 have HH0:Hid _:=H0
 have Hdm:Hid (∀i,σ i≠none→i<N):=fun i hi=>by rw[hN];exact h.dom i hi
 have HZk:Hid _:=hz
 have HK:Hid (lkT T k=some l∧lkE E k S.data.toList=some cb):=⟨hl,he⟩
 clear hw0 t0 d0 d1 d2 d3 hs0 H0 h cc1 e0 e1 h1 h2 hz hl he
 go_enter Tryz.func60,Tryz.ntmps60
 go_wp2_with fail
 have hw0:=Hw0.out
 rw[←hw0, ←hN]
 clear hw0 hN
 refine wp_region_quiet_below (by kernel_rfl) (by kernel_rfl) ?_
 repeat (go_big_quiet_step (fail))
 refine wpQuiet_nil ?_
 rintro W1 ⟨pp,hW1⟩
 have t1:Tch (fun _=>False) w0 W1:=by rw[hW1];exact tch_regrown w0 pp
 clear hW1 g0 g1 gc gl
 have hl:=HK.out.1
 have he:=HK.out.2
 have gk:=(HH0.out.no t1).look2 (lkT_mem hl) hS
 simp only at gk
 rw[he] at gk
 simp only[ptrV] at gk
 obtain⟨D0,D1,D2,D3⟩:=HD.out W1 t1
 have e2:W1.cell? ⟨N+1+1,0,none⟩=some (.string S):=by rw[blk_cell D2];rfl
 clear hl he D0 D1 D2 D3
 have HT1:Hid _:=t1
 have hme: ∀(r:Option Nat) (w:World),(binOp .eql 109 (.map r) (.map none)).run Tryz.prog w= .ok (.bool r.isNone) w:=fun r w=>run_eql_map_nil w _ _ _ r Tryz.underlying109
 have hcb:=((HH0.out.no HT1.out).chs _ (lkE_mem HK.out.2)).1
 obtain⟨co,cc,zs,hC⟩: ∃co cc zs,C cb=(co,cc,zs):=⟨_,_,_,rfl⟩
 simp only[hC] at hcb
 obtain⟨ln,hln⟩: ∃ln,ln=zs.length:=⟨_,rfl⟩
 have ec: ∀o,(W1.alloc o).cell? ⟨cb,0,none⟩=some (.slice co ln cc):=fun o=>by rw[(Tch.alloc (fun _=>False) W1 o).cell (p:=⟨cb,0,none⟩) (blk_lt hcb.blk) (fun h=>h),blk_cell hcb.blk,hln];rfl
 have HC:Hid (C cb=(co,cc,zs)∧ln=zs.length):=⟨hC,hln⟩
 clear hcb hC hln t1
 go_wp2_with fail
 obtain⟨W,hW⟩: ∃W,W=(W1.alloc (.cells #[.pointer (some ⟨cb,0,none⟩)] 110)).alloc (.cells #[.slice co ln cc] 72):=⟨_,rfl⟩
 rw[←hW]
 obtain⟨hC,hln⟩:=HC.out
 have t1:=HT1.out
 have tW:Tch (fun _=>False) W1 W:=by rw[hW];exact(Tch.alloc _ _ _).allocR _
 obtain⟨D0,D1,D2,D3⟩:=HD.out W (t1.trans' tW)
 obtain⟨z1,z2,z3,z4,z5⟩:=HZ.out
 have hdom:=HH0.out.dom
 have hfre: ∀i,N≤i→σ i=none:=fun i hi=>by
  cases hs:σ i with
  |none=>rfl
  |some a=>exact absurd (Hdm.out i (by rw[hs];exact fun h=>by cases h)) (by omega)
 have hwb:W.heap[W1.heap.size+1]? =some (.cells #[.slice co ln cc] 72 (0,0)):=by
  rw[hW]
  have:=alloc_new (W1.alloc (.cells #[.pointer (some ⟨cb,0,none⟩)] 110)) (.cells #[.slice co ln cc] 72)
  rwa [World.size_alloc] at this
 have hsz1:N+4≤W1.heap.size:=by have:=t1.size;have:=HN.out.2;omega
 have hlw:σ (W1.heap.size+1)=none:=hfre _ (by omega)
 have hm:Mid w hb mb tb E C σ q k S z W T E C σ cb W1.heap.size N (N+1) (N+1+1) (N+1+1+1):=
  { hw:=((HH0.out.no t1).no tW).more (by omega)
    me:=lkE_mem HK.out.2
    old:= .inl ⟨rfl,HK.out.2,rfl⟩
    oth:=fun _ _ _=>rfl
    sg:=fun _ _=>rfl
    sn:=fun _ _ h=>h
    c:=by rw[hW,(Tch.alloc (fun _=>False) (W1.alloc (.cells #[.pointer (some ⟨cb,0,none⟩)] 110)) _).block _ (by simp) (fun h=>h)];exact alloc_new _ _
    h:=D0
    t:=D1
    k:=D2
    v:=by rw[←z1, ←z2, ←z3, ←z4, ←z5];exact D3
    lc:=hfre _ (by omega)
    lh:=hfre _ (by omega)
    lt:=hfre _ (by omega)
    lk:=hfre _ (by omega)
    lv:=hfre _ (by omega)
    zok:=HZk.out.tch ((HT0.out.trans' t1).trans' tW) (fun _ _ h=>h.elim) (fun _ _ _=>rfl)
    tch:=((HT0.out.trans' t1).trans' tW).mono (fun _ _ h=>h.elim) }
 have Hne:Hid (W1.heap.size+1≠cb):=fun e=>by
  have:=(hm.hw.chs _ hm.me).1.lab
  simp only at this
  rw[←e,hlw] at this;cases this
 clear hfre hdom t1 tW D0 D1 D2 D3 z1 z2 z3 z4 z5 hW hsz1
 have hn:zs.length≤1000000:=by
  have:=(hm.hw.chs _ hm.me).2
  rw[hC] at this
  simp only at this
  omega
 obtain⟨z1,z2,z3,z4,z5⟩:=HZ.out
 obtain⟨CV,hCV⟩: ∃CV:List Value→World→Prop,CV=VC W (.slice co ln cc) ln (vrl zs) [.int .i64 wr,.bool th,.slice rv rn rc]:=⟨_,rfl⟩
 have hrow:W.ownsRow 0 69 3 (.slice co ln cc) ln (vrl zs):=by
  have:=(hm.hw.chs _ hm.me).1
  rw[hC] at this
  rw[hln]
  exact this.row
 have HRow:Hid _:=hrow
 have hbx: ∀b (cs:Array Value) t,W.heap[b]? =some (.cells cs t (0,0))→t≠69∨ ¬(Value.slice co ln cc).ownBlock=some b→ ∀s V,CV s V→V.heap[b]? =some (.cells cs t (0,0)):=fun b cs t hb hn s V hV=>by
  rw[hCV] at hV
  rw[(VC.tch hV).block b (blk_lt hb) (fun e=>?_)]
  ·exact hb
  ·rcases hn with hn|hn
   ·exact row_ne hrow hb (fun e=>hn e.symm) e rfl
   ·exact hn e
 have hvn: ¬(Value.slice co ln cc).ownBlock=some (N+1+1+1):=fun e=>by
  have hcb:=(hm.hw.chs _ hm.me).1
  rw[hC] at hcb
  rw[hln] at e
  have:=hcb.rl _ e
  rw[hm.lv] at this;cases this
 have hK: ∀s V,CV s V→V.cell? ⟨W1.heap.size,0,none⟩=some (.pointer (some ⟨cb,0,none⟩))∧V.cell? ⟨W1.heap.size+1,0,none⟩=some (.slice co ln cc)∧V.cell? ⟨N+1+1+1,0,none⟩=some (.int .i64 wr)∧V.cell? ⟨N+1+1+1,1,none⟩=some (.bool th)∧V.cell? ⟨N+1+1+1,2,none⟩=some (.slice rv rn rc):=fun s V hV=>by
  have a:=hbx _ _ _ hm.c (.inl (by decide)) s V hV
  have b:=hbx _ _ _ hwb (.inl (by decide)) s V hV
  have c:=hbx _ _ _ hm.v (.inr hvn) s V hV
  refine⟨by rw[blk_cell a];rfl,by rw[blk_cell b];rfl,by rw[blk_cell c,z1];rfl,by rw[blk_cell c,z2];rfl,by rw[blk_cell c,z3,z4,z5];rfl⟩
 have h0':CV [] W.drew:=by rw[hCV];exact(Tch.refl _ _).drew
 have h6: ∀V,CV [] V→CV [.slice (some ⟨V.heap.size,0,none⟩) 1 1] (V.alloc (.cells #[.int .i64 wr,.bool th,.slice rv rn rc] 69)):=fun V h=>by
  rw[hCV] at h ⊢
  exact VC.one h
 have h7: ∀g9 V,CV [.slice (some ⟨g9,0,none⟩) 1 1] V→ ∃o5 c5 w',(Builtin.append_ #[72,72] 72 #[Value.slice co ln cc,.slice (some ⟨g9,0,none⟩) 1 1]).run Tryz.prog V= .ok (.slice o5 (ln+1) c5) w'∧CV [.slice (some ⟨g9,0,none⟩) 1 1,.slice o5 (ln+1) c5] w':=fun g9 V h=>by
  rw[hCV] at h ⊢
  exact VC.two HRow.out (by omega) rfl (by simp[Value.oneCell']) h
 have hsh1: ∀y V,CV [y] V→ ∃g,y= .slice (some ⟨g,0,none⟩) 1 1:=fun y V h=>by
  rw[hCV] at h
  obtain⟨_,g,e,_⟩:=h
  exact⟨g,e⟩
 have hsh2: ∀y z V,CV [y,z] V→ ∃o5 c5,z= .slice o5 (ln+1) c5:=fun y z V h=>by
  rw[hCV] at h
  obtain⟨_,⟨o5,c5,e,_⟩,_⟩:=h
  exact⟨o5,c5,e⟩
 have Hcb:Hid (∀s V,CV s V→V.heap[cb]? =some (.cells #[.slice co ln cc] 72 (0,0))):=fun s V hV=>by
  have hcb:=(hm.hw.chs _ hm.me).1
  rw[hC] at hcb
  have:=hcb.blk
  rw[←hln] at this
  exact hbx _ _ _ this (.inl (by decide)) s V hV
 have Hfin:Hid (∀y o5 c5 V x,CV [y,.slice o5 (ln+1) c5] V→x=Ending.returned (.tuple #[.slice co ln cc,.func (.func 89) #[] #[.pointer (some ⟨W1.heap.size,0,none⟩),.pointer (some ⟨W1.heap.size+1,0,none⟩),.pointer (some ⟨N,0,none⟩),.pointer (some ⟨N+1,0,none⟩),.pointer (some ⟨N+1+1,0,none⟩)]])→LayOut w hb mb tb E C σ q k S z x (V.setCell ⟨cb,0,none⟩ (.slice o5 (ln+1) c5))):=fun y o5 c5 V x hV hx=>by
  rw[hCV,hln,z1,z2,z3,z4,z5] at hV
  rw[hln] at hx ⊢
  rw[hln] at hwb
  exact hm.fin hC hwb hlw hV x hx
 have hmf: ∀(fn:Fn) (first cap:Array Value) (w:World),(Instr.makeFunc fn first cap).run Tryz.prog w= .ok (.func fn first cap) w:=fun _ _ _ _=>rfl
 clear hCV hbx hvn hrow hm hwb hlw hn z1 z2 z3 z4 z5 hln hC
 refine wp_region_ordv [3,4] CV 5 [0,1,2,3,4] (by kernel_rfl) (by kernel_rfl) h0' ?_
 clear h0'
 iterate 3
  refine ordv_read rfl (by go_simp) (by rfl) ?_
  apply Exists.intro
  refine⟨fun s' W hW b K Q hK'=>?_,fun K hK'=>?_⟩
  ·obtain⟨q0,q1,q2,q3,q4⟩:=hK _ W hW
   go_simp
   exact hK' W hW
  go_simp
  refine hK' _ ?_
  clear hK' K
 refine ordv_turn rfl (by go_simp) (by rfl) (fun V hV b K Q hK'=>?_) (fun u hu K hK'=>?_)
 ·go_simp
  exact hK' _ _ (h6 V hV)
 obtain⟨g,rfl⟩: ∃g,u= .slice (some ⟨g,0,none⟩) 1 1:=by
  obtain⟨W',hW'⟩:=hu
  exact hsh1 u W' hW'
 clear hu h6
 go_simp
 refine hK' _ ?_
 clear hK' K
 refine ordv_turn rfl (by go_simp) (by rfl) (fun V hV=>?_) (fun u hu K hK'=>?_)
 ·obtain⟨to',tc',w',hr,h1⟩:=h7 g V hV
  exact yv_append (.tmp 41) (.tmp 43) 72 rfl (.slice co ln cc) (.slice (some ⟨g,0,none⟩) 1 1) rfl rfl hr h1
 obtain⟨o5,c5,rfl⟩: ∃o5 c5,u= .slice o5 (ln+1) c5:=by
  obtain⟨W',hW'⟩:=hu
  exact hsh2 _ u W' hW'
 clear hu h7 hsh1 hsh2
 go_simp
 refine hK' _ ?_
 clear hK' K
 refine ordv_nil ?_
 intro w5 hw5
 obtain⟨q0,q1,_,_,_⟩:=hK _ _ hw5
 have b5:=Hcb.out _ _ hw5
 have q5:w5.cell? ⟨cb,0,none⟩=some (.slice co ln cc):=by rw[blk_cell b5];rfl
 have f5:=blk_frozen b5 0
 have HF:Hid _:=fun x=>Hfin.out _ _ _ w5 x hw5
 have q6:(w5.setCell ⟨cb,0,none⟩ (.slice o5 (ln+1) c5)).cell? ⟨W1.heap.size+1,0,none⟩=some (.slice co ln cc):=by rw[World.cell?_setCell_other _ _ _ _ (by intro e;injection e with e;exact Hne.out e.symm)];exact q1
 clear hK Hcb Hfin hw5 b5
 go_wp2_with fail
 go_ret2
 exact HF.out _ rfl
theorem lay_B (w:World) (hb mb tb:Nat) (T:List (Int×Nat)) (E:List En) (C:Nat→Ch) (σ:Nat→Option Nat) (q:Nat) (h:HW w hb mb tb T E C σ q) (hq:q≤1000) (k:Int) (h1: -9223372036854775808≤k) (h2:k≤9223372036854775807) (S:ByteArray) (hS:S.size≤maxLen) (z:VV) (hz:VOK w σ z) (l:Nat) (hl:lkT T k=some l) (he:lkE E k S.data.toList=none):
  Calls Tryz.prog 60 #[.pointer (some ⟨hb,0,none⟩),.int .i64 k,.string S,.agg #[.int .i64 z.1.wr,.bool z.1.th,.slice z.2.1 z.1.n z.2.2]] w fun x w'=>LayOut w hb mb tb E C σ q k S z x w':=by
 obtain⟨wr,hwr⟩: ∃wr,wr=z.1.wr:=⟨_,rfl⟩
 obtain⟨th,hth⟩: ∃th,th=z.1.th:=⟨_,rfl⟩
 obtain⟨rv,hrv⟩: ∃rv,rv=z.2.1:=⟨_,rfl⟩
 obtain⟨rn,hrn⟩: ∃rn,rn=z.1.n:=⟨_,rfl⟩
 obtain⟨rc,hrc⟩: ∃rc,rc=z.2.2:=⟨_,rfl⟩
 have HZ:Hid (wr=z.1.wr∧th=z.1.th∧rv=z.2.1∧rn=z.1.n∧rc=z.2.2):=⟨hwr,hth,hrv,hrn,hrc⟩
 rw[←hwr, ←hth, ←hrv, ←hrn, ←hrc]
 clear hwr hth hrv hrn hrc
 obtain⟨N,hN⟩: ∃N,N=w.heap.size:=⟨_,rfl⟩
 obtain⟨w0,hw0⟩: ∃w0,w0=(((w.alloc (.cells #[.pointer (some ⟨hb,0,none⟩)] 36)).alloc (.cells #[.int .i64 k] 3)).alloc (.cells #[.string S] 9)).alloc (.cells #[.int .i64 wr,.bool th,.slice rv rn rc] 69):=⟨_,rfl⟩
 have t0:Tch (fun _=>False) w w0:=by rw[hw0];exact(((Tch.alloc _ _ _).allocR _).allocR _).allocR _
 have d0:w0.heap[N]? =some (.cells #[.pointer (some ⟨hb,0,none⟩)] 36 (0,0)):=by
  rw[hw0,hN,(((Tch.alloc (fun _=>False) (w.alloc (.cells #[.pointer (some ⟨hb,0,none⟩)] 36)) _).allocR _).allocR _).block _ (by simp) (fun h=>h)];exact alloc_new _ _
 have d1:w0.heap[N+1]? =some (.cells #[.int .i64 k] 3 (0,0)):=by
  rw[hw0,hN,((Tch.alloc (fun _=>False) ((w.alloc (.cells #[.pointer (some ⟨hb,0,none⟩)] 36)).alloc (.cells #[.int .i64 k] 3)) _).allocR _).block _ (by simp) (fun h=>h)]
  have:=alloc_new (w.alloc (.cells #[.pointer (some ⟨hb,0,none⟩)] 36)) (.cells #[.int .i64 k] 3)
  rwa [World.size_alloc] at this
 have d2:w0.heap[N+1+1]? =some (.cells #[.string S] 9 (0,0)):=by
  rw[hw0,hN,(Tch.alloc (fun _=>False) (((w.alloc (.cells #[.pointer (some ⟨hb,0,none⟩)] 36)).alloc (.cells #[.int .i64 k] 3)).alloc (.cells #[.string S] 9)) _).block _ (by simp) (fun h=>h)]
  have:=alloc_new ((w.alloc (.cells #[.pointer (some ⟨hb,0,none⟩)] 36)).alloc (.cells #[.int .i64 k] 3)) (.cells #[.string S] 9)
  simp only[World.size_alloc] at this
  exact this
 have d3:w0.heap[N+1+1+1]? =some (.cells #[.int .i64 wr,.bool th,.slice rv rn rc] 69 (0,0)):=by
  rw[hw0,hN]
  have:=alloc_new (((w.alloc (.cells #[.pointer (some ⟨hb,0,none⟩)] 36)).alloc (.cells #[.int .i64 k] 3)).alloc (.cells #[.string S] 9)) (.cells #[.int .i64 wr,.bool th,.slice rv rn rc] 69)
  simp only[World.size_alloc] at this
  exact this
 have hs0:w0.heap.size=N+4:=by rw[hw0,hN];simp
 have H0:=h.no t0
 have HD:Hid (∀W,Tch (fun _=>False) w0 W→W.heap[N]? =some (.cells #[.pointer (some ⟨hb,0,none⟩)] 36 (0,0))∧W.heap[N+1]? =some (.cells #[.int .i64 k] 3 (0,0))∧W.heap[N+1+1]? =some (.cells #[.string S] 9 (0,0))∧W.heap[N+1+1+1]? =some (.cells #[.int .i64 wr,.bool th,.slice rv rn rc] 69 (0,0))):=fun W t=>
  ⟨by rw[t.block _ (blk_lt d0) (fun h=>h)];exact d0,by rw[t.block _ (blk_lt d1) (fun h=>h)];exact d1,by rw[t.block _ (blk_lt d2) (fun h=>h)];exact d2,by rw[t.block _ (blk_lt d3) (fun h=>h)];exact d3⟩
 have cc1:=H0.c1
 have e0:w0.cell? ⟨N,0,none⟩=some (.pointer (some ⟨hb,0,none⟩)):=by rw[blk_cell d0];rfl
 have e1:w0.cell? ⟨N+1,0,none⟩=some (.int .i64 k):=by rw[blk_cell d1];rfl
 have g0:=cell_regrown e0
 have g1:=cell_regrown e1
 have gc:=cell_regrown cc1
 have gl: ∀d os,(Instr.lookup 86 (.map (some tb)) (.int .i64 k) false).run Tryz.prog (grow (redrawn w0 d) os)= .ok (mapV (lkT T k)) (grow (redrawn w0 d) os):=fun d os=>(H0.no (tch_regrown w0 ⟨d,os⟩)).look h1 h2
 rw[hl] at gl
 simp only[mapV] at gl
 have Hw0:Hid _:=hw0
 have HN:Hid (N=w.heap.size∧w0.heap.size=N+4):=⟨hN,hs0⟩
 have HT0:Hid _:=t0
 have HH0:Hid _:=H0
 have Hdm:Hid (∀i,σ i≠none→i<N):=fun i hi=>by rw[hN];exact h.dom i hi
 have HZk:Hid _:=hz
 have HK:Hid (lkT T k=some l∧lkE E k S.data.toList=none):=⟨hl,he⟩
 clear hw0 t0 d0 d1 d2 d3 hs0 H0 h cc1 e0 e1 h1 h2 hz hl he
 go_enter Tryz.func60,Tryz.ntmps60
 go_wp2_with fail
 have hw0:=Hw0.out
 rw[←hw0, ←hN]
 clear hw0 hN
 refine wp_region_quiet_below (by kernel_rfl) (by kernel_rfl) ?_
 repeat (go_big_quiet_step (fail))
 refine wpQuiet_nil ?_
 rintro W1 ⟨pp,hW1⟩
 have t1:Tch (fun _=>False) w0 W1:=by rw[hW1];exact tch_regrown w0 pp
 clear hW1 g0 g1 gc gl
 have hl:=HK.out.1
 have he:=HK.out.2
 have gk:=(HH0.out.no t1).look2 (lkT_mem hl) hS
 simp only at gk
 rw[he] at gk
 simp only[ptrV] at gk
 obtain⟨D0,D1,D2,D3⟩:=HD.out W1 t1
 have e2':W1.cell? ⟨N+1+1,0,none⟩=some (.string S):=by rw[blk_cell D2];rfl
 have hme: ∀(r:Option Nat) (w:World),(binOp .eql 109 (.map r) (.map none)).run Tryz.prog w= .ok (.bool r.isNone) w:=fun r w=>run_eql_map_nil w _ _ _ r Tryz.underlying109
 obtain⟨z1,z2,z3,z4,z5⟩:=HZ.out
 have hfre: ∀i,N≤i→σ i=none:=fun i hi=>by
  cases hs:σ i with
  |none=>rfl
  |some a=>exact absurd (Hdm.out i (by rw[hs];exact fun h=>by cases h)) (by omega)
 have hp:Pre w hb mb tb E C σ q k S z W1 T σ l N:=
  { hw:=(HH0.out.no t1).more (by omega),me:=lkT_mem hl,sg:=fun _ _=>rfl,sn:=fun _ _ h=>h,h:=D0,t:=D1,k:=D2,v:=by rw[←z1, ←z2, ←z3, ←z4, ←z5];exact D3,lh:=hfre _ (by omega),lt:=hfre _ (by omega),lk:=hfre _ (by omega),lv:=hfre _ (by omega),zok:=HZk.out.tch (HT0.out.trans' t1) (fun _ _ h=>h.elim) (fun _ _ _=>rfl),tch:=(HT0.out.trans' t1).mono (fun _ _ h=>h.elim) }
 clear hl D0 D1 D2 D3 z1 z2 z3 z4 z5 hfre t1
 obtain⟨w3,hrun,HM0⟩:=hp.next hS he hq
 obtain⟨cb,hcbd⟩: ∃cb,cb=W1.heap.size+1:=⟨_,rfl⟩
 have e2:(W1.alloc (.cells #[.pointer none] 110)).cell? ⟨N+1+1,0,none⟩=some (.string S):=by rw[(Tch.alloc (fun _=>False) W1 _).cell (p:=⟨N+1+1,0,none⟩) (blk_lt hp.k) (fun h=>h),blk_cell hp.k];rfl
 have e3:(vW W1).cell? ⟨N+1+1,0,none⟩=some (.string S):=by
  unfold vW
  rw[((Tch.alloc (fun _=>False) W1 _).allocR _).cell (p:=⟨N+1+1,0,none⟩) (blk_lt hp.k) (fun h=>h),blk_cell hp.k];rfl
 rw[←hcbd] at HM0
 have HM:Hid _:=HM0
 have ebc:w3.cell? ⟨W1.heap.size,0,none⟩=some (.pointer (some ⟨cb,0,none⟩)):=by rw[blk_cell HM0.c];rfl
 have hcb:=(HM0.hw.chs _ HM0.me).1
 obtain⟨co,cc,zs,hC⟩: ∃co cc zs,upB C cb (none,0,[]) cb=(co,cc,zs):=⟨_,_,_,rfl⟩
 simp only[hC] at hcb
 obtain⟨ln,hln⟩: ∃ln,ln=zs.length:=⟨_,rfl⟩
 have ec:w3.cell? ⟨cb,0,none⟩=some (.slice co ln cc):=by rw[blk_cell hcb.blk,hln];rfl
 have HC:Hid (upB C cb (none,0,[]) cb=(co,cc,zs)∧ln=zs.length):=⟨hC,hln⟩
 simp only[vW] at hrun e3
 have Hcbd:Hid (cb=W1.heap.size+1):=hcbd
 clear he hcb hC hln HM0 hp hcbd
 go_wp2_with fail
 obtain⟨W,hW⟩: ∃W,W=w3.alloc (.cells #[.slice co ln cc] 72):=⟨_,rfl⟩
 rw[←hW]
 obtain⟨hC,hln⟩:=HC.out
 have hm0:=HM.out
 have hwb:W.heap[w3.heap.size]? =some (.cells #[.slice co ln cc] 72 (0,0)):=by rw[hW];exact alloc_new _ _
 have hlw:(upB σ cb (some (2*cb+1))) w3.heap.size=none:=by
  cases hs:(upB σ cb (some (2*cb+1))) w3.heap.size with
  |none=>rfl
  |some a=>exact absurd (hm0.hw.dom _ (by rw[hs];exact fun h=>by cases h)) (Nat.lt_irrefl _)
 have hm:=hm0.no (W':=W) (by rw[hW];exact Tch.alloc _ _ _)
 have Hne:Hid (w3.heap.size≠cb):=fun e=>by
  have:=(hm.hw.chs _ hm.me).1.lab
  simp only at this
  rw[←e,upB_same] at this
  have h2:=hlw
  rw[←e,upB_same] at h2
  cases h2
 clear hW hm0
 have hn:zs.length≤1000000:=by
  have:=(hm.hw.chs _ hm.me).2
  rw[hC] at this
  simp only at this
  omega
 obtain⟨z1,z2,z3,z4,z5⟩:=HZ.out
 obtain⟨CV,hCV⟩: ∃CV:List Value→World→Prop,CV=VC W (.slice co ln cc) ln (vrl zs) [.int .i64 wr,.bool th,.slice rv rn rc]:=⟨_,rfl⟩
 have hrow:W.ownsRow 0 69 3 (.slice co ln cc) ln (vrl zs):=by
  have:=(hm.hw.chs _ hm.me).1
  rw[hC] at this
  rw[hln]
  exact this.row
 have HRow:Hid _:=hrow
 have hbx: ∀b (cs:Array Value) t,W.heap[b]? =some (.cells cs t (0,0))→t≠69∨ ¬(Value.slice co ln cc).ownBlock=some b→ ∀s V,CV s V→V.heap[b]? =some (.cells cs t (0,0)):=fun b cs t hb hn s V hV=>by
  rw[hCV] at hV
  rw[(VC.tch hV).block b (blk_lt hb) (fun e=>?_)]
  ·exact hb
  ·rcases hn with hn|hn
   ·exact row_ne hrow hb (fun e=>hn e.symm) e rfl
   ·exact hn e
 have hvn: ¬(Value.slice co ln cc).ownBlock=some (N+1+1+1):=fun e=>by
  have hcb:=(hm.hw.chs _ hm.me).1
  rw[hC] at hcb
  rw[hln] at e
  have:=hcb.rl _ e
  rw[hm.lv] at this;cases this
 have hK: ∀s V,CV s V→V.cell? ⟨W1.heap.size,0,none⟩=some (.pointer (some ⟨cb,0,none⟩))∧V.cell? ⟨w3.heap.size,0,none⟩=some (.slice co ln cc)∧V.cell? ⟨N+1+1+1,0,none⟩=some (.int .i64 wr)∧V.cell? ⟨N+1+1+1,1,none⟩=some (.bool th)∧V.cell? ⟨N+1+1+1,2,none⟩=some (.slice rv rn rc):=fun s V hV=>by
  have a:=hbx _ _ _ hm.c (.inl (by decide)) s V hV
  have b:=hbx _ _ _ hwb (.inl (by decide)) s V hV
  have c:=hbx _ _ _ hm.v (.inr hvn) s V hV
  refine⟨by rw[blk_cell a];rfl,by rw[blk_cell b];rfl,by rw[blk_cell c,z1];rfl,by rw[blk_cell c,z2];rfl,by rw[blk_cell c,z3,z4,z5];rfl⟩
 have h0':CV [] W.drew:=by rw[hCV];exact(Tch.refl _ _).drew
 have h6: ∀V,CV [] V→CV [.slice (some ⟨V.heap.size,0,none⟩) 1 1] (V.alloc (.cells #[.int .i64 wr,.bool th,.slice rv rn rc] 69)):=fun V h=>by
  rw[hCV] at h ⊢
  exact VC.one h
 have h7: ∀g9 V,CV [.slice (some ⟨g9,0,none⟩) 1 1] V→ ∃o5 c5 w',(Builtin.append_ #[72,72] 72 #[Value.slice co ln cc,.slice (some ⟨g9,0,none⟩) 1 1]).run Tryz.prog V= .ok (.slice o5 (ln+1) c5) w'∧CV [.slice (some ⟨g9,0,none⟩) 1 1,.slice o5 (ln+1) c5] w':=fun g9 V h=>by
  rw[hCV] at h ⊢
  exact VC.two HRow.out (by omega) rfl (by simp[Value.oneCell']) h
 have hsh1: ∀y V,CV [y] V→ ∃g,y= .slice (some ⟨g,0,none⟩) 1 1:=fun y V h=>by
  rw[hCV] at h
  obtain⟨_,g,e,_⟩:=h
  exact⟨g,e⟩
 have hsh2: ∀y z V,CV [y,z] V→ ∃o5 c5,z= .slice o5 (ln+1) c5:=fun y z V h=>by
  rw[hCV] at h
  obtain⟨_,⟨o5,c5,e,_⟩,_⟩:=h
  exact⟨o5,c5,e⟩
 have Hcb:Hid (∀s V,CV s V→V.heap[cb]? =some (.cells #[.slice co ln cc] 72 (0,0))):=fun s V hV=>by
  have hcb:=(hm.hw.chs _ hm.me).1
  rw[hC] at hcb
  have:=hcb.blk
  rw[←hln] at this
  exact hbx _ _ _ this (.inl (by decide)) s V hV
 have Hfin:Hid (∀y o5 c5 V x,CV [y,.slice o5 (ln+1) c5] V→x=Ending.returned (.tuple #[.slice co ln cc,.func (.func 89) #[] #[.pointer (some ⟨W1.heap.size,0,none⟩),.pointer (some ⟨w3.heap.size,0,none⟩),.pointer (some ⟨N,0,none⟩),.pointer (some ⟨N+1,0,none⟩),.pointer (some ⟨N+1+1,0,none⟩)]])→LayOut w hb mb tb E C σ q k S z x (V.setCell ⟨cb,0,none⟩ (.slice o5 (ln+1) c5))):=fun y o5 c5 V x hV hx=>by
  rw[hCV,hln,z1,z2,z3,z4,z5] at hV
  rw[hln] at hx ⊢
  rw[hln] at hwb
  exact hm.fin hC hwb hlw hV x hx
 have hmf: ∀(fn:Fn) (first cap:Array Value) (w:World),(Instr.makeFunc fn first cap).run Tryz.prog w= .ok (.func fn first cap) w:=fun _ _ _ _=>rfl
 clear hCV hbx hvn hrow hm hwb hlw hn z1 z2 z3 z4 z5 hln hC
 refine wp_region_ordv [3,4] CV 5 [0,1,2,3,4] (by kernel_rfl) (by kernel_rfl) h0' ?_
 clear h0'
 iterate 3
  refine ordv_read rfl (by go_simp) (by rfl) ?_
  apply Exists.intro
  refine⟨fun s' W hW b K Q hK'=>?_,fun K hK'=>?_⟩
  ·obtain⟨q0,q1,q2,q3,q4⟩:=hK _ W hW
   go_simp
   exact hK' W hW
  go_simp
  refine hK' _ ?_
  clear hK' K
 refine ordv_turn rfl (by go_simp) (by rfl) (fun V hV b K Q hK'=>?_) (fun u hu K hK'=>?_)
 ·go_simp
  exact hK' _ _ (h6 V hV)
 obtain⟨g,rfl⟩: ∃g,u= .slice (some ⟨g,0,none⟩) 1 1:=by
  obtain⟨W',hW'⟩:=hu
  exact hsh1 u W' hW'
 clear hu h6
 go_simp
 refine hK' _ ?_
 clear hK' K
 refine ordv_turn rfl (by go_simp) (by rfl) (fun V hV=>?_) (fun u hu K hK'=>?_)
 ·obtain⟨to',tc',w',hr,h1⟩:=h7 g V hV
  exact yv_append (.tmp 41) (.tmp 43) 72 rfl (.slice co ln cc) (.slice (some ⟨g,0,none⟩) 1 1) rfl rfl hr h1
 obtain⟨o5,c5,rfl⟩: ∃o5 c5,u= .slice o5 (ln+1) c5:=by
  obtain⟨W',hW'⟩:=hu
  exact hsh2 _ u W' hW'
 clear hu h7 hsh1 hsh2
 go_simp
 refine hK' _ ?_
 clear hK' K
 refine ordv_nil ?_
 intro w5 hw5
 obtain⟨q0,q1,_,_,_⟩:=hK _ _ hw5
 have b5:=Hcb.out _ _ hw5
 have q5:w5.cell? ⟨cb,0,none⟩=some (.slice co ln cc):=by rw[blk_cell b5];rfl
 have f5:=blk_frozen b5 0
 have HF:Hid _:=fun x=>Hfin.out _ _ _ w5 x hw5
 have q6:(w5.setCell ⟨cb,0,none⟩ (.slice o5 (ln+1) c5)).cell? ⟨w3.heap.size,0,none⟩=some (.slice co ln cc):=by rw[World.cell?_setCell_other _ _ _ _ (by intro e;injection e with e;exact Hne.out e.symm)];exact q1
 clear hK Hcb Hfin hw5 b5
 go_wp2_with fail
 go_ret2
 exact HF.out _ rfl
theorem lay_C (w:World) (hb mb tb:Nat) (T:List (Int×Nat)) (E:List En) (C:Nat→Ch) (σ:Nat→Option Nat) (q:Nat) (h:HW w hb mb tb T E C σ q) (hq:q≤1000) (k:Int) (h1: -9223372036854775808≤k) (h2:k≤9223372036854775807) (S:ByteArray) (hS:S.size≤maxLen) (z:VV) (hz:VOK w σ z) (hl:lkT T k=none):
  Calls Tryz.prog 60 #[.pointer (some ⟨hb,0,none⟩),.int .i64 k,.string S,.agg #[.int .i64 z.1.wr,.bool z.1.th,.slice z.2.1 z.1.n z.2.2]] w fun x w'=>LayOut w hb mb tb E C σ q k S z x w':=by
 obtain⟨wr,hwr⟩: ∃wr,wr=z.1.wr:=⟨_,rfl⟩
 obtain⟨th,hth⟩: ∃th,th=z.1.th:=⟨_,rfl⟩
 obtain⟨rv,hrv⟩: ∃rv,rv=z.2.1:=⟨_,rfl⟩
 obtain⟨rn,hrn⟩: ∃rn,rn=z.1.n:=⟨_,rfl⟩
 obtain⟨rc,hrc⟩: ∃rc,rc=z.2.2:=⟨_,rfl⟩
 have HZ:Hid (wr=z.1.wr∧th=z.1.th∧rv=z.2.1∧rn=z.1.n∧rc=z.2.2):=⟨hwr,hth,hrv,hrn,hrc⟩
 rw[←hwr, ←hth, ←hrv, ←hrn, ←hrc]
 clear hwr hth hrv hrn hrc
 obtain⟨N,hN⟩: ∃N,N=w.heap.size:=⟨_,rfl⟩
 obtain⟨w0,hw0⟩: ∃w0,w0=(((w.alloc (.cells #[.pointer (some ⟨hb,0,none⟩)] 36)).alloc (.cells #[.int .i64 k] 3)).alloc (.cells #[.string S] 9)).alloc (.cells #[.int .i64 wr,.bool th,.slice rv rn rc] 69):=⟨_,rfl⟩
 have t0:Tch (fun _=>False) w w0:=by rw[hw0];exact(((Tch.alloc _ _ _).allocR _).allocR _).allocR _
 have d0:w0.heap[N]? =some (.cells #[.pointer (some ⟨hb,0,none⟩)] 36 (0,0)):=by
  rw[hw0,hN,(((Tch.alloc (fun _=>False) (w.alloc (.cells #[.pointer (some ⟨hb,0,none⟩)] 36)) _).allocR _).allocR _).block _ (by simp) (fun h=>h)];exact alloc_new _ _
 have d1:w0.heap[N+1]? =some (.cells #[.int .i64 k] 3 (0,0)):=by
  rw[hw0,hN,((Tch.alloc (fun _=>False) ((w.alloc (.cells #[.pointer (some ⟨hb,0,none⟩)] 36)).alloc (.cells #[.int .i64 k] 3)) _).allocR _).block _ (by simp) (fun h=>h)]
  have:=alloc_new (w.alloc (.cells #[.pointer (some ⟨hb,0,none⟩)] 36)) (.cells #[.int .i64 k] 3)
  rwa [World.size_alloc] at this
 have d2:w0.heap[N+1+1]? =some (.cells #[.string S] 9 (0,0)):=by
  rw[hw0,hN,(Tch.alloc (fun _=>False) (((w.alloc (.cells #[.pointer (some ⟨hb,0,none⟩)] 36)).alloc (.cells #[.int .i64 k] 3)).alloc (.cells #[.string S] 9)) _).block _ (by simp) (fun h=>h)]
  have:=alloc_new ((w.alloc (.cells #[.pointer (some ⟨hb,0,none⟩)] 36)).alloc (.cells #[.int .i64 k] 3)) (.cells #[.string S] 9)
  simp only[World.size_alloc] at this
  exact this
 have d3:w0.heap[N+1+1+1]? =some (.cells #[.int .i64 wr,.bool th,.slice rv rn rc] 69 (0,0)):=by
  rw[hw0,hN]
  have:=alloc_new (((w.alloc (.cells #[.pointer (some ⟨hb,0,none⟩)] 36)).alloc (.cells #[.int .i64 k] 3)).alloc (.cells #[.string S] 9)) (.cells #[.int .i64 wr,.bool th,.slice rv rn rc] 69)
  simp only[World.size_alloc] at this
  exact this
 have hs0:w0.heap.size=N+4:=by rw[hw0,hN];simp
 have H0:=h.no t0
 have HD:Hid (∀W,Tch (fun _=>False) w0 W→W.heap[N]? =some (.cells #[.pointer (some ⟨hb,0,none⟩)] 36 (0,0))∧W.heap[N+1]? =some (.cells #[.int .i64 k] 3 (0,0))∧W.heap[N+1+1]? =some (.cells #[.string S] 9 (0,0))∧W.heap[N+1+1+1]? =some (.cells #[.int .i64 wr,.bool th,.slice rv rn rc] 69 (0,0))):=fun W t=>
  ⟨by rw[t.block _ (blk_lt d0) (fun h=>h)];exact d0,by rw[t.block _ (blk_lt d1) (fun h=>h)];exact d1,by rw[t.block _ (blk_lt d2) (fun h=>h)];exact d2,by rw[t.block _ (blk_lt d3) (fun h=>h)];exact d3⟩
 have cc1:=H0.c1
 have e0:w0.cell? ⟨N,0,none⟩=some (.pointer (some ⟨hb,0,none⟩)):=by rw[blk_cell d0];rfl
 have e1:w0.cell? ⟨N+1,0,none⟩=some (.int .i64 k):=by rw[blk_cell d1];rfl
 have g0:=cell_regrown e0
 have g1:=cell_regrown e1
 have gc:=cell_regrown cc1
 have gl: ∀d os,(Instr.lookup 86 (.map (some tb)) (.int .i64 k) false).run Tryz.prog (grow (redrawn w0 d) os)= .ok (mapV (lkT T k)) (grow (redrawn w0 d) os):=fun d os=>(H0.no (tch_regrown w0 ⟨d,os⟩)).look h1 h2
 rw[hl] at gl
 simp only[mapV] at gl
 have Hw0:Hid _:=hw0
 have HN:Hid (N=w.heap.size∧w0.heap.size=N+4):=⟨hN,hs0⟩
 have HT0:Hid _:=t0
 have HH0:Hid _:=H0
 have Hdm:Hid (∀i,σ i≠none→i<N):=fun i hi=>by rw[hN];exact h.dom i hi
 have HZk:Hid _:=hz
 have HK:Hid (lkT T k=none∧ -9223372036854775808≤k∧k≤9223372036854775807):=⟨hl,h1,h2⟩
 clear hw0 t0 d0 d1 d2 d3 hs0 H0 h cc1 e0 e1 h1 h2 hz hl
 go_enter Tryz.func60,Tryz.ntmps60
 go_wp2_with fail
 have hw0:=Hw0.out
 rw[←hw0, ←hN]
 clear hw0 hN
 refine wp_region_quiet_below (by kernel_rfl) (by kernel_rfl) ?_
 repeat (go_big_quiet_step (fail))
 refine wpQuiet_nil ?_
 rintro W1 ⟨pp,hW1⟩
 have t1:Tch (fun _=>False) w0 W1:=by rw[hW1];exact tch_regrown w0 pp
 clear hW1 g0 g1 gc gl
 obtain⟨l,hld⟩: ∃l,l=W1.heap.size:=⟨_,rfl⟩
 obtain⟨W2,hW2⟩: ∃W2,W2=W1.alloc (.map #[] 0):=⟨_,rfl⟩
 have t2:Tch (fun _=>False) W1 W2:=by rw[hW2];exact Tch.alloc _ _ _
 have hl2:W2.ownsMap Tryz.prog 9 ptrElem l 0 (.map []):=by rw[hW2,hld];exact World.ownsMap_made W1 Tryz.prog 9 ptrElem
 have t02:=t1.trans' t2
 obtain⟨D0,D1,D2,D3⟩:=HD.out W2 t02
 have g0:=cell_regrown (show W2.cell? ⟨N,0,none⟩=some (.pointer (some ⟨hb,0,none⟩)) by rw[blk_cell D0];rfl)
 have g1:=cell_regrown (show W2.cell? ⟨N+1,0,none⟩=some (.int .i64 k) by rw[blk_cell D1];rfl)
 have gc:=cell_regrown (HH0.out.no t02).c1
 have hme: ∀(r:Option Nat) (w:World),(binOp .eql 109 (.map r) (.map none)).run Tryz.prog w= .ok (.bool r.isNone) w:=fun r w=>run_eql_map_nil w _ _ _ r Tryz.underlying109
 have hmm:= @run_makeMap Tryz.prog
 have H02:Hid _:=t02
 have HL2:Hid _:=hl2
 have HW2:Hid _:=hW2
 have Hld:Hid (l=W1.heap.size∧N+4≤l):=⟨hld,by have:=t1.size;have:=HN.out.2;omega⟩
 clear t1 t2 t02 D0 D1 D2 D3 hl2 hW2
 go_wp2_with fail
 have hW2:=HW2.out
 rw[←hW2, ←hld]
 clear hW2 HW2 hld hmm
 refine wp_region_below_tail 6 (by kernel_rfl) (by kernel_rfl) ?_
 simp only[List.take_succ_cons,List.take_zero,List.drop_succ_cons,List.drop_zero]
 repeat (go_big_quiet_step (fail))
 refine wpQuiet_nil ?_
 rintro V2 ⟨pp,hV2⟩
 have t3:Tch (fun _=>False) W2 V2:=by rw[hV2];exact tch_regrown W2 pp
 clear hV2 g0 g1 gc
 have t03:=H02.out.trans' t3
 obtain⟨hl,h1,h2⟩:=HK.out
 have hfre: ∀i,N≤i→σ i=none:=fun i hi=>by
  cases hs:σ i with
  |none=>rfl
  |some a=>exact absurd (Hdm.out i (by rw[hs];exact fun h=>by cases h)) (by omega)
 have hsl:σ l=none:=hfre _ (by have:=Hld.out.2;omega)
 have hV:=HH0.out.no t03
 obtain⟨Wb,hrun0,hwb0,tb0⟩:=hV.addT h1 h2 hl (by omega) (ownsMap_tch HL2.out t3 (fun h=>h)) hsl
 have he:lkE E k S.data.toList=none:=hV.noT hl _
 obtain⟨D0,D1,D2,D3⟩:=HD.out V2 t03
 obtain⟨z1,z2,z3,z4,z5⟩:=HZ.out
 have hltb:σ tb≠none:=by rw[hV.lt];exact fun h=>by cases h
 have nb: ∀b,N≤b→b≠tb:=fun b hb' e=>hltb (by rw[←e];exact hfre b hb')
 have ul: ∀b,N≤b→b<N+4→upB σ l (some (2*l+1)) b=none:=fun b h h'=>by rw[upB_other _ _ (by have:=Hld.out.2;omega)];exact hfre b h
 have hp:Pre w hb mb tb E C σ q k S z Wb ((k,l)::T) (upB σ l (some (2*l+1))) l N:=
  { hw:=hwb0
    me:=List.mem_cons_self
    sg:=fun i hi=>upB_other _ _ (fun e=>hi (by rw[e];exact hsl))
    sn:=fun i hi h0=>by rw[upB_other _ _ (by have:=Hld.out.2;have:=HN.out.1;omega)];exact h0
    h:=by rw[tb0.block _ (blk_lt D0) (nb _ (by omega))];exact D0
    t:=by rw[tb0.block _ (blk_lt D1) (nb _ (by omega))];exact D1
    k:=by rw[tb0.block _ (blk_lt D2) (nb _ (by omega))];exact D2
    v:=by rw[tb0.block _ (blk_lt D3) (nb _ (by omega)), ←z1, ←z2, ←z3, ←z4, ←z5];exact D3
    lh:=ul _ (by omega) (by omega)
    lt:=ul _ (by omega) (by omega)
    lk:=ul _ (by omega) (by omega)
    lv:=ul _ (by omega) (by omega)
    zok:=(HZk.out.tch (HT0.out.trans' t03) (fun _ _ h=>h.elim) (fun _ _ _=>rfl)).tch tb0 (fun g hg e j hj=>by rw[e,hV.lt] at hj;injection hj with hj;omega) (fun i hi hn=>upB_other _ _ (fun e=>hn (by rw[e];exact hsl)))
    tch:=((HT0.out.trans' t03).mono (fun _ _ h=>h.elim)).trans tb0 (fun i _ e=>by rw[e];exact hltb) }
 have gk:=hp.hw.look2 hp.me hS
 simp only at gk
 rw[he] at gk
 simp only[ptrV] at gk
 have e2':Wb.cell? ⟨N+1+1,0,none⟩=some (.string S):=by rw[blk_cell hp.k];rfl
 clear hl h1 h2 D0 D1 D2 D3 z1 z2 z3 z4 z5 hfre t3 t03 hsl hV hwb0 tb0 hltb nb ul
 obtain⟨w3,hrun,HM0⟩:=hp.next hS he hq
 obtain⟨cb,hcbd⟩: ∃cb,cb=Wb.heap.size+1:=⟨_,rfl⟩
 have e2:(Wb.alloc (.cells #[.pointer none] 110)).cell? ⟨N+1+1,0,none⟩=some (.string S):=by rw[(Tch.alloc (fun _=>False) Wb _).cell (p:=⟨N+1+1,0,none⟩) (blk_lt hp.k) (fun h=>h),blk_cell hp.k];rfl
 have e3:(vW Wb).cell? ⟨N+1+1,0,none⟩=some (.string S):=by
  unfold vW
  rw[((Tch.alloc (fun _=>False) Wb _).allocR _).cell (p:=⟨N+1+1,0,none⟩) (blk_lt hp.k) (fun h=>h),blk_cell hp.k];rfl
 rw[←hcbd] at HM0
 have HM:Hid _:=HM0
 have ebc:w3.cell? ⟨Wb.heap.size,0,none⟩=some (.pointer (some ⟨cb,0,none⟩)):=by rw[blk_cell HM0.c];rfl
 have hcb:=(HM0.hw.chs _ HM0.me).1
 obtain⟨co,cc,zs,hC⟩: ∃co cc zs,upB C cb (none,0,[]) cb=(co,cc,zs):=⟨_,_,_,rfl⟩
 simp only[hC] at hcb
 obtain⟨ln,hln⟩: ∃ln,ln=zs.length:=⟨_,rfl⟩
 have ec:w3.cell? ⟨cb,0,none⟩=some (.slice co ln cc):=by rw[blk_cell hcb.blk,hln];rfl
 have HC:Hid (upB C cb (none,0,[]) cb=(co,cc,zs)∧ln=zs.length):=⟨hC,hln⟩
 simp only[vW] at hrun e3
 have Hcbd:Hid (cb=Wb.heap.size+1):=hcbd
 clear he hcb hC hln HM0 hp hcbd
 go_wp2_with fail
 obtain⟨W,hW⟩: ∃W,W=w3.alloc (.cells #[.slice co ln cc] 72):=⟨_,rfl⟩
 rw[←hW]
 obtain⟨hC,hln⟩:=HC.out
 have hm0:=HM.out
 have hwb:W.heap[w3.heap.size]? =some (.cells #[.slice co ln cc] 72 (0,0)):=by rw[hW];exact alloc_new _ _
 have hlw:(upB (upB σ l (some (2*l+1))) cb (some (2*cb+1))) w3.heap.size=none:=by
  cases hs:(upB (upB σ l (some (2*l+1))) cb (some (2*cb+1))) w3.heap.size with
  |none=>rfl
  |some a=>exact absurd (hm0.hw.dom _ (by rw[hs];exact fun h=>by cases h)) (Nat.lt_irrefl _)
 have hm:=hm0.no (W':=W) (by rw[hW];exact Tch.alloc _ _ _)
 have Hne:Hid (w3.heap.size≠cb):=fun e=>by
  have:=(hm.hw.chs _ hm.me).1.lab
  simp only at this
  rw[←e,upB_same] at this
  have h2:=hlw
  rw[←e,upB_same] at h2
  cases h2
 clear hW hm0
 have hn:zs.length≤1000000:=by
  have:=(hm.hw.chs _ hm.me).2
  rw[hC] at this
  simp only at this
  omega
 obtain⟨z1,z2,z3,z4,z5⟩:=HZ.out
 obtain⟨CV,hCV⟩: ∃CV:List Value→World→Prop,CV=VC W (.slice co ln cc) ln (vrl zs) [.int .i64 wr,.bool th,.slice rv rn rc]:=⟨_,rfl⟩
 have hrow:W.ownsRow 0 69 3 (.slice co ln cc) ln (vrl zs):=by
  have:=(hm.hw.chs _ hm.me).1
  rw[hC] at this
  rw[hln]
  exact this.row
 have HRow:Hid _:=hrow
 have hbx: ∀b (cs:Array Value) t,W.heap[b]? =some (.cells cs t (0,0))→t≠69∨ ¬(Value.slice co ln cc).ownBlock=some b→ ∀s V,CV s V→V.heap[b]? =some (.cells cs t (0,0)):=fun b cs t hb hn s V hV=>by
  rw[hCV] at hV
  rw[(VC.tch hV).block b (blk_lt hb) (fun e=>?_)]
  ·exact hb
  ·rcases hn with hn|hn
   ·exact row_ne hrow hb (fun e=>hn e.symm) e rfl
   ·exact hn e
 have hvn: ¬(Value.slice co ln cc).ownBlock=some (N+1+1+1):=fun e=>by
  have hcb:=(hm.hw.chs _ hm.me).1
  rw[hC] at hcb
  rw[hln] at e
  have:=hcb.rl _ e
  rw[hm.lv] at this;cases this
 have hK: ∀s V,CV s V→V.cell? ⟨Wb.heap.size,0,none⟩=some (.pointer (some ⟨cb,0,none⟩))∧V.cell? ⟨w3.heap.size,0,none⟩=some (.slice co ln cc)∧V.cell? ⟨N+1+1+1,0,none⟩=some (.int .i64 wr)∧V.cell? ⟨N+1+1+1,1,none⟩=some (.bool th)∧V.cell? ⟨N+1+1+1,2,none⟩=some (.slice rv rn rc):=fun s V hV=>by
  have a:=hbx _ _ _ hm.c (.inl (by decide)) s V hV
  have b:=hbx _ _ _ hwb (.inl (by decide)) s V hV
  have c:=hbx _ _ _ hm.v (.inr hvn) s V hV
  refine⟨by rw[blk_cell a];rfl,by rw[blk_cell b];rfl,by rw[blk_cell c,z1];rfl,by rw[blk_cell c,z2];rfl,by rw[blk_cell c,z3,z4,z5];rfl⟩
 have h0':CV [] W.drew:=by rw[hCV];exact(Tch.refl _ _).drew
 have h6: ∀V,CV [] V→CV [.slice (some ⟨V.heap.size,0,none⟩) 1 1] (V.alloc (.cells #[.int .i64 wr,.bool th,.slice rv rn rc] 69)):=fun V h=>by
  rw[hCV] at h ⊢
  exact VC.one h
 have h7: ∀g9 V,CV [.slice (some ⟨g9,0,none⟩) 1 1] V→ ∃o5 c5 w',(Builtin.append_ #[72,72] 72 #[Value.slice co ln cc,.slice (some ⟨g9,0,none⟩) 1 1]).run Tryz.prog V= .ok (.slice o5 (ln+1) c5) w'∧CV [.slice (some ⟨g9,0,none⟩) 1 1,.slice o5 (ln+1) c5] w':=fun g9 V h=>by
  rw[hCV] at h ⊢
  exact VC.two HRow.out (by omega) rfl (by simp[Value.oneCell']) h
 have hsh1: ∀y V,CV [y] V→ ∃g,y= .slice (some ⟨g,0,none⟩) 1 1:=fun y V h=>by
  rw[hCV] at h
  obtain⟨_,g,e,_⟩:=h
  exact⟨g,e⟩
 have hsh2: ∀y z V,CV [y,z] V→ ∃o5 c5,z= .slice o5 (ln+1) c5:=fun y z V h=>by
  rw[hCV] at h
  obtain⟨_,⟨o5,c5,e,_⟩,_⟩:=h
  exact⟨o5,c5,e⟩
 have Hcb:Hid (∀s V,CV s V→V.heap[cb]? =some (.cells #[.slice co ln cc] 72 (0,0))):=fun s V hV=>by
  have hcb:=(hm.hw.chs _ hm.me).1
  rw[hC] at hcb
  have:=hcb.blk
  rw[←hln] at this
  exact hbx _ _ _ this (.inl (by decide)) s V hV
 have Hfin:Hid (∀y o5 c5 V x,CV [y,.slice o5 (ln+1) c5] V→x=Ending.returned (.tuple #[.slice co ln cc,.func (.func 89) #[] #[.pointer (some ⟨Wb.heap.size,0,none⟩),.pointer (some ⟨w3.heap.size,0,none⟩),.pointer (some ⟨N,0,none⟩),.pointer (some ⟨N+1,0,none⟩),.pointer (some ⟨N+1+1,0,none⟩)]])→LayOut w hb mb tb E C σ q k S z x (V.setCell ⟨cb,0,none⟩ (.slice o5 (ln+1) c5))):=fun y o5 c5 V x hV hx=>by
  rw[hCV,hln,z1,z2,z3,z4,z5] at hV
  rw[hln] at hx ⊢
  rw[hln] at hwb
  exact hm.fin hC hwb hlw hV x hx
 have hmf: ∀(fn:Fn) (first cap:Array Value) (w:World),(Instr.makeFunc fn first cap).run Tryz.prog w= .ok (.func fn first cap) w:=fun _ _ _ _=>rfl
 clear hCV hbx hvn hrow hm hwb hlw hn z1 z2 z3 z4 z5 hln hC
 refine wp_region_ordv [3,4] CV 5 [0,1,2,3,4] (by kernel_rfl) (by kernel_rfl) h0' ?_
 clear h0'
 iterate 3
  refine ordv_read rfl (by go_simp) (by rfl) ?_
  apply Exists.intro
  refine⟨fun s' W hW b K Q hK'=>?_,fun K hK'=>?_⟩
  ·obtain⟨q0,q1,q2,q3,q4⟩:=hK _ W hW
   go_simp
   exact hK' W hW
  go_simp
  refine hK' _ ?_
  clear hK' K
 refine ordv_turn rfl (by go_simp) (by rfl) (fun V hV b K Q hK'=>?_) (fun u hu K hK'=>?_)
 ·go_simp
  exact hK' _ _ (h6 V hV)
 obtain⟨g,rfl⟩: ∃g,u= .slice (some ⟨g,0,none⟩) 1 1:=by
  obtain⟨W',hW'⟩:=hu
  exact hsh1 u W' hW'
 clear hu h6
 go_simp
 refine hK' _ ?_
 clear hK' K
 refine ordv_turn rfl (by go_simp) (by rfl) (fun V hV=>?_) (fun u hu K hK'=>?_)
 ·obtain⟨to',tc',w',hr,h1⟩:=h7 g V hV
  exact yv_append (.tmp 41) (.tmp 43) 72 rfl (.slice co ln cc) (.slice (some ⟨g,0,none⟩) 1 1) rfl rfl hr h1
 obtain⟨o5,c5,rfl⟩: ∃o5 c5,u= .slice o5 (ln+1) c5:=by
  obtain⟨W',hW'⟩:=hu
  exact hsh2 _ u W' hW'
 clear hu h7 hsh1 hsh2
 go_simp
 refine hK' _ ?_
 clear hK' K
 refine ordv_nil ?_
 intro w5 hw5
 obtain⟨q0,q1,_,_,_⟩:=hK _ _ hw5
 have b5:=Hcb.out _ _ hw5
 have q5:w5.cell? ⟨cb,0,none⟩=some (.slice co ln cc):=by rw[blk_cell b5];rfl
 have f5:=blk_frozen b5 0
 have HF:Hid _:=fun x=>Hfin.out _ _ _ w5 x hw5
 have q6:(w5.setCell ⟨cb,0,none⟩ (.slice o5 (ln+1) c5)).cell? ⟨w3.heap.size,0,none⟩=some (.slice co ln cc):=by rw[World.cell?_setCell_other _ _ _ _ (by intro e;injection e with e;exact Hne.out e.symm)];exact q1
 clear hK Hcb Hfin hw5 b5
 go_wp2_with fail
 go_ret2
 exact HF.out _ rfl
end Go.Proofs.YtppokgdofgigfaaGreat
