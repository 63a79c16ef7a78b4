import Derived.Test.YtppokgdofgigfaaGreatFD2
import Derived.Test.YtppokgdofgigfaaGreatFP4
set_option maxHeartbeats 4000000
set_option maxRecDepth 100000
namespace Go.Proofs.YtppokgdofgigfaaGreat.F
open Go.RowKit Go Go.Sort
set_option maxRecDepth 100000
theorem does_shut {w0:Fr} {w:World} {qb hb mb nq:Nat} {m:Mg} {L:HL} {q:Mo} {A:Nat→Sx} {F:Nat→Prop} (h:LW w0 w qb hb mb nq m L q A F) {κ:Nat} (hκ:0<κ) {kind who key n:Int} (hki: -9223372036854775808≤kind∧kind≤9223372036854775807) (hwi: -9223372036854775808≤who∧who≤9223372036854775807) (hk0:pkN kind 12=κ) {s:Se} (hs:q.l[pkN who 5]? =some s) (ho:s.op=false):
  Calls Tryz.prog 6 #[.pointer (some ⟨qb,0,none⟩),actV kind who key n] w fun x w'=>x= .returned (.bool true)∧Tch (fun _=>False) w w':=by
 obtain⟨k,hk⟩: ∃k,k=pkN who 5:=⟨_,rfl⟩
 have hk5:k<5:=by rw[hk];exact pkN_lt who (by decide)
 obtain⟨w1,hw1⟩: ∃w1,w1=w.alloc (.cells #[.int .i64 kind,.int .i64 who,.int .i64 key,.int .i64 n] 29):=⟨_,rfl⟩
 obtain⟨N,hN⟩: ∃N,N=w.heap.size:=⟨_,rfl⟩
 have bN:w1.heap[N]? =some (.cells #[.int .i64 kind,.int .i64 who,.int .i64 key,.int .i64 n] 29 (0,0)):=by rw[hw1,hN];exact alloc_new _ _
 have x0:w1.cell? ⟨N,0,none⟩=some (.int .i64 kind):=by rw[blk_cell bN];rfl
 have x1:w1.cell? ⟨N,1,none⟩=some (.int .i64 who):=by rw[blk_cell bN];rfl
 have f0:=blk_frozen bN 0
 have qp1:=pick9_any who 5 w1 hwi.1 hwi.2 (by decide) (by decide)
 have qp2:=pick9_any kind 12 w1 hki.1 hki.2 (by decide) (by decide)
 rw[←hk] at qp1
 rw[hk0] at qp2
 have t1:Tch (fun _=>False) w (w1.setCell ⟨N,0,none⟩ (.int .i64 κ)):=((by rw[hw1];exact Tch.alloc _ _ _:Tch (fun i=>w.heap.size≤i) w w1).setCellR _ _ (by show w.heap.size≤N;omega)).mono (fun i hi e=>by omega)
 have b2:(w1.setCell ⟨N,0,none⟩ (.int .i64 κ)).heap[N]? =some (.cells #[.int .i64 κ,.int .i64 who,.int .i64 key,.int .i64 n] 29 (0,0)):=blk_set bN _
 obtain⟨w2,hw2⟩: ∃w2,w2=w1.setCell ⟨N,0,none⟩ (.int .i64 κ):=⟨_,rfl⟩
 rw[←hw2] at t1 b2
 have h2:=h.no t1
 rw[←hk] at hs
 have y0:w2.cell? ⟨qb,2+k*15,none⟩=some (.bool false):=by
  have:=(h2.mor.se k s hs).c 0 _ rfl
  rw[ho] at this;exact this
 have y1:w2.cell? ⟨qb,2+k*15+1,none⟩=some (.bool s.pp):=(h2.mor.se k s hs).c 1 _ rfl
 clear y1
 have z0:w2.cell? ⟨N,0,none⟩=some (.int .i64 κ):=by rw[blk_cell b2];rfl
 have HW1:Hid (w1=_):=hw1
 have HN:Hid (N=w.heap.size):=hN
 have HW2:Hid (w2=_):=hw2
 have HT:Hid (Tch (fun _=>False) w w2):=t1
 have k0: ¬(κ:Int)=0:=by omega
 unfold actV
 clear h h2 t1 hs hw1 hN hw2 bN b2 hk hk0
 go_enter Tryz.func6,Tryz.ntmps6
 go_upto_region 1 with(fail)
 rw[←HW1.out, ←HN.out]
 go_wp2_with fail
 refine qp1.mono ?_
 rintro x w3 ⟨rfl,rfl⟩
 go_wp2_with fail
 refine qp2.mono ?_
 rintro x w3 ⟨rfl,rfl⟩
 clear qp1 qp2
 go_upto_region 5 with(fail)
 rw[←HW2.out]
 clear HW1 HN HW2 x0 x1 f0
 go_wp2_with fail
 go_ret
 exact⟨rfl,HT.out⟩
theorem does_still {w0:Fr} {w:World} {qb hb mb nq:Nat} {m:Mg} {L:HL} {q:Mo} {A:Nat→Sx} {F:Nat→Prop} (h:LW w0 w qb hb mb nq m L q A F) {κ:Nat} (hκ:2<κ) {kind who key n:Int} (hki: -9223372036854775808≤kind∧kind≤9223372036854775807) (hwi: -9223372036854775808≤who∧who≤9223372036854775807) (hk0:pkN kind 12=κ) {s:Se} (hs:q.l[pkN who 5]? =some s) (ho:s.op=true) (hp:s.pp=true):
  Calls Tryz.prog 6 #[.pointer (some ⟨qb,0,none⟩),actV kind who key n] w fun x w'=>x= .returned (.bool true)∧Tch (fun _=>False) w w':=by
 obtain⟨k,hk⟩: ∃k,k=pkN who 5:=⟨_,rfl⟩
 have hk5:k<5:=by rw[hk];exact pkN_lt who (by decide)
 obtain⟨w1,hw1⟩: ∃w1,w1=w.alloc (.cells #[.int .i64 kind,.int .i64 who,.int .i64 key,.int .i64 n] 29):=⟨_,rfl⟩
 obtain⟨N,hN⟩: ∃N,N=w.heap.size:=⟨_,rfl⟩
 have bN:w1.heap[N]? =some (.cells #[.int .i64 kind,.int .i64 who,.int .i64 key,.int .i64 n] 29 (0,0)):=by rw[hw1,hN];exact alloc_new _ _
 have x0:w1.cell? ⟨N,0,none⟩=some (.int .i64 kind):=by rw[blk_cell bN];rfl
 have x1:w1.cell? ⟨N,1,none⟩=some (.int .i64 who):=by rw[blk_cell bN];rfl
 have f0:=blk_frozen bN 0
 have qp1:=pick9_any who 5 w1 hwi.1 hwi.2 (by decide) (by decide)
 have qp2:=pick9_any kind 12 w1 hki.1 hki.2 (by decide) (by decide)
 rw[←hk] at qp1
 rw[hk0] at qp2
 have t1:Tch (fun _=>False) w (w1.setCell ⟨N,0,none⟩ (.int .i64 κ)):=((by rw[hw1];exact Tch.alloc _ _ _:Tch (fun i=>w.heap.size≤i) w w1).setCellR _ _ (by show w.heap.size≤N;omega)).mono (fun i hi e=>by omega)
 have b2:(w1.setCell ⟨N,0,none⟩ (.int .i64 κ)).heap[N]? =some (.cells #[.int .i64 κ,.int .i64 who,.int .i64 key,.int .i64 n] 29 (0,0)):=blk_set bN _
 obtain⟨w2,hw2⟩: ∃w2,w2=w1.setCell ⟨N,0,none⟩ (.int .i64 κ):=⟨_,rfl⟩
 rw[←hw2] at t1 b2
 have h2:=h.no t1
 rw[←hk] at hs
 have y0:w2.cell? ⟨qb,2+k*15,none⟩=some (.bool true):=by
  have:=(h2.mor.se k s hs).c 0 _ rfl
  rw[ho] at this;exact this
 have y1:w2.cell? ⟨qb,2+k*15+1,none⟩=some (.bool s.pp):=(h2.mor.se k s hs).c 1 _ rfl
 rw[hp] at y1
 have z0:w2.cell? ⟨N,0,none⟩=some (.int .i64 κ):=by rw[blk_cell b2];rfl
 have HW1:Hid (w1=_):=hw1
 have HN:Hid (N=w.heap.size):=hN
 have HW2:Hid (w2=_):=hw2
 have HT:Hid (Tch (fun _=>False) w w2):=t1
 have k0: ¬(κ:Int)=0:=by omega
 have k1: ¬(κ:Int)=1:=by omega
 have k2: ¬(κ:Int)=2:=by omega
 unfold actV
 clear h h2 t1 hs hw1 hN hw2 bN b2 hk hk0
 go_enter Tryz.func6,Tryz.ntmps6
 go_upto_region 1 with(fail)
 rw[←HW1.out, ←HN.out]
 go_wp2_with fail
 refine qp1.mono ?_
 rintro x w3 ⟨rfl,rfl⟩
 go_wp2_with fail
 refine qp2.mono ?_
 rintro x w3 ⟨rfl,rfl⟩
 clear qp1 qp2
 go_upto_region 5 with(fail)
 rw[←HW2.out]
 clear HW1 HN HW2 x0 x1 f0
 go_wp2_with fail
 go_ret
 exact⟨rfl,HT.out⟩
set_option maxRecDepth 100000
theorem LW.setP {w0:Fr} {w:World} {qb hb mb nq k:Nat} {m:Mg} {L:HL} {q:Mo} {A:Nat→Sx} {F:Nat→Prop} (h:LW w0 w qb hb mb nq m L q A F) {s:Se} (hs:q.l[k]? =some s): ∃A' F',LW w0 (w.setCell ⟨qb,2+k*15+1,none⟩ (.bool true)) qb hb mb nq m L { q with l:=q.l.set k { s with pp:=true } } A' F':=by
 have hI:=h.se k _ hs
 have hB:=h.bd k _ hs
 have:=h.relist (s':= { s with pp:=true }) (a':=A k) hs (Tch.refl (fun _=>False) w) (fun _ e=>e.elim) (SeIn.mono (F:=F) ⟨hI.on,hI.onf,hI.ps,hI.psf,hI.ws,hI.wsf⟩ (fun _ e=>.inl e)) ⟨hB.pl,hB.wl,hB.pr,hB.wr,hB.ba⟩ (.inl rfl) (.inl rfl) (j:=1) (by decide) (v:= .bool true) rfl
 exact⟨_,_,this⟩
theorem does_prepare {w0:Fr} {w:World} {qb hb mb nq:Nat} {m:Mg} {L:HL} {q:Mo} {A:Nat→Sx} {F:Nat→Prop} (h:LW w0 w qb hb mb nq m L q A F) {kind who key n:Int} (hki: -9223372036854775808≤kind∧kind≤9223372036854775807) (hwi: -9223372036854775808≤who∧who≤9223372036854775807) (hk0:pkN kind 12=11) {s:Se} (hs:q.l[pkN who 5]? =some s) (ho:s.op=true) (hp:s.pp=false) (hwf:Wf m) {t:Tx} (ht:SesTx m s t) (hx:s.x≤1000000):
  Calls Tryz.prog 6 #[.pointer (some ⟨qb,0,none⟩),actV kind who key n] w fun x w'=>x= .returned (.bool true)∧ ∃A' F',LW w0 w' qb hb mb nq (m.prep t.x) L { q with l:=q.l.set (pkN who 5) { s with pp:=true } } A' F':=by
 obtain⟨k,hk⟩: ∃k,k=pkN who 5:=⟨_,rfl⟩
 have hk5:k<5:=by rw[hk];exact pkN_lt who (by decide)
 obtain⟨w1,hw1⟩: ∃w1,w1=w.alloc (.cells #[.int .i64 kind,.int .i64 who,.int .i64 key,.int .i64 n] 29):=⟨_,rfl⟩
 obtain⟨N,hN⟩: ∃N,N=w.heap.size:=⟨_,rfl⟩
 have bN:w1.heap[N]? =some (.cells #[.int .i64 kind,.int .i64 who,.int .i64 key,.int .i64 n] 29 (0,0)):=by rw[hw1,hN];exact alloc_new _ _
 have x0:w1.cell? ⟨N,0,none⟩=some (.int .i64 kind):=by rw[blk_cell bN];rfl
 have x1:w1.cell? ⟨N,1,none⟩=some (.int .i64 who):=by rw[blk_cell bN];rfl
 have f0:=blk_frozen bN 0
 have qp1:=pick9_any who 5 w1 hwi.1 hwi.2 (by decide) (by decide)
 have qp2:=pick9_any kind 12 w1 hki.1 hki.2 (by decide) (by decide)
 rw[←hk] at qp1
 rw[hk0] at qp2
 have t1:Tch (fun _=>False) w (w1.setCell ⟨N,0,none⟩ (.int .i64 11)):=((by rw[hw1];exact Tch.alloc _ _ _:Tch (fun i=>w.heap.size≤i) w w1).setCellR _ _ (by show w.heap.size≤N;omega)).mono (fun i hi e=>by omega)
 have b2:(w1.setCell ⟨N,0,none⟩ (.int .i64 11)).heap[N]? =some (.cells #[.int .i64 11,.int .i64 who,.int .i64 key,.int .i64 n] 29 (0,0)):=blk_set bN _
 obtain⟨w2,hw2⟩: ∃w2,w2=w1.setCell ⟨N,0,none⟩ (.int .i64 11):=⟨_,rfl⟩
 rw[←hw2] at t1 b2
 have h2:=h.no t1
 rw[←hk] at hs ⊢
 have y0:w2.cell? ⟨qb,2+k*15,none⟩=some (.bool true):=by
  have:=(h2.mor.se k s hs).c 0 _ rfl
  rw[ho] at this;exact this
 have y1:w2.cell? ⟨qb,2+k*15+1,none⟩=some (.bool s.pp):=(h2.mor.se k s hs).c 1 _ rfl
 rw[hp] at y1
 have f1:w2.frozen? ⟨qb,2+k*15+1,none⟩=false:=h2.frz _
 have hf:=ses_x hwf ht
 have hst:t.st=1:=by rw[ht.st,hp];rfl
 obtain⟨A3,F3,h3⟩:=h2.setP hs
 obtain⟨q3,hq3⟩: ∃q3:Mo,q3= { q with l:=q.l.set k { s with pp:=true } } :=⟨_,rfl⟩
 have hs3:q3.l[k]? =some { s with pp:=true } :=by rw[hq3];exact List.getElem?_set_self (List.getElem?_eq_some_iff.1 hs).1
 rw[←hq3] at h3 ⊢
 obtain⟨C,hC⟩: ∃C:List Value→World→Prop,C=E1 w0 qb hb mb nq m (m.prep t.x) L q3 A3 F3 (.int .i64 0):=⟨_,rfl⟩
 have hK:Hid (∀s1 W,C s1 W→W.cell? ⟨qb,0,none⟩=some (.pointer (some ⟨mb,0,none⟩))∧W.cell? ⟨qb,2+k*15+2,none⟩=some (.int .i64 s.x)):=fun s1 W hW=>by
  rw[hC] at hW
  exact⟨hW.mor.cm,(hW.mor.se k _ hs3).c 2 _ rfl⟩
 obtain⟨w9,hw9⟩: ∃w9,w9=w2.setCell ⟨qb,2+k*15+1,none⟩ (.bool true):=⟨_,rfl⟩
 rw[←hw9] at h3
 have h0':C [] w9.drew:=by
  rw[hC]
  exact LW.no h3 (Tch.refl _ _).drew
 have c1:Hid (∀W,C [] W→Calls Tryz.prog 23 #[.pointer (some ⟨mb,0,none⟩),.int .i64 s.x] W fun x W'=> ∃y,x= .returned y∧C [y] W'):=fun W hW=>by
  rw[hC] at hW ⊢
  exact(LW.prepares hW hf hst (by omega) (by omega)).mono fun x W' ⟨e,h2⟩=>⟨_,e,rfl,h2⟩
 have s1:Hid (∀y W,C [y] W→y= .int .i64 0):=fun y W hW=>by
  rw[hC] at hW
  exact hW.1
 have HF:Hid (∀y W,C [y] W→LW w0 W qb hb mb nq (m.prep t.x) L q3 A3 F3):=fun y W hW=>by
  rw[hC] at hW
  exact hW.2
 have HW9:Hid (w9=_):=hw9
 clear hC h3 hs3 hq3 hf hst ht hwf hw9
 have HW1:Hid (w1=_):=hw1
 have HN:Hid (N=w.heap.size):=hN
 have HW2:Hid (w2=_):=hw2
 have HT:Hid (Tch (fun _=>False) w w2):=t1
 unfold actV
 clear h h2 t1 hs hw1 hN hw2 bN b2 hk hk0
 go_enter Tryz.func6,Tryz.ntmps6
 go_upto_region 1 with(fail)
 rw[←HW1.out, ←HN.out]
 go_wp2_with fail
 refine qp1.mono ?_
 rintro x w3 ⟨rfl,rfl⟩
 go_wp2_with fail
 refine qp2.mono ?_
 rintro x w3 ⟨rfl,rfl⟩
 clear qp1 qp2
 go_upto_region 5 with(fail)
 rw[←HW2.out]
 clear HW1 HN HW2 x0 x1 f0
 go_upto_region 31 with(fail)
 rw[←HW9.out]
 refine wp_region_ordv [8] C 9 [0,1,2,3,4,5,6,7,8] (by kernel_rfl) (by kernel_rfl) h0' ?_
 clear h0'
 iterate 8
  refine ordv_read rfl (by go_simp) (by rfl) ?_
  apply Exists.intro
  refine⟨fun s' W hW b K Q hK'=>?_,fun K hK'=>?_⟩
  ·obtain⟨q0,q1⟩:=hK.out _ W hW
   go_simp
   exact hK' W hW
  go_simp
  refine hK' _ ?_
  clear hK' K
 refine ordv_turn rfl (by go_simp) (by rfl) (fun W hW b K Q hK'=>?_) (fun u hu K hK'=>?_)
 ·go_simp
  go_at_call 23
  refine(c1.out W hW).mono ?_
  rintro x w' ⟨y,rfl,h1⟩
  exact hK' y w' h1
 obtain rfl:u= .int .i64 0:=by
  obtain⟨W',hW'⟩:=hu
  exact s1.out u W' hW'
 clear hu c1 s1
 go_simp
 refine hK' _ ?_
 clear hK' K
 refine ordv_nil ?_
 intro w5 hw5
 have H5:Hid (LW w0 w5 qb hb mb nq (m.prep t.x) L q3 A3 F3):=HF.out _ w5 hw5
 clear hK HF hw5
 go_wp2_with fail
 go_ret
 exact⟨rfl,_,_,H5.out⟩
set_option maxRecDepth 100000
theorem number_none (w:World):Calls Tryz.prog 12 #[.slice none 0 0,.int .i64 90] w fun x w'=>x= .returned (.int .i64 0)∧w'=w:=by
 go_enter Tryz.func12,Tryz.ntmps12
 go_wp2_with fail
 go_ret
 exact⟨rfl,rfl⟩
theorem al_size (w:World) (o:Obj):(w.alloc o).heap.size=w.heap.size+1:=by show(w.heap.push o).size=_;simp
theorem al_old {w:World} (o:Obj) {i:Nat} (h:i<w.heap.size):(w.alloc o).heap[i]? =w.heap[i]? :=(Tch.alloc (fun _=>False) w o).block i h (fun e=>e)
theorem results_cell1 {P:Program} {fn:Func} {p:Tmp} {ty:TypeId} (h:fn.results=#[.cell p ty]) (tmps:Array Value) (w:World) (g:Nat) (v:Value) (hp:tmps.getD p undef= .pointer (some ⟨g,0,none⟩)) (hc:w.cell? ⟨g,0,none⟩=some v) (ha:(isAgg ty).run P w= .ok false w):(results fn tmps).run P w= .ok v w:=by
 have hp':tmps[p]?.getD undef= .pointer (some ⟨g,0,none⟩):=by simpa using hp
 simp[results,h,hp',asAddr,loadVar,Sem.run_bind,ha,go_sem,hc]
def R1 (wA:World) (s:Se) (κ:Nat) (l:List Value) (W:World):Prop:=match l with
 |[]=>Tch (fun _=>False) wA W
 |[y]=>y= .string (keyB κ)∧Tch (fun _=>False) wA W
 |[_,u]=>((seesS s κ=0∧u= .tuple #[.slice none 0 0,.int .i64 90])∨ ∃(n:Nat) (ro:Option Addr) (rc:Nat),seesS s κ=n+1∧u= .tuple #[.slice ro 1 rc,.int .i64 0]∧RdR W ro 1 rc (rowC n))∧Tch (fun _=>False) wA W
 |_=>False
theorem R1.t {wA:World} {s:Se} {κ:Nat} {l:List Value} {W:World} (h:R1 wA s κ l W):Tch (fun _=>False) wA W:=by
 match l,h with
 |[],h=>exact h
 |[_],h=>exact h.2
 |[_,_],h=>exact h.2
theorem reads_get {w0:Fr} {w:World} {qb hb mb nq:Nat} {m:Mg} {L:HL} {q:Mo} {A:Nat→Sx} {F:Nat→Prop} {K:Nat→List Vn} (h:LW w0 w qb hb mb nq m L q A F) (hI:Iv m q K) (hK:HK L K) {k:Nat} {s:Se} (hs:q.l[k]? =some s) (ho:s.op=true) {t:Tx} (ht:SesTx m s t) (hpp:s.pp=false) (hq:nq≤2000) (hn:m.nx≤1000000) (hol:s.on.length≤1000000) {who key n:Int} (hki: -9223372036854775808≤key∧key≤9223372036854775807):
  Calls Tryz.prog 24 #[.pointer (some ⟨qb,0,none⟩),.pointer (some ⟨qb,2+k*15,none⟩),actV 9 who key n] w fun x w'=> ∃b,x= .returned (.bool b)∧b=true∧Tch (fun _=>False) w w':=by
 obtain⟨N,hN⟩: ∃N,N=w.heap.size:=⟨_,rfl⟩
 obtain⟨wA,hwA⟩: ∃wA,wA=((w.alloc (.cells #[.pointer (some ⟨qb,2+k*15,none⟩)] 61)).alloc (.cells #[.int .i64 9,.int .i64 who,.int .i64 key,.int .i64 n] 29)).alloc (.cells #[.bool false] 4):=⟨_,rfl⟩
 have bB:wA.heap[N+1+1]? =some (.cells #[.bool false] 4 (0,0)):=by
  rw[hwA,hN];have:=alloc_new ((w.alloc (.cells #[.pointer (some ⟨qb,2+k*15,none⟩)] 61)).alloc (.cells #[.int .i64 9,.int .i64 who,.int .i64 key,.int .i64 n] 29)) (.cells #[.bool false] 4)
  simpa only[al_size] using this
 have bA:wA.heap[N+1]? =some (.cells #[.int .i64 9,.int .i64 who,.int .i64 key,.int .i64 n] 29 (0,0)):=by
  rw[hwA,hN]
  rw[al_old _ (by simp only[al_size];omega)]
  have:=alloc_new (w.alloc (.cells #[.pointer (some ⟨qb,2+k*15,none⟩)] 61)) (.cells #[.int .i64 9,.int .i64 who,.int .i64 key,.int .i64 n] 29)
  simpa only[al_size] using this
 have bS:wA.heap[N]? =some (.cells #[.pointer (some ⟨qb,2+k*15,none⟩)] 61 (0,0)):=by
  rw[hwA,hN]
  rw[al_old _ (by simp only[al_size];omega),al_old _ (by simp only[al_size];omega)]
  exact alloc_new _ _
 have tA:Tch (fun _=>False) w wA:=by rw[hwA];exact((Tch.alloc _ _ _).allocR _).allocR _
 have hA:=h.no tA
 obtain⟨κ,hκ⟩: ∃κ,κ=pkN key 6:=⟨_,rfl⟩
 have hk6:κ<6:=by rw[hκ];exact pkN_lt key (by decide)
 have HP:Hid (∀W,Calls Tryz.prog 7 #[.int .i64 key,.int .i64 6] W fun x w'=>x= .returned (.int .i64 κ)∧w'=W):=fun W=>by
  rw[hκ];exact pick9_any key 6 W hki.1 hki.2 (by decide) (by decide)
 have HL:Hid (∀W,Tch (fun _=>False) wA W→LW w0 W qb hb mb nq m L q A F):=fun W tt=>hA.no tt
 have HS:Hid (∀W,Tch (fun _=>False) wA W→W.cell? ⟨N,0,none⟩=some (.pointer (some ⟨qb,2+k*15,none⟩))):=fun W tt=>by
  rw[blk_cell (by rw[tt.block N (blk_lt bS) (fun e=>e)];exact bS)];rfl
 have HA:Hid (∀W,Tch (fun _=>False) wA W→W.cell? ⟨N+1,0,none⟩=some (.int .i64 9)∧W.cell? ⟨N+1,2,none⟩=some (.int .i64 key)):=fun W tt=>by
  have:=tt.block (N+1) (blk_lt bA) (fun e=>e)
  rw[blk_cell (by rw[this];exact bA),blk_cell (by rw[this];exact bA)];exact⟨rfl,rfl⟩
 have HBx:Hid (∀W,Tch (fun _=>False) wA W→W.heap[N+1+1]? =some (.cells #[.bool false] 4 (0,0))):=fun W tt=>by
  rw[tt.block (N+1+1) (blk_lt bB) (fun e=>e)];exact bB
 have qw:=writer_any wA qb (2+k*15) s (A k) (hA.mor.se k s hs)
 obtain⟨C,hC⟩: ∃C:List Value→World→Prop,C=R1 wA s κ:=⟨_,rfl⟩
 have hC1:Hid (∀s1 W,C s1 W→W.cell? ⟨qb,1,none⟩=some (.pointer (some ⟨hb,0,none⟩))∧W.cell? ⟨N,0,none⟩=some (.pointer (some ⟨qb,2+k*15,none⟩))∧W.cell? ⟨qb,2+k*15+3,none⟩=some (.int .i64 s.mn)∧W.cell? ⟨qb,2+k*15+4,none⟩=some (.int .i64 s.mx)∧W.cell? ⟨qb,2+k*15+5,none⟩=some (.slice (A k).so s.on.length (A k).sc)):=fun s1 W hW=>by
  rw[hC] at hW
  have hm:=(HL.out W hW.t).mor
  exact⟨hm.ch,HS.out W hW.t,(hm.se k s hs).c 3 _ rfl,(hm.se k s hs).c 4 _ rfl,(hm.se k s hs).c 5 _ rfl⟩
 have c0:Hid (∀W,C [] W→Calls Tryz.prog 11 #[.int .i64 κ] W fun x W'=> ∃y,x= .returned y∧C [y] W'):=fun W hW=>by
  rw[hC] at hW ⊢
  refine(keyOf_any κ hk6 W).mono ?_
  rintro x W' ⟨rfl,tt⟩
  exact⟨_,rfl,rfl,hW.t.trans' tt⟩
 have s0:Hid (∀y W,C [y] W→y= .string (keyB κ)):=fun y W hW=>by
  rw[hC] at hW;exact hW.1
 have c1:Hid (∀W,C [.string (keyB κ)] W→Calls Tryz.prog 9 #[.pointer (some ⟨hb,0,none⟩),.agg #[.int .i64 s.mn,.int .i64 s.mx,.slice (A k).so s.on.length (A k).sc],.int .i64 (wrN s (innS s)),.int .i64 1,.string (keyB κ)] W fun x W'=> ∃y,x= .returned y∧C [.string (keyB κ),y] W'):=fun W hW=>by
  rw[hC] at hW ⊢
  refine((HL.out W hW.t).gets hI hK hs ho ht hpp hq hn hol hk6).mono ?_
  rintro x W' ⟨hx,tt⟩
  rcases hx with⟨e1,rfl⟩|⟨nn,ro,rc,e1,rfl,how⟩
  ·exact⟨_,rfl,Or.inl ⟨e1,rfl⟩,hW.t.trans' tt⟩
  ·exact⟨_,rfl,Or.inr ⟨nn,ro,rc,e1,rfl,RdR.of_own how (by simp[rowC,Value.oneCell']) (by omega)⟩,hW.t.trans' tt⟩
 have s1:Hid (∀y W,C [.string (keyB κ),y] W→ ∃ro rn rc e,y= .tuple #[.slice ro rn rc,.int .i64 e]):=fun y W hW=>by
  rw[hC] at hW
  rcases hW.1 with⟨_,e⟩|⟨_,ro,rc,_,e,_⟩
  ·exact⟨_,_,_,_,e⟩
  ·exact⟨_,_,_,_,e⟩
 have HF:Hid (∀y W,C [.string (keyB κ),y] W→R1 wA s κ [.string (keyB κ),y] W):=fun y W hW=>by
  rw[hC] at hW;exact hW
 have h00:Hid (∀W,Tch (fun _=>False) wA W→C [] W.drew):=fun W tt=>by
  rw[hC];exact tt.drew
 have hbd:=hA.bd k s hs
 have HQ:Hid (∀W,Tch (fun _=>False) wA W→Calls Tryz.prog 42 #[.pointer (some ⟨qb,2+k*15,none⟩),.int .i64 κ] W fun x w'=>x= .returned (.int .i64 (seesS s κ))∧Tch (fun _=>False) wA w'):=fun W tt=>by
  refine(sees_any W qb (2+k*15) s (A k) ((HL.out W tt).mor.se k s hs) κ hk6 (hbd.ba κ hk6)).mono ?_
  rintro x w' ⟨rfl,t2⟩
  exact⟨rfl,tt.trans' t2⟩
 have Hle:Hid (seesS s κ≤1000):=by
  rw[←foldS_all];exact foldS_le s κ (hbd.ba κ hk6) (fun v hv=>(hbd.wr v hv).2.2.2) _
 have HT:Hid (Tch (fun _=>False) w wA):=tA
 have HWA:Hid (wA=_):=hwA
 have HN:Hid (N=w.heap.size):=hN
 have a0:=HS.out wA (Tch.refl _ _)
 unfold actV
 clear hwA hN bA bB bS tA hA h hI hK hs ho ht hpp hC hbd hκ
 go_enter Tryz.func24,Tryz.ntmps24
 go_upto_region 1 with(fail)
 rw[←HWA.out, ←HN.out]
 go_wp2_with fail
 refine qw.mono ?_
 clear qw a0
 rintro x w3 ⟨rfl,t3⟩
 have H3:Hid (Tch (fun _=>False) wA w3):=t3
 clear t3
 have a1:=(HA.out w3 H3.out).1
 have a2:=(HA.out w3 H3.out).2
 go_upto_region 3 with(fail)
 go_wp2_with fail
 refine(HP.out w3).mono ?_
 rintro x w4 ⟨rfl,rfl⟩
 clear a1 a2 HP
 go_upto_region 4 with(fail)
 refine wp_region_ordv [10,11] C 16 [0,1,2,3,4,5,6,7,8,9,10,11,12,13,14,15] (by kernel_rfl) (by kernel_rfl) (h00.out _ H3.out) ?_
 iterate 10
  refine ordv_read rfl (by go_simp) (by rfl) ?_
  apply Exists.intro
  refine⟨fun s' W hW b K Q hK'=>?_,fun K hK'=>?_⟩
  ·obtain⟨q0,q1,q2,q3,q4⟩:=hC1.out _ W hW
   go_simp
   exact hK' W hW
  go_simp
  refine hK' _ ?_
  clear hK' K
 refine ordv_turn rfl (by go_simp) (by rfl) (fun W hW b K Q hK'=>?_) (fun u hu K hK'=>?_)
 ·go_simp
  go_at_call 11
  refine(c0.out W hW).mono ?_
  rintro x w' ⟨y,rfl,h1⟩
  exact hK' y w' h1
 obtain rfl:u= .string (keyB κ):=by
  obtain⟨W',hW'⟩:=hu
  exact s0.out u W' hW'
 clear hu c0 s0
 go_simp
 refine hK' _ ?_
 clear hK' K
 refine ordv_turn rfl (by go_simp) (by rfl) (fun W hW b K Q hK'=>?_) (fun u hu K hK'=>?_)
 ·go_simp
  go_at_call 9
  refine(c1.out W hW).mono ?_
  rintro x w' ⟨y,rfl,h1⟩
  exact hK' y w' h1
 obtain⟨ro,rn,rc,e,rfl⟩: ∃ro rn rc e,u= .tuple #[.slice ro rn rc,.int .i64 e]:=by
  obtain⟨W',hW'⟩:=hu
  exact s1.out u W' hW'
 clear hu c1 s1
 iterate 4
  go_simp
  refine hK' _ ?_
  clear hK' K
  refine ordv_read rfl (by go_simp) (by rfl) ?_
  apply Exists.intro
  refine⟨fun s' W hW b K Q hK'=>?_,fun K hK'=>?_⟩
  ·obtain⟨q0,q1,q2,q3,q4⟩:=hC1.out _ W hW
   go_simp
   exact hK' W hW
 go_simp
 refine hK' _ ?_
 clear hK' K
 refine ordv_nil ?_
 intro w5 hw5
 have h5:=HF.out _ w5 hw5
 clear HF hw5 h00 hC1
 obtain⟨h5,t5⟩:=h5
 have HT5:Hid (Tch (fun _=>False) wA w5):=t5
 clear t5
 have HE:Hid (∃v:Nat,seesS s κ=v∧(e=0∨e=90)∧Calls Tryz.prog 12 #[.slice ro rn rc,.int .i64 e] w5 fun x w'=>x= .returned (.int .i64 v)∧w'=w5):=by
  rcases h5 with⟨e1,e2⟩|⟨nn,ro',rc',e1,e2,hr⟩
  ·injection e2 with e2
   simp only[Array.mk.injEq,List.cons.injEq,Value.slice.injEq,Value.int.injEq,and_true,true_and] at e2
   obtain⟨⟨rfl,rfl,rfl⟩,rfl⟩:=e2
   exact⟨0,e1,.inr rfl,number_none w5⟩
  ·injection e2 with e2
   simp only[Array.mk.injEq,List.cons.injEq,Value.slice.injEq,Value.int.injEq,and_true,true_and] at e2
   obtain⟨⟨rfl,rfl,rfl⟩,rfl⟩:=e2
   exact⟨nn+1,e1,.inl rfl,number_any _ _ nn w5 (by have:=Hle.out;omega) hr⟩
 clear h5
 obtain⟨v,hv,he,cn⟩:=HE.out
 have HV:Hid (seesS s κ=v):=hv
 have HE0:Hid (e=0∨e=90):=he
 clear HE hv he
 go_upto_region 5 with(fail)
 go_wp2_with fail
 refine cn.mono ?_
 clear cn
 rintro x w6 ⟨rfl,rfl⟩
 have b0:=HS.out _ HT5.out
 have cs:=HQ.out _ HT5.out
 rw[HV.out] at cs
 go_upto_region 6 with(fail)
 rcases HE0.out with rfl|rfl
 ·go_wp2_with fail
  refine cs.mono ?_
  clear cs b0
  rintro x w7 ⟨rfl,t7⟩
  have bb:=HBx.out w7 t7
  have f7:w7.frozen? ⟨N+1+1,0,none⟩=false:=blk_frozen bb 0
  have c7:w7.cell? ⟨N+1+1,0,none⟩=some (.bool false):=by rw[blk_cell bb];rfl
  have c8:(w7.setCell ⟨N+1+1,0,none⟩ (.bool true)).cell? ⟨N+1+1,0,none⟩=some (.bool true):=by rw[blk_cell (blk_set bb _)];rfl
  have H8:Hid (Tch (fun _=>False) w (w7.setCell ⟨N+1+1,0,none⟩ (.bool true))):=(((HT.out.trans' t7).mono (T:=fun i=>N≤i) (fun _ _ e=>e.elim)).setCellR _ _ (by show N≤N+1+1;omega)).mono (fun i hi e=>by have:=HN.out;omega)
  clear t7 bb
  go_wp2_with fail
  try simp only[Exit.inBlock,Exit.then]
  refine bodyPost_ret (v:= .bool true) (results_cell1 rfl _ _ (N+1+1) _ rfl c8 (by go_simp)) rfl ?_
  exact⟨true,rfl,rfl,H8.out⟩
 ·go_wp2_with fail
  refine cs.mono ?_
  clear cs b0
  rintro x w7 ⟨rfl,t7⟩
  have bb:=HBx.out w7 t7
  have f7:w7.frozen? ⟨N+1+1,0,none⟩=false:=blk_frozen bb 0
  have c7:w7.cell? ⟨N+1+1,0,none⟩=some (.bool false):=by rw[blk_cell bb];rfl
  have c8:(w7.setCell ⟨N+1+1,0,none⟩ (.bool true)).cell? ⟨N+1+1,0,none⟩=some (.bool true):=by rw[blk_cell (blk_set bb _)];rfl
  have H8:Hid (Tch (fun _=>False) w (w7.setCell ⟨N+1+1,0,none⟩ (.bool true))):=(((HT.out.trans' t7).mono (T:=fun i=>N≤i) (fun _ _ e=>e.elim)).setCellR _ _ (by show N≤N+1+1;omega)).mono (fun i hi e=>by have:=HN.out;omega)
  clear t7 bb
  go_wp2_with fail
  try simp only[Exit.inBlock,Exit.then]
  refine bodyPost_ret (v:= .bool true) (results_cell1 rfl _ _ (N+1+1) _ rfl c8 (by go_simp)) rfl ?_
  exact⟨true,rfl,rfl,H8.out⟩
set_option maxRecDepth 100000
def sj (s:Se) (k:Nat) (b:Bool) (n:Nat):Se:= { s with ps:=psj s.ps k b n }
theorem sj_zero (s:Se) (k:Nat) (b:Bool):sj s k b 0=s:=by
 unfold sj;rw[psj_zero]
theorem sj_all (s:Se) (k:Nat) (b:Bool):sj s k b s.ps.length=endS s k b:=rfl
theorem sj_at (s:Se) (k:Nat) (b:Bool) (n:Nat) {p:Pr} (hp:s.ps[n]? =some p):(sj s k b n).ps[n]? =some p:=by
 show(psj s.ps k b n)[n]? =some p
 rw[psj_get,hp,Option.map_some,if_neg (by omega)]
theorem set_same {l:List Se} {k:Nat} {s:Se} (h:l[k]? =some s):l.set k s=l:=by
 apply List.ext_getElem?
 intro i
 by_cases e:i=k
 ·subst e
  rw[List.getElem?_set_self (List.getElem?_eq_some_iff.1 h).1,h]
 ·rw[List.getElem?_set_ne (fun e2=>e e2.symm)]
theorem bd_ps {s:Se} (h:SeBd s) {ps':List Pr} (hl:ps'.length=s.ps.length) (hp: ∀(i:Nat) (v:Pr),ps'[i]? =some v→ ∃u,s.ps[i]? =some u∧v.par=u.par∧v.x=u.x):SeBd { s with ps:=ps' } :=
 ⟨by show ps'.length≤1000;rw[hl];exact h.pl,h.wl,fun i v hv=>by
  obtain⟨u,h1,h2,h3⟩:=hp i v hv
  have:=h.pr i u h1
  rw[h2,h3];exact this,fun v hv=>by
  have:=h.wr v hv
  show -1≤v.pt∧v.pt<ps'.length∧v.key<6∧v.n<1000
  rw[hl];exact this,h.ba⟩
theorem set_par {ps:List Pr} {i:Nat} {p p':Pr} (hp:ps[i]? =some p) (h1:p'.par=p.par) (h2:p'.x=p.x): ∀(j:Nat) (v:Pr),(ps.set i p')[j]? =some v→ ∃u,ps[j]? =some u∧v.par=u.par∧v.x=u.x:=fun j v hv=>by
 by_cases e:j=i
 ·subst e
  rw[List.getElem?_set_self (List.getElem?_eq_some_iff.1 hp).1] at hv
  injection hv with hv
  subst hv
  exact⟨p,hp,h1,h2⟩
 ·rw[List.getElem?_set_ne (fun e2=>e e2.symm)] at hv
  exact⟨v,hv,rfl,rfl⟩
section
variable {w0:Fr} {w w':World} {qb hb mb nq:Nat} {m:Mg} {L:HL} {q:Mo} {A:Nat→Sx} {F:Nat→Prop}
theorem LW.setPr (h:LW w0 w qb hb mb nq m L q A F) {k:Nat} {s:Se} (hs:q.l[k]? =some s) {i:Nat} {p p':Pr} (hp:s.ps[i]? =some p) (j:Nat) (v:Value) (hj:j<4) (e:([Value.int .i64 p.x,.int .i64 p.par,.bool p.live,.bool p.bk]).set j v=[.int .i64 p'.x,.int .i64 p'.par,.bool p'.live,.bool p'.bk]) (h1:p'.par=p.par) (h2:p'.x=p.x) {g:Nat} (hg:(A k).po=some ⟨g,0,none⟩):
  LW w0 (w.setCell ⟨g,i*4+j,none⟩ v) qb hb mb nq m L { q with l:=q.l.set k { s with ps:=s.ps.set i p' } } A F:=by
 have hps:=(h.se k s hs).ps
 have hps':=hps
 rw[hg] at hps
 obtain⟨ho,hgr⟩:=World.ownsRow.stored hps (i*4+j) v
 refine h.inlist hs (List.length_set ..) (Tch.setCell _ _ _ _ ?_) ?_ (bd_ps (h.bd k s hs) (List.length_set ..) (set_par hp h1 h2))
 ·show(Value.slice (A k).po s.ps.length (A k).pc).ownBlock=some g
  rw[hg];rfl
 ·rw[hg, ←prC_set s.ps i p p' j v hp hj e]
  exact ho
theorem LW.partAt (h:LW w0 w qb hb mb nq m L q A F) {k:Nat} {s:Se} (hs:q.l[k]? =some s) {i:Nat} {p:Pr} (hp:s.ps[i]? =some p) {g:Nat} (hg:(A k).po=some ⟨g,0,none⟩):
  F g∧g≠qb∧(∀j,w.frozen? ⟨g,j,none⟩=false)∧w.cell? ⟨g,i*4+2,none⟩=some (.bool p.live)∧w.cell? ⟨g,i*4+3,none⟩=some (.bool p.bk):=by
 have hI:=h.se k s hs
 have hob:(Value.slice (A k).po s.ps.length (A k).pc).ownBlock=some g:=by rw[hg];rfl
 obtain⟨g2,e2,_,_,k2,k3⟩:=(h.mor.se k s hs).part hp
 rw[hg] at e2
 injection e2 with e2
 have e2:g=g2:=by injection e2
 subst e2
 refine⟨hI.psf g hob,fun e=>row_ne hI.ps h.bk (by decide) hob e,fun j=>?_,k2,k3⟩
 obtain⟨cur,hc⟩:=own_blk hI.ps hob
 exact blk_frozen hc j
end
theorem releases_h {w:World} {hb mb nq:Nat} {m:Mg} {L:HL} {F:Nat→Prop} (h:HS w hb mb m L F nq) {k:Int} {t:Tx} {i:Nat} (hf:fnd m.tx k=some (t,(i:Int))) (hp:may t i=true) (h1: -9223372036854775808≤k) (h2:k≤9223372036854775807):Calls Tryz.prog 46 #[.pointer (some ⟨mb,0,none⟩),.int .i64 k] w fun x w'=>x= .returned (.int .i64 0)∧HS w' hb mb (m.endp t.x i 1) L F nq∧Kept F w w':=
 hs_turn (X:=fun x=>x= .returned (.int .i64 0)) h (fun F' hM=>(release_f mb m w F' hM k h1 h2).mono (fun _ _ ⟨_,ho⟩=>ho.2 t i hf hp))
structure LV (w1 W:World) (s:Se) (lo:Option Addr) (lc:Nat) (l:List Nat):Prop where
 t:Tch (fun _=>False) w1 W
 ow:W.ownsRow w1.heap.size 3 1 (.slice lo l.length lc) l.length (icl l)
 al: ∀x∈l, ∃p,s.ps[x]? =some p∧p.live=true∧p.bk=false
theorem LV.no {w1 W W':World} {s:Se} {lo:Option Addr} {lc:Nat} {l:List Nat} (h:LV w1 W s lo lc l) (t:Tch (fun _=>False) W W'):LV w1 W' s lo lc l:=
 ⟨h.t.trans' t,own_tch h.ow t (fun _ _ e=>e),h.al⟩
def P1 (w0:Fr) (wx:World) (qb hb mb nq:Nat) (m:Mg) (L:HL) (q:Mo) (A:Nat→Sx) (F:Nat→Prop) (l:List Value) (W:World):Prop:=match l with
 |[]=>Tch (fun _=>False) wx W
 |[y]=>y= .int .i64 0∧LW w0 W qb hb mb nq m L q A F∧Kept F wx W
 |_=>False
theorem part_ok {m:Mg} (hw:Wf m) {s:Se} {t:Tx} (ht:SesTx m s t) (hpp:s.pp=false) {j:Nat} {p:Pr} (hp:s.ps[j]? =some p) (hl:p.live=true) (hb:p.bk=false):fnd m.tx (p.x:Int)=some (t,(j:Int))∧may t (j:Int)=true:=by
 have hj:=(List.getElem?_eq_some_iff.1 hp).1
 have h1:=ses_fnd hw ht (i:=(j:Int)) (by omega) (by omega)
 have e:wrN s (j:Int)=p.x:=by
  unfold wrN
  rw[if_pos (by omega)]
  simp only[Int.toNat_natCast,hp]
 rw[e] at h1
 refine⟨h1,?_⟩
 have hst:t.st=1:=by rw[ht.st,hpp];rfl
 unfold may fate
 rw[hst,ht.ps,if_pos (by omega)]
 simp only[Int.toNat_natCast,List.getElem?_map,hp,Option.map_some,ptOf,hl,hb]
 rfl
end Go.Proofs.YtppokgdofgigfaaGreat.F
