import Derived.Test.YtaiadknglhemaaaGreatDoorRV0
import Derived.Test.YtaiadknglhemaaaGreatDoorKeeps
import Derived.Test.YtaiadknglhemaaaGreatDoorRVe2
set_option maxHeartbeats 8000000
set_option maxRecDepth 100000
namespace Go.Proofs.YtaiadknglhemaaaGreatDoor.C
open Go.RowKit
theorem recordOf_3 (r:Rc) (s:Sk) (w:World):Calls Tryz.prog 37 #[.int .i64 r.k,bV 3 r s] w fun x w'=>x= .returned (rV (cutC 3 r) (cutS 3 s))∧Tch (fun _=>False) w w':=by
 have a1: ∀v W,(Instr.typeAssert (.iface 132 v) 71 128 true).run Tryz.prog W= .ok (.tuple #[.agg #[.int .i64 0],.bool false]) W:=fun v W=>by kernel_rfl
 have a2: ∀v W,(Instr.typeAssert (.iface 132 v) 71 130 true).run Tryz.prog W= .ok (.tuple #[.agg #[.int .i64 0,.int .i64 0],.bool false]) W:=fun v W=>by kernel_rfl
 have a3: ∀v W,(Instr.typeAssert (.iface 132 v) 71 132 true).run Tryz.prog W= .ok (.tuple #[v,.bool true]) W:=fun v W=>by kernel_rfl
 unfold bV
 go_enter Tryz.func37,Tryz.ntmps37
 go_wp2_with fail
 go_region
 go_wp2_with fail
 have hrs:Tryz.f37.results=#[.cell 4 37]:=by kernel_rfl
 refine bodyPost_ret (v:=rV (cutC 3 r) (cutS 3 s)) (by simp only[results,hrs];go_simp;(repeat' apply And.intro)<;>rfl) rfl ⟨rfl,?_⟩
 exact(((Tch.alloc _ _ _).allocR _).allocR _).drew
open Go Go.Sort
theorem rightB_3 (r:Rc) (s:Sk) (F:Nat→Prop) (w:World) (hg:HE w) (h:RW w F r s) (hk:cls r.k=3) (d1 d2:Bool) (hd1:d1=true ↔ rightC 3 r) (hd2:d2=true ↔ r=cutC 3 r):Calls Tryz.prog 30 #[rV r s] w fun x w'=>x= .returned (.tuple #[if d1 && d2 then bV 3 r s else .nilIface,.int .i64 (if d1 && d2 then 0 else 61)])∧Tch (fun _=>False) w w':=by
 obtain⟨w0,hw0⟩: ∃w0,w0=w.alloc (.cells #[.int .i64 r.k,.int .i64 r.x,.int .i64 r.p,.int .i64 r.t,.slice s.oo r.o.length s.oc,.slice s.no r.n.length s.nc,.string r.nm,.int .i64 r.org,.int .i64 r.tb.id,.int .i64 r.tb.ver,.string r.tb.nm,.slice s.co r.tb.cols.length s.cc,.int .i64 r.tb.key,.slice s.to s.P.length s.tc] 37):=⟨_,rfl⟩
 have t0:Tch (fun _=>False) w w0:=by rw[hw0];exact Tch.alloc _ _ _
 have b0:w0.heap[w.heap.size]? =some (.cells #[.int .i64 r.k,.int .i64 r.x,.int .i64 r.p,.int .i64 r.t,.slice s.oo r.o.length s.oc,.slice s.no r.n.length s.nc,.string r.nm,.int .i64 r.org,.int .i64 r.tb.id,.int .i64 r.tb.ver,.string r.tb.nm,.slice s.co r.tb.cols.length s.cc,.int .i64 r.tb.key,.slice s.to s.P.length s.tc] 37 (0,0)):=by rw[hw0];exact heap_new w _
 have q1:=bodyOf_any r s w0
 rw[hk] at q1
 have q1:Calls Tryz.prog 36 #[rV r s] w0 fun x w'=>x= .returned (.iface 132 (.agg #[.int .i64 r.x,.int .i64 r.t,.slice s.no r.n.length s.nc]))∧Tch (fun _=>False) w0 w':=q1
 have HQ1:Hid (∀W,Tch (fun _=>False) w W→Calls Tryz.prog 195 #[.agg #[.int .i64 r.x,.int .i64 r.t,.slice s.no r.n.length s.nc]] W fun x w'=>x= .returned (.bool d1)∧Tch (fun _=>False) W w'):=fun W t=>eqT_d (right_3 r s F W (hg.tch t (fun h=>h)) (h.no t)) hd1
 have HQ2:Hid (∀W,Calls Tryz.prog 37 #[.int .i64 r.k,.iface 132 (.agg #[.int .i64 r.x,.int .i64 r.t,.slice s.no r.n.length s.nc])] W fun x w'=>x= .returned (rV (cutC 3 r) (cutS 3 s))∧Tch (fun _=>False) W w'):=fun W=>recordOf_3 r s W
 have HQ3:Hid (∀W,Tch (fun _=>False) w W→Calls Tryz.prog 66 #[rV r s,rV (cutC 3 r) (cutS 3 s)] W fun x w'=>x= .returned (.bool d2)∧Tch (fun _=>False) W w'):=fun W t=>eqT_d (same_r r (cutC 3 r) s (cutS 3 s) F F W (h.no t) ((h.no t).cut 3)) hd2
 have m1: ∀(v:Array Value) (W:World),(method 381 132 (.agg v) "confluence/record.isRight").run Tryz.prog W= .ok (195,.agg v) W:=fun v W=>by kernel_rfl
 obtain⟨V,hV⟩: ∃V,V=rV (cutC 3 r) (cutS 3 s):=⟨_,rfl⟩
 rw[←hV] at HQ2 HQ3
 rw[hw0] at q1
 have HW0:Hid (w0=w.alloc (.cells #[.int .i64 r.k,.int .i64 r.x,.int .i64 r.p,.int .i64 r.t,.slice s.oo r.o.length s.oc,.slice s.no r.n.length s.nc,.string r.nm,.int .i64 r.org,.int .i64 r.tb.id,.int .i64 r.tb.ver,.string r.tb.nm,.slice s.co r.tb.cols.length s.cc,.int .i64 r.tb.key,.slice s.to s.P.length s.tc] 37)):=hw0
 clear h hg hk hd1 hd2 hV hw0
 cases d1<;>cases d2
 all_goals
  go_enter Tryz.func30,Tryz.ntmps30
  go_wp2_with fail
  refine q1.mono ?_
  rintro x w1 ⟨rfl,t1⟩
  rw[←HW0.out] at t1
  have T1:Tch (fun _=>False) w w1:=t0.trans' t1
  have b1:w1.heap[w.heap.size]? =some (.cells #[.int .i64 r.k,.int .i64 r.x,.int .i64 r.p,.int .i64 r.t,.slice s.oo r.o.length s.oc,.slice s.no r.n.length s.nc,.string r.nm,.int .i64 r.org,.int .i64 r.tb.id,.int .i64 r.tb.ver,.string r.tb.nm,.slice s.co r.tb.cols.length s.cc,.int .i64 r.tb.key,.slice s.to s.P.length s.tc] 37 (0,0)):=(t1.block _ (blk_lt b0) (fun h=>h)).trans b0
  have y0:=blk_cell b1 0
  have y1:=blk_cell b1 1
  have y2:=blk_cell b1 2
  have y3:=blk_cell b1 3
  have y4:=blk_cell b1 4
  have y5:=blk_cell b1 5
  have y6:=blk_cell b1 6
  have y7:=blk_cell b1 7
  have y8:=blk_cell b1 8
  have y9:=blk_cell b1 9
  have y10:=blk_cell b1 10
  have y11:=blk_cell b1 11
  have y12:=blk_cell b1 12
  have y13:=blk_cell b1 13
  simp only[List.getElem?_toArray,List.getElem?_cons_succ,List.getElem?_cons_zero] at y0 y1 y2 y3 y4 y5 y6 y7 y8 y9 y10 y11 y12 y13
  have k0:=cell_regrown y0
  have k1:=cell_regrown y1
  have k2:=cell_regrown y2
  have k3:=cell_regrown y3
  have k4:=cell_regrown y4
  have k5:=cell_regrown y5
  have k6:=cell_regrown y6
  have k7:=cell_regrown y7
  have k8:=cell_regrown y8
  have k9:=cell_regrown y9
  have k10:=cell_regrown y10
  have k11:=cell_regrown y11
  have k12:=cell_regrown y12
  have k13:=cell_regrown y13
  have c1:=fun(d:Nat) (os:Array Obj)=>regrown_calls (w:=w1) (fun W t=>HQ1.out W (T1.trans' t)) d os
  have c2: ∀d os,Calls Tryz.prog 37 #[.int .i64 r.k,.iface 132 (.agg #[.int .i64 r.x,.int .i64 r.t,.slice s.no r.n.length s.nc])] (grow (redrawn w1 d) os) fun e w''=>e= .returned V∧ ∃p:Regrown,w''=grow (redrawn w1 p.d) p.os:=regrown_calls (fun W _=>HQ2.out W)
  have c3:=fun(d:Nat) (os:Array Obj)=>regrown_calls (w:=w1) (fun W t=>HQ3.out W (T1.trans' t)) d os
  have HT1:Hid (Tch (fun _=>False) w w1):=T1
  clear b0 b1 t0 t1 T1 q1 HW0 HQ1 HQ2 HQ3
  go_wp2_with fail
  refine wp_region_quiet_below (by kernel_rfl) (by kernel_rfl) ?_
  repeat (quiet_step (first|(go_at_call 195;exact c1 _ _)|(go_at_call 37;exact c2 _ _)|(go_at_call 66;exact c3 _ _)))
  refine wpQuiet_nil ?_
  rintro w2 ⟨p,rfl⟩
  have HE:=HT1.out.trans' (Tch.regrown w1 p.d p.os)
  have HE2:Hid _:=HE
  clear HE
  obtain⟨W2,hW2⟩: ∃W2,W2=grow (redrawn w1 p.d) p.os:=⟨_,rfl⟩
  rw[←hW2] at HE2 ⊢
  clear hW2 k0 k1 k2 k3 k4 k5 k6 k7 k8 k9 k10 k11 k12 k13 y0 y1 y2 y3 y4 y5 y6 y7 y8 y9 y10 y11 y12 y13 c1 c2 c3
  go_wp2_with fail
  go_ret2
  exact⟨rfl,HE2.out⟩
theorem rightBody_3 (r:Rc) (s:Sk) (F:Nat→Prop) (w:World) (hg:HE w) (h:RW w F r s) (hk:cls r.k=3) (hr:rightC 3 r) (hc:cutC 3 r=r):Calls Tryz.prog 30 #[rV r s] w fun x w'=>x= .returned (.tuple #[bV 3 r s,.int .i64 0])∧Tch (fun _=>False) w w':=rightB_3 r s F w hg h hk true true ⟨fun _=>hr,fun _=>rfl⟩ ⟨fun _=>hc.symm,fun _=>rfl⟩
theorem encode_3 (r:Rc) (s:Sk) (F:Nat→Prop) (w:World) (hg:HE w) (h:RW w F r s) (hk:cls r.k=3) (hr:rightC 3 r) (hc:cutC 3 r=r):Calls Tryz.prog 13 #[rV r s] w fun x w'=>x= .returned (.tuple #[.string ⟨(recL r).toArray⟩,.int .i64 0])∧Tch (fun _=>False) w w':=by
 obtain⟨w0,hw0⟩: ∃w0,w0=w.alloc (.cells #[.int .i64 r.k,.int .i64 r.x,.int .i64 r.p,.int .i64 r.t,.slice s.oo r.o.length s.oc,.slice s.no r.n.length s.nc,.string r.nm,.int .i64 r.org,.int .i64 r.tb.id,.int .i64 r.tb.ver,.string r.tb.nm,.slice s.co r.tb.cols.length s.cc,.int .i64 r.tb.key,.slice s.to s.P.length s.tc] 37):=⟨_,rfl⟩
 have t0:Tch (fun _=>False) w w0:=by rw[hw0];exact Tch.alloc _ _ _
 have b0:w0.heap[w.heap.size]? =some (.cells #[.int .i64 r.k,.int .i64 r.x,.int .i64 r.p,.int .i64 r.t,.slice s.oo r.o.length s.oc,.slice s.no r.n.length s.nc,.string r.nm,.int .i64 r.org,.int .i64 r.tb.id,.int .i64 r.tb.ver,.string r.tb.nm,.slice s.co r.tb.cols.length s.cc,.int .i64 r.tb.key,.slice s.to s.P.length s.tc] 37 (0,0)):=by rw[hw0];exact heap_new w _
 have q1:=rightBody_3 r s F w0 (hg.tch t0 (fun h=>h)) (h.no t0) hk hr hc
 have q1:Calls Tryz.prog 30 #[rV r s] w0 fun x w'=>x= .returned (.tuple #[.iface 132 (.agg #[.int .i64 r.x,.int .i64 r.t,.slice s.no r.n.length s.nc]),.int .i64 0])∧Tch (fun _=>False) w0 w':=q1
 rw[hw0] at q1
 have HW0:Hid (w0=w.alloc (.cells #[.int .i64 r.k,.int .i64 r.x,.int .i64 r.p,.int .i64 r.t,.slice s.oo r.o.length s.oc,.slice s.no r.n.length s.nc,.string r.nm,.int .i64 r.org,.int .i64 r.tb.id,.int .i64 r.tb.ver,.string r.tb.nm,.slice s.co r.tb.cols.length s.cc,.int .i64 r.tb.key,.slice s.to s.P.length s.tc] 37)):=hw0
 have hkr:1≤r.k∧r.k≤15:=by
  rcases cls_rng r.k with h1|h1
  ·rw[hk] at h1;cases h1
  ·exact⟨h1.1,h1.2.1⟩
 have m1: ∀(v:Array Value) (W:World),(method 381 132 (.agg v) "confluence/record.lay").run Tryz.prog W= .ok (196,.agg v) W:=fun v W=>by kernel_rfl
 have hgl:1<w.heap.size:=cell_lt hg
 have HR:Hid (∀W,Tch (fun _=>False) w W→RW W F r s∧HE W):=fun W t=>⟨h.no t,hg.tch t (fun h=>h)⟩
 have HRC:Hid (rightC 3 r):=hr
 have HRL:Hid (recL r=bytesL [r.k]++bodyL 3 r):=by show _=_;unfold recL;rw[hk];rfl
 clear h hg hk hr hc hw0
 go_enter Tryz.func13,Tryz.ntmps13
 go_wp2_with fail
 refine q1.mono ?_
 rintro x w1 ⟨rfl,t1⟩
 rw[←HW0.out] at t1
 have T1:Tch (fun _=>False) w w1:=t0.trans' t1
 have b1:w1.heap[w.heap.size]? =some (.cells #[.int .i64 r.k,.int .i64 r.x,.int .i64 r.p,.int .i64 r.t,.slice s.oo r.o.length s.oc,.slice s.no r.n.length s.nc,.string r.nm,.int .i64 r.org,.int .i64 r.tb.id,.int .i64 r.tb.ver,.string r.tb.nm,.slice s.co r.tb.cols.length s.cc,.int .i64 r.tb.key,.slice s.to s.P.length s.tc] 37 (0,0)):=(t1.block _ (blk_lt b0) (fun h=>h)).trans b0
 clear q1 t1 t0 b0 HW0
 go_wp2_with fail
 refine(newWriter_any w1).mono ?_
 rintro x w2 ⟨rfl,h2,t2,z2⟩
 have b2:w2.heap[w.heap.size]? =some (.cells #[.int .i64 r.k,.int .i64 r.x,.int .i64 r.p,.int .i64 r.t,.slice s.oo r.o.length s.oc,.slice s.no r.n.length s.nc,.string r.nm,.int .i64 r.org,.int .i64 r.tb.id,.int .i64 r.tb.ver,.string r.tb.nm,.slice s.co r.tb.cols.length s.cc,.int .i64 r.tb.key,.slice s.to s.P.length s.tc] 37 (0,0)):=(t2.block _ (blk_lt b1) (fun h=>h)).trans b1
 have y0:w2.cell? ⟨w.heap.size,0,none⟩=some (.int .i64 r.k):=blk_cell b2 0
 have T2:=T1.trans' t2
 have HT12:Hid (Tch (fun _=>False) w1 w2):=t2
 clear b1 b2 t2
 go_wp2_with fail
 refine(wbyte1' _ [] r.k _ w2 h2 (by first|rfl|exact z2|simp) (by omega) (by omega) (by simp)).mono ?_
 rintro x w3 ⟨rfl,h3,t3⟩
 have hz1:=T1.size
 have hrw:RW w3 (fun i=>w1.heap.size≤i) r s:=(((HR.out w1 T1).1.low (Nat.le_refl _)).tch (show Tch (fun i=>w1.heap.size≤i) w1 w3 from by
  have t12:Tch (fun _=>False) w1 w2:=HT12.out
  exact(t12.mono (fun _ _ h=>h.elim)).trans' (wt_le t3)) (fun i _ h=>h))
 have hhe:HE w3:=(HR.out w2 T2).2.tch (wt_le t3) (by omega)
 have q4:=lay_3 w1.heap.size _ r s w3 h3 hhe (by omega) hrw HRC.out (by simp[bytesL])
 have T3:Tch (fun i=>w.heap.size≤i) w w3:=(T2.mono (fun _ _ h=>h.elim)).trans (wt_le t3) (fun i _ h=>by omega)
 clear hrw hhe y0 h2
 go_wp2_with fail
 refine q4.mono ?_
 rintro x w4 ⟨rfl,h4,t4⟩
 clear q4
 have T4:Tch (fun i=>w.heap.size≤i) w w4:=T3.trans' ((wt_le t4).mono (fun i _ h=>by omega))
 have hhe:HE w4:=by
  have h5:=(HR.out w2 T2).2.tch (wt_le t3) (by omega)
  exact h5.tch (wt_le t4) (by omega)
 have q5:=wdone_ok w1.heap.size _ w4 h4 hhe
 rw[List.nil_append, ←HRL.out] at q5
 go_wp2_with fail
 refine q5.mono ?_
 rintro x w5 ⟨rfl,t5⟩
 go_wp2_with fail
 go_ret2
 exact⟨rfl,(T4.mono (fun i hi h=>by omega)).trans' t5⟩
end Go.Proofs.YtaiadknglhemaaaGreatDoor.C
namespace Go.Proofs.YtaiadknglhemaaaGreatDoor.C
open Go.RowKit
theorem recordOf_4 (r:Rc) (s:Sk) (w:World):Calls Tryz.prog 37 #[.int .i64 r.k,bV 4 r s] w fun x w'=>x= .returned (rV (cutC 4 r) (cutS 4 s))∧Tch (fun _=>False) w w':=by
 have a1: ∀v W,(Instr.typeAssert (.iface 134 v) 71 128 true).run Tryz.prog W= .ok (.tuple #[.agg #[.int .i64 0],.bool false]) W:=fun v W=>by kernel_rfl
 have a2: ∀v W,(Instr.typeAssert (.iface 134 v) 71 130 true).run Tryz.prog W= .ok (.tuple #[.agg #[.int .i64 0,.int .i64 0],.bool false]) W:=fun v W=>by kernel_rfl
 have a3: ∀v W,(Instr.typeAssert (.iface 134 v) 71 132 true).run Tryz.prog W= .ok (.tuple #[.agg #[.int .i64 0,.int .i64 0,.slice none 0 0],.bool false]) W:=fun v W=>by kernel_rfl
 have a4: ∀v W,(Instr.typeAssert (.iface 134 v) 71 134 true).run Tryz.prog W= .ok (.tuple #[v,.bool true]) W:=fun v W=>by kernel_rfl
 unfold bV
 go_enter Tryz.func37,Tryz.ntmps37
 go_wp2_with fail
 go_region
 go_wp2_with fail
 have hrs:Tryz.f37.results=#[.cell 4 37]:=by kernel_rfl
 refine bodyPost_ret (v:=rV (cutC 4 r) (cutS 4 s)) (by simp only[results,hrs];go_simp;(repeat' apply And.intro)<;>rfl) rfl ⟨rfl,?_⟩
 exact(((Tch.alloc _ _ _).allocR _).allocR _).drew
open Go Go.Sort
theorem rightB_4 (r:Rc) (s:Sk) (F:Nat→Prop) (w:World) (hg:HE w) (h:RW w F r s) (hk:cls r.k=4) (d1 d2:Bool) (hd1:d1=true ↔ rightC 4 r) (hd2:d2=true ↔ r=cutC 4 r):Calls Tryz.prog 30 #[rV r s] w fun x w'=>x= .returned (.tuple #[if d1 && d2 then bV 4 r s else .nilIface,.int .i64 (if d1 && d2 then 0 else 61)])∧Tch (fun _=>False) w w':=by
 obtain⟨w0,hw0⟩: ∃w0,w0=w.alloc (.cells #[.int .i64 r.k,.int .i64 r.x,.int .i64 r.p,.int .i64 r.t,.slice s.oo r.o.length s.oc,.slice s.no r.n.length s.nc,.string r.nm,.int .i64 r.org,.int .i64 r.tb.id,.int .i64 r.tb.ver,.string r.tb.nm,.slice s.co r.tb.cols.length s.cc,.int .i64 r.tb.key,.slice s.to s.P.length s.tc] 37):=⟨_,rfl⟩
 have t0:Tch (fun _=>False) w w0:=by rw[hw0];exact Tch.alloc _ _ _
 have b0:w0.heap[w.heap.size]? =some (.cells #[.int .i64 r.k,.int .i64 r.x,.int .i64 r.p,.int .i64 r.t,.slice s.oo r.o.length s.oc,.slice s.no r.n.length s.nc,.string r.nm,.int .i64 r.org,.int .i64 r.tb.id,.int .i64 r.tb.ver,.string r.tb.nm,.slice s.co r.tb.cols.length s.cc,.int .i64 r.tb.key,.slice s.to s.P.length s.tc] 37 (0,0)):=by rw[hw0];exact heap_new w _
 have q1:=bodyOf_any r s w0
 rw[hk] at q1
 have q1:Calls Tryz.prog 36 #[rV r s] w0 fun x w'=>x= .returned (.iface 134 (.agg #[.int .i64 r.x,.int .i64 r.t,.slice s.oo r.o.length s.oc,.slice s.no r.n.length s.nc]))∧Tch (fun _=>False) w0 w':=q1
 have HQ1:Hid (∀W,Tch (fun _=>False) w W→Calls Tryz.prog 210 #[.agg #[.int .i64 r.x,.int .i64 r.t,.slice s.oo r.o.length s.oc,.slice s.no r.n.length s.nc]] W fun x w'=>x= .returned (.bool d1)∧Tch (fun _=>False) W w'):=fun W t=>eqT_d (right_4 r s F W (hg.tch t (fun h=>h)) (h.no t)) hd1
 have HQ2:Hid (∀W,Calls Tryz.prog 37 #[.int .i64 r.k,.iface 134 (.agg #[.int .i64 r.x,.int .i64 r.t,.slice s.oo r.o.length s.oc,.slice s.no r.n.length s.nc])] W fun x w'=>x= .returned (rV (cutC 4 r) (cutS 4 s))∧Tch (fun _=>False) W w'):=fun W=>recordOf_4 r s W
 have HQ3:Hid (∀W,Tch (fun _=>False) w W→Calls Tryz.prog 66 #[rV r s,rV (cutC 4 r) (cutS 4 s)] W fun x w'=>x= .returned (.bool d2)∧Tch (fun _=>False) W w'):=fun W t=>eqT_d (same_r r (cutC 4 r) s (cutS 4 s) F F W (h.no t) ((h.no t).cut 4)) hd2
 have m1: ∀(v:Array Value) (W:World),(method 381 134 (.agg v) "confluence/record.isRight").run Tryz.prog W= .ok (210,.agg v) W:=fun v W=>by kernel_rfl
 obtain⟨V,hV⟩: ∃V,V=rV (cutC 4 r) (cutS 4 s):=⟨_,rfl⟩
 rw[←hV] at HQ2 HQ3
 rw[hw0] at q1
 have HW0:Hid (w0=w.alloc (.cells #[.int .i64 r.k,.int .i64 r.x,.int .i64 r.p,.int .i64 r.t,.slice s.oo r.o.length s.oc,.slice s.no r.n.length s.nc,.string r.nm,.int .i64 r.org,.int .i64 r.tb.id,.int .i64 r.tb.ver,.string r.tb.nm,.slice s.co r.tb.cols.length s.cc,.int .i64 r.tb.key,.slice s.to s.P.length s.tc] 37)):=hw0
 clear h hg hk hd1 hd2 hV hw0
 cases d1<;>cases d2
 all_goals
  go_enter Tryz.func30,Tryz.ntmps30
  go_wp2_with fail
  refine q1.mono ?_
  rintro x w1 ⟨rfl,t1⟩
  rw[←HW0.out] at t1
  have T1:Tch (fun _=>False) w w1:=t0.trans' t1
  have b1:w1.heap[w.heap.size]? =some (.cells #[.int .i64 r.k,.int .i64 r.x,.int .i64 r.p,.int .i64 r.t,.slice s.oo r.o.length s.oc,.slice s.no r.n.length s.nc,.string r.nm,.int .i64 r.org,.int .i64 r.tb.id,.int .i64 r.tb.ver,.string r.tb.nm,.slice s.co r.tb.cols.length s.cc,.int .i64 r.tb.key,.slice s.to s.P.length s.tc] 37 (0,0)):=(t1.block _ (blk_lt b0) (fun h=>h)).trans b0
  have y0:=blk_cell b1 0
  have y1:=blk_cell b1 1
  have y2:=blk_cell b1 2
  have y3:=blk_cell b1 3
  have y4:=blk_cell b1 4
  have y5:=blk_cell b1 5
  have y6:=blk_cell b1 6
  have y7:=blk_cell b1 7
  have y8:=blk_cell b1 8
  have y9:=blk_cell b1 9
  have y10:=blk_cell b1 10
  have y11:=blk_cell b1 11
  have y12:=blk_cell b1 12
  have y13:=blk_cell b1 13
  simp only[List.getElem?_toArray,List.getElem?_cons_succ,List.getElem?_cons_zero] at y0 y1 y2 y3 y4 y5 y6 y7 y8 y9 y10 y11 y12 y13
  have k0:=cell_regrown y0
  have k1:=cell_regrown y1
  have k2:=cell_regrown y2
  have k3:=cell_regrown y3
  have k4:=cell_regrown y4
  have k5:=cell_regrown y5
  have k6:=cell_regrown y6
  have k7:=cell_regrown y7
  have k8:=cell_regrown y8
  have k9:=cell_regrown y9
  have k10:=cell_regrown y10
  have k11:=cell_regrown y11
  have k12:=cell_regrown y12
  have k13:=cell_regrown y13
  have c1:=fun(d:Nat) (os:Array Obj)=>regrown_calls (w:=w1) (fun W t=>HQ1.out W (T1.trans' t)) d os
  have c2: ∀d os,Calls Tryz.prog 37 #[.int .i64 r.k,.iface 134 (.agg #[.int .i64 r.x,.int .i64 r.t,.slice s.oo r.o.length s.oc,.slice s.no r.n.length s.nc])] (grow (redrawn w1 d) os) fun e w''=>e= .returned V∧ ∃p:Regrown,w''=grow (redrawn w1 p.d) p.os:=regrown_calls (fun W _=>HQ2.out W)
  have c3:=fun(d:Nat) (os:Array Obj)=>regrown_calls (w:=w1) (fun W t=>HQ3.out W (T1.trans' t)) d os
  have HT1:Hid (Tch (fun _=>False) w w1):=T1
  clear b0 b1 t0 t1 T1 q1 HW0 HQ1 HQ2 HQ3
  go_wp2_with fail
  refine wp_region_quiet_below (by kernel_rfl) (by kernel_rfl) ?_
  repeat (quiet_step (first|(go_at_call 210;exact c1 _ _)|(go_at_call 37;exact c2 _ _)|(go_at_call 66;exact c3 _ _)))
  refine wpQuiet_nil ?_
  rintro w2 ⟨p,rfl⟩
  have HE:=HT1.out.trans' (Tch.regrown w1 p.d p.os)
  have HE2:Hid _:=HE
  clear HE
  obtain⟨W2,hW2⟩: ∃W2,W2=grow (redrawn w1 p.d) p.os:=⟨_,rfl⟩
  rw[←hW2] at HE2 ⊢
  clear hW2 k0 k1 k2 k3 k4 k5 k6 k7 k8 k9 k10 k11 k12 k13 y0 y1 y2 y3 y4 y5 y6 y7 y8 y9 y10 y11 y12 y13 c1 c2 c3
  go_wp2_with fail
  go_ret2
  exact⟨rfl,HE2.out⟩
theorem rightBody_4 (r:Rc) (s:Sk) (F:Nat→Prop) (w:World) (hg:HE w) (h:RW w F r s) (hk:cls r.k=4) (hr:rightC 4 r) (hc:cutC 4 r=r):Calls Tryz.prog 30 #[rV r s] w fun x w'=>x= .returned (.tuple #[bV 4 r s,.int .i64 0])∧Tch (fun _=>False) w w':=rightB_4 r s F w hg h hk true true ⟨fun _=>hr,fun _=>rfl⟩ ⟨fun _=>hc.symm,fun _=>rfl⟩
theorem encode_4 (r:Rc) (s:Sk) (F:Nat→Prop) (w:World) (hg:HE w) (h:RW w F r s) (hk:cls r.k=4) (hr:rightC 4 r) (hc:cutC 4 r=r):Calls Tryz.prog 13 #[rV r s] w fun x w'=>x= .returned (.tuple #[.string ⟨(recL r).toArray⟩,.int .i64 0])∧Tch (fun _=>False) w w':=by
 obtain⟨w0,hw0⟩: ∃w0,w0=w.alloc (.cells #[.int .i64 r.k,.int .i64 r.x,.int .i64 r.p,.int .i64 r.t,.slice s.oo r.o.length s.oc,.slice s.no r.n.length s.nc,.string r.nm,.int .i64 r.org,.int .i64 r.tb.id,.int .i64 r.tb.ver,.string r.tb.nm,.slice s.co r.tb.cols.length s.cc,.int .i64 r.tb.key,.slice s.to s.P.length s.tc] 37):=⟨_,rfl⟩
 have t0:Tch (fun _=>False) w w0:=by rw[hw0];exact Tch.alloc _ _ _
 have b0:w0.heap[w.heap.size]? =some (.cells #[.int .i64 r.k,.int .i64 r.x,.int .i64 r.p,.int .i64 r.t,.slice s.oo r.o.length s.oc,.slice s.no r.n.length s.nc,.string r.nm,.int .i64 r.org,.int .i64 r.tb.id,.int .i64 r.tb.ver,.string r.tb.nm,.slice s.co r.tb.cols.length s.cc,.int .i64 r.tb.key,.slice s.to s.P.length s.tc] 37 (0,0)):=by rw[hw0];exact heap_new w _
 have q1:=rightBody_4 r s F w0 (hg.tch t0 (fun h=>h)) (h.no t0) hk hr hc
 have q1:Calls Tryz.prog 30 #[rV r s] w0 fun x w'=>x= .returned (.tuple #[.iface 134 (.agg #[.int .i64 r.x,.int .i64 r.t,.slice s.oo r.o.length s.oc,.slice s.no r.n.length s.nc]),.int .i64 0])∧Tch (fun _=>False) w0 w':=q1
 rw[hw0] at q1
 have HW0:Hid (w0=w.alloc (.cells #[.int .i64 r.k,.int .i64 r.x,.int .i64 r.p,.int .i64 r.t,.slice s.oo r.o.length s.oc,.slice s.no r.n.length s.nc,.string r.nm,.int .i64 r.org,.int .i64 r.tb.id,.int .i64 r.tb.ver,.string r.tb.nm,.slice s.co r.tb.cols.length s.cc,.int .i64 r.tb.key,.slice s.to s.P.length s.tc] 37)):=hw0
 have hkr:1≤r.k∧r.k≤15:=by
  rcases cls_rng r.k with h1|h1
  ·rw[hk] at h1;cases h1
  ·exact⟨h1.1,h1.2.1⟩
 have m1: ∀(v:Array Value) (W:World),(method 381 134 (.agg v) "confluence/record.lay").run Tryz.prog W= .ok (211,.agg v) W:=fun v W=>by kernel_rfl
 have hgl:1<w.heap.size:=cell_lt hg
 have HR:Hid (∀W,Tch (fun _=>False) w W→RW W F r s∧HE W):=fun W t=>⟨h.no t,hg.tch t (fun h=>h)⟩
 have HRC:Hid (rightC 4 r):=hr
 have HRL:Hid (recL r=bytesL [r.k]++bodyL 4 r):=by show _=_;unfold recL;rw[hk];rfl
 clear h hg hk hr hc hw0
 go_enter Tryz.func13,Tryz.ntmps13
 go_wp2_with fail
 refine q1.mono ?_
 rintro x w1 ⟨rfl,t1⟩
 rw[←HW0.out] at t1
 have T1:Tch (fun _=>False) w w1:=t0.trans' t1
 have b1:w1.heap[w.heap.size]? =some (.cells #[.int .i64 r.k,.int .i64 r.x,.int .i64 r.p,.int .i64 r.t,.slice s.oo r.o.length s.oc,.slice s.no r.n.length s.nc,.string r.nm,.int .i64 r.org,.int .i64 r.tb.id,.int .i64 r.tb.ver,.string r.tb.nm,.slice s.co r.tb.cols.length s.cc,.int .i64 r.tb.key,.slice s.to s.P.length s.tc] 37 (0,0)):=(t1.block _ (blk_lt b0) (fun h=>h)).trans b0
 clear q1 t1 t0 b0 HW0
 go_wp2_with fail
 refine(newWriter_any w1).mono ?_
 rintro x w2 ⟨rfl,h2,t2,z2⟩
 have b2:w2.heap[w.heap.size]? =some (.cells #[.int .i64 r.k,.int .i64 r.x,.int .i64 r.p,.int .i64 r.t,.slice s.oo r.o.length s.oc,.slice s.no r.n.length s.nc,.string r.nm,.int .i64 r.org,.int .i64 r.tb.id,.int .i64 r.tb.ver,.string r.tb.nm,.slice s.co r.tb.cols.length s.cc,.int .i64 r.tb.key,.slice s.to s.P.length s.tc] 37 (0,0)):=(t2.block _ (blk_lt b1) (fun h=>h)).trans b1
 have y0:w2.cell? ⟨w.heap.size,0,none⟩=some (.int .i64 r.k):=blk_cell b2 0
 have T2:=T1.trans' t2
 have HT12:Hid (Tch (fun _=>False) w1 w2):=t2
 clear b1 b2 t2
 go_wp2_with fail
 refine(wbyte1' _ [] r.k _ w2 h2 (by first|rfl|exact z2|simp) (by omega) (by omega) (by simp)).mono ?_
 rintro x w3 ⟨rfl,h3,t3⟩
 have hz1:=T1.size
 have hrw:RW w3 (fun i=>w1.heap.size≤i) r s:=(((HR.out w1 T1).1.low (Nat.le_refl _)).tch (show Tch (fun i=>w1.heap.size≤i) w1 w3 from by
  have t12:Tch (fun _=>False) w1 w2:=HT12.out
  exact(t12.mono (fun _ _ h=>h.elim)).trans' (wt_le t3)) (fun i _ h=>h))
 have hhe:HE w3:=(HR.out w2 T2).2.tch (wt_le t3) (by omega)
 have q4:=lay_4 w1.heap.size _ r s w3 h3 hhe (by omega) hrw HRC.out (by simp[bytesL])
 have T3:Tch (fun i=>w.heap.size≤i) w w3:=(T2.mono (fun _ _ h=>h.elim)).trans (wt_le t3) (fun i _ h=>by omega)
 clear hrw hhe y0 h2
 go_wp2_with fail
 refine q4.mono ?_
 rintro x w4 ⟨rfl,h4,t4⟩
 clear q4
 have T4:Tch (fun i=>w.heap.size≤i) w w4:=T3.trans' ((wt_le t4).mono (fun i _ h=>by omega))
 have hhe:HE w4:=by
  have h5:=(HR.out w2 T2).2.tch (wt_le t3) (by omega)
  exact h5.tch (wt_le t4) (by omega)
 have q5:=wdone_ok w1.heap.size _ w4 h4 hhe
 rw[List.nil_append, ←HRL.out] at q5
 go_wp2_with fail
 refine q5.mono ?_
 rintro x w5 ⟨rfl,t5⟩
 go_wp2_with fail
 go_ret2
 exact⟨rfl,(T4.mono (fun i hi h=>by omega)).trans' t5⟩
end Go.Proofs.YtaiadknglhemaaaGreatDoor.C
namespace Go.Proofs.YtaiadknglhemaaaGreatDoor.C
open Go.RowKit
theorem recordOf_5 (r:Rc) (s:Sk) (w:World):Calls Tryz.prog 37 #[.int .i64 r.k,bV 5 r s] w fun x w'=>x= .returned (rV (cutC 5 r) (cutS 5 s))∧Tch (fun _=>False) w w':=by
 have a1: ∀v W,(Instr.typeAssert (.iface 135 v) 71 128 true).run Tryz.prog W= .ok (.tuple #[.agg #[.int .i64 0],.bool false]) W:=fun v W=>by kernel_rfl
 have a2: ∀v W,(Instr.typeAssert (.iface 135 v) 71 130 true).run Tryz.prog W= .ok (.tuple #[.agg #[.int .i64 0,.int .i64 0],.bool false]) W:=fun v W=>by kernel_rfl
 have a3: ∀v W,(Instr.typeAssert (.iface 135 v) 71 132 true).run Tryz.prog W= .ok (.tuple #[.agg #[.int .i64 0,.int .i64 0,.slice none 0 0],.bool false]) W:=fun v W=>by kernel_rfl
 have a4: ∀v W,(Instr.typeAssert (.iface 135 v) 71 134 true).run Tryz.prog W= .ok (.tuple #[.agg #[.int .i64 0,.int .i64 0,.slice none 0 0,.slice none 0 0],.bool false]) W:=fun v W=>by kernel_rfl
 have a5: ∀v W,(Instr.typeAssert (.iface 135 v) 71 135 true).run Tryz.prog W= .ok (.tuple #[v,.bool true]) W:=fun v W=>by kernel_rfl
 unfold bV
 go_enter Tryz.func37,Tryz.ntmps37
 go_wp2_with fail
 go_region
 go_wp2_with fail
 have hrs:Tryz.f37.results=#[.cell 4 37]:=by kernel_rfl
 refine bodyPost_ret (v:=rV (cutC 5 r) (cutS 5 s)) (by simp only[results,hrs];go_simp;(repeat' apply And.intro)<;>rfl) rfl ⟨rfl,?_⟩
 exact(((Tch.alloc _ _ _).allocR _).allocR _).drew
open Go Go.Sort
theorem rightB_5 (r:Rc) (s:Sk) (F:Nat→Prop) (w:World) (hg:HE w) (h:RW w F r s) (hk:cls r.k=5) (d1 d2:Bool) (hd1:d1=true ↔ rightC 5 r) (hd2:d2=true ↔ r=cutC 5 r):Calls Tryz.prog 30 #[rV r s] w fun x w'=>x= .returned (.tuple #[if d1 && d2 then bV 5 r s else .nilIface,.int .i64 (if d1 && d2 then 0 else 61)])∧Tch (fun _=>False) w w':=by
 obtain⟨w0,hw0⟩: ∃w0,w0=w.alloc (.cells #[.int .i64 r.k,.int .i64 r.x,.int .i64 r.p,.int .i64 r.t,.slice s.oo r.o.length s.oc,.slice s.no r.n.length s.nc,.string r.nm,.int .i64 r.org,.int .i64 r.tb.id,.int .i64 r.tb.ver,.string r.tb.nm,.slice s.co r.tb.cols.length s.cc,.int .i64 r.tb.key,.slice s.to s.P.length s.tc] 37):=⟨_,rfl⟩
 have t0:Tch (fun _=>False) w w0:=by rw[hw0];exact Tch.alloc _ _ _
 have b0:w0.heap[w.heap.size]? =some (.cells #[.int .i64 r.k,.int .i64 r.x,.int .i64 r.p,.int .i64 r.t,.slice s.oo r.o.length s.oc,.slice s.no r.n.length s.nc,.string r.nm,.int .i64 r.org,.int .i64 r.tb.id,.int .i64 r.tb.ver,.string r.tb.nm,.slice s.co r.tb.cols.length s.cc,.int .i64 r.tb.key,.slice s.to s.P.length s.tc] 37 (0,0)):=by rw[hw0];exact heap_new w _
 have q1:=bodyOf_any r s w0
 rw[hk] at q1
 have q1:Calls Tryz.prog 36 #[rV r s] w0 fun x w'=>x= .returned (.iface 135 (.agg #[.int .i64 r.x,.int .i64 r.t,.slice s.oo r.o.length s.oc]))∧Tch (fun _=>False) w0 w':=q1
 have HQ1:Hid (∀W,Tch (fun _=>False) w W→Calls Tryz.prog 213 #[.agg #[.int .i64 r.x,.int .i64 r.t,.slice s.oo r.o.length s.oc]] W fun x w'=>x= .returned (.bool d1)∧Tch (fun _=>False) W w'):=fun W t=>eqT_d (right_5 r s F W (hg.tch t (fun h=>h)) (h.no t)) hd1
 have HQ2:Hid (∀W,Calls Tryz.prog 37 #[.int .i64 r.k,.iface 135 (.agg #[.int .i64 r.x,.int .i64 r.t,.slice s.oo r.o.length s.oc])] W fun x w'=>x= .returned (rV (cutC 5 r) (cutS 5 s))∧Tch (fun _=>False) W w'):=fun W=>recordOf_5 r s W
 have HQ3:Hid (∀W,Tch (fun _=>False) w W→Calls Tryz.prog 66 #[rV r s,rV (cutC 5 r) (cutS 5 s)] W fun x w'=>x= .returned (.bool d2)∧Tch (fun _=>False) W w'):=fun W t=>eqT_d (same_r r (cutC 5 r) s (cutS 5 s) F F W (h.no t) ((h.no t).cut 5)) hd2
 have m1: ∀(v:Array Value) (W:World),(method 381 135 (.agg v) "confluence/record.isRight").run Tryz.prog W= .ok (213,.agg v) W:=fun v W=>by kernel_rfl
 obtain⟨V,hV⟩: ∃V,V=rV (cutC 5 r) (cutS 5 s):=⟨_,rfl⟩
 rw[←hV] at HQ2 HQ3
 rw[hw0] at q1
 have HW0:Hid (w0=w.alloc (.cells #[.int .i64 r.k,.int .i64 r.x,.int .i64 r.p,.int .i64 r.t,.slice s.oo r.o.length s.oc,.slice s.no r.n.length s.nc,.string r.nm,.int .i64 r.org,.int .i64 r.tb.id,.int .i64 r.tb.ver,.string r.tb.nm,.slice s.co r.tb.cols.length s.cc,.int .i64 r.tb.key,.slice s.to s.P.length s.tc] 37)):=hw0
 clear h hg hk hd1 hd2 hV hw0
 cases d1<;>cases d2
 all_goals
  go_enter Tryz.func30,Tryz.ntmps30
  go_wp2_with fail
  refine q1.mono ?_
  rintro x w1 ⟨rfl,t1⟩
  rw[←HW0.out] at t1
  have T1:Tch (fun _=>False) w w1:=t0.trans' t1
  have b1:w1.heap[w.heap.size]? =some (.cells #[.int .i64 r.k,.int .i64 r.x,.int .i64 r.p,.int .i64 r.t,.slice s.oo r.o.length s.oc,.slice s.no r.n.length s.nc,.string r.nm,.int .i64 r.org,.int .i64 r.tb.id,.int .i64 r.tb.ver,.string r.tb.nm,.slice s.co r.tb.cols.length s.cc,.int .i64 r.tb.key,.slice s.to s.P.length s.tc] 37 (0,0)):=(t1.block _ (blk_lt b0) (fun h=>h)).trans b0
  have y0:=blk_cell b1 0
  have y1:=blk_cell b1 1
  have y2:=blk_cell b1 2
  have y3:=blk_cell b1 3
  have y4:=blk_cell b1 4
  have y5:=blk_cell b1 5
  have y6:=blk_cell b1 6
  have y7:=blk_cell b1 7
  have y8:=blk_cell b1 8
  have y9:=blk_cell b1 9
  have y10:=blk_cell b1 10
  have y11:=blk_cell b1 11
  have y12:=blk_cell b1 12
  have y13:=blk_cell b1 13
  simp only[List.getElem?_toArray,List.getElem?_cons_succ,List.getElem?_cons_zero] at y0 y1 y2 y3 y4 y5 y6 y7 y8 y9 y10 y11 y12 y13
  have k0:=cell_regrown y0
  have k1:=cell_regrown y1
  have k2:=cell_regrown y2
  have k3:=cell_regrown y3
  have k4:=cell_regrown y4
  have k5:=cell_regrown y5
  have k6:=cell_regrown y6
  have k7:=cell_regrown y7
  have k8:=cell_regrown y8
  have k9:=cell_regrown y9
  have k10:=cell_regrown y10
  have k11:=cell_regrown y11
  have k12:=cell_regrown y12
  have k13:=cell_regrown y13
  have c1:=fun(d:Nat) (os:Array Obj)=>regrown_calls (w:=w1) (fun W t=>HQ1.out W (T1.trans' t)) d os
  have c2: ∀d os,Calls Tryz.prog 37 #[.int .i64 r.k,.iface 135 (.agg #[.int .i64 r.x,.int .i64 r.t,.slice s.oo r.o.length s.oc])] (grow (redrawn w1 d) os) fun e w''=>e= .returned V∧ ∃p:Regrown,w''=grow (redrawn w1 p.d) p.os:=regrown_calls (fun W _=>HQ2.out W)
  have c3:=fun(d:Nat) (os:Array Obj)=>regrown_calls (w:=w1) (fun W t=>HQ3.out W (T1.trans' t)) d os
  have HT1:Hid (Tch (fun _=>False) w w1):=T1
  clear b0 b1 t0 t1 T1 q1 HW0 HQ1 HQ2 HQ3
  go_wp2_with fail
  refine wp_region_quiet_below (by kernel_rfl) (by kernel_rfl) ?_
  repeat (quiet_step (first|(go_at_call 213;exact c1 _ _)|(go_at_call 37;exact c2 _ _)|(go_at_call 66;exact c3 _ _)))
  refine wpQuiet_nil ?_
  rintro w2 ⟨p,rfl⟩
  have HE:=HT1.out.trans' (Tch.regrown w1 p.d p.os)
  have HE2:Hid _:=HE
  clear HE
  obtain⟨W2,hW2⟩: ∃W2,W2=grow (redrawn w1 p.d) p.os:=⟨_,rfl⟩
  rw[←hW2] at HE2 ⊢
  clear hW2 k0 k1 k2 k3 k4 k5 k6 k7 k8 k9 k10 k11 k12 k13 y0 y1 y2 y3 y4 y5 y6 y7 y8 y9 y10 y11 y12 y13 c1 c2 c3
  go_wp2_with fail
  go_ret2
  exact⟨rfl,HE2.out⟩
theorem rightBody_5 (r:Rc) (s:Sk) (F:Nat→Prop) (w:World) (hg:HE w) (h:RW w F r s) (hk:cls r.k=5) (hr:rightC 5 r) (hc:cutC 5 r=r):Calls Tryz.prog 30 #[rV r s] w fun x w'=>x= .returned (.tuple #[bV 5 r s,.int .i64 0])∧Tch (fun _=>False) w w':=rightB_5 r s F w hg h hk true true ⟨fun _=>hr,fun _=>rfl⟩ ⟨fun _=>hc.symm,fun _=>rfl⟩
end Go.Proofs.YtaiadknglhemaaaGreatDoor.C
