import Derived.Test.YtaiadknglhemaaaGreatDoorRVd0
import Derived.Test.YtaiadknglhemaaaGreatDoorRVd4
import Derived.Test.YtaiadknglhemaaaGreatDoorRVd8
import Derived.Test.YtaiadknglhemaaaGreatDoorXReader
import Derived.Test.YtaiadknglhemaaaGreatDoorRV2
set_option maxHeartbeats 8000000
set_option maxRecDepth 100000
namespace Go.Proofs.YtaiadknglhemaaaGreatDoor.C
open Go.RowKit Go Go.Sort
theorem decode_9 (r:Rc) (S:ByteArray) (w:World) (hS:S=⟨(recL r).toArray⟩) (hsz:S.size≤281474976710656) (hg:HE w) (hk:cls r.k=9) (hr:rightC 9 r) (hc:cutC 9 r=r) (ho: ∀v∈r.o,v.i64) (hn: ∀v∈r.n,v.i64):Calls Tryz.prog 14 #[.string S] w fun x w'=>DcOut r w x w':=by
 have hkr:1≤r.k∧r.k≤15:=by
  rcases cls_rng r.k with h1|h1
  ·rw[hk] at h1;cases h1
  ·exact⟨h1.1,h1.2.1⟩
 have hgl:1<w.heap.size:=cell_lt hg
 have HBY:Hid (byteR S 0 0=(r.k.toNat,1,0)):=by show _=_;rw[hS];exact recL_byte hkr
 have HTK:Hid ((tkC S r.k 9 (1,0)).1=r):=by
  show _=_
  have:=recL_take (by rw[hk];exact hr) (by rw[hk];exact hc) ho hn
  rw[hk, ←hS] at this;exact this
 obtain⟨w0,hw0⟩: ∃w0,w0=w.alloc (.cells #[.int .i64 0,.int .i64 0,.int .i64 0,.int .i64 0,.slice none 0 0,.slice none 0 0,.string ⟨#[]⟩,.int .i64 0,.int .i64 0,.int .i64 0,.string ⟨#[]⟩,.slice none 0 0,.int .i64 0,.slice none 0 0] 37):=⟨_,rfl⟩
 have t0:Tch (fun _=>False) w w0:=by rw[hw0];exact Tch.alloc _ _ _
 have b0:w0.heap[w.heap.size]? =some (.cells #[.int .i64 0,.int .i64 0,.int .i64 0,.int .i64 0,.slice none 0 0,.slice none 0 0,.string ⟨#[]⟩,.int .i64 0,.int .i64 0,.int .i64 0,.string ⟨#[]⟩,.slice none 0 0,.int .i64 0,.slice none 0 0] 37 (0,0)):=by rw[hw0];exact heap_new w _
 have q1:=newReader_any S w0
 rw[hw0] at q1
 have HW0:Hid (w0=w.alloc (.cells #[.int .i64 0,.int .i64 0,.int .i64 0,.int .i64 0,.slice none 0 0,.slice none 0 0,.string ⟨#[]⟩,.int .i64 0,.int .i64 0,.int .i64 0,.string ⟨#[]⟩,.slice none 0 0,.int .i64 0,.slice none 0 0] 37)):=hw0
 have HB:Hid (∀W,Tch (fun i=>w.heap.size<i) w0 W→W.heap[w.heap.size]? =some (.cells #[.int .i64 0,.int .i64 0,.int .i64 0,.int .i64 0,.slice none 0 0,.slice none 0 0,.string ⟨#[]⟩,.int .i64 0,.int .i64 0,.int .i64 0,.string ⟨#[]⟩,.slice none 0 0,.int .i64 0,.slice none 0 0] 37 (0,0))∧HE W∧Tch (fun _=>False) w W):=fun W t=>
  ⟨(t.block _ (blk_lt b0) (by omega)).trans b0,(hg.tch t0 (fun h=>h)).tch t (by omega),(t0.mono (fun _ _ h=>h.elim)).trans t (fun i hi h=>by omega)⟩
 have HENC:Hid (∀W F s,HE W→RW W F r s→Calls Tryz.prog 13 #[rV r s] W fun x w'=>x= .returned (.tuple #[.string S,.int .i64 0])∧Tch (fun _=>False) W w'):=fun W F s h1 h2=>by
  rw[hS]
  exact encode_ok r s F W h1 h2 (by rw[hk];exact hr) (by rw[hk];exact hc)
 have HRW:Hid (∀W base s,RN W base r s→RW W (fun i=>i<base) r s):=fun W base s h=>h.rw ho hn
 have HCUT:Hid (cutC 9 r=r):=hc
 have HRO:Hid (∀s W,Calls Tryz.prog 37 #[.int .i64 r.k,bV 9 r s] W fun x w'=>x= .returned (rV r (cutS 9 s))∧Tch (fun _=>False) W w'):=fun s W=>by
  have:=recordOf_9 r s W
  rw[hc] at this;exact this
 have m1: ∀(v:Array Value) (W:World),(method 381 143 (.agg v) "confluence/record.take").run Tryz.prog W= .ok (233,.agg v) W:=fun v W=>by kernel_rfl
 have hz0:w0.heap.size=w.heap.size+1:=by rw[hw0];simp
 have HBO:Hid (∀W,Calls Tryz.prog 36 #[rV (rc0 r.k) sk0] W fun x w'=>x= .returned (.iface 143 (.agg #[.int .i64 0,.int .i64 0]))∧Tch (fun _=>False) W w'):=fun W=>by
  have q:=bodyOf_any (rc0 r.k) sk0 W
  have e:cls (rc0 r.k).k=9:=hk
  rw[e] at q
  exact q
 have ek:((r.k.toNat:Nat):Int)=r.k:=by omega
 have HEK:Hid (((r.k.toNat:Nat):Int)=r.k):=ek
 have ess:(S.toList==S.toList)=true:=by simp
 clear hg hk hr hc ho hn hw0 t0 b0 hS ek
 go_enter Tryz.func14,Tryz.ntmps14
 go_wp2_with fail
 refine q1.mono ?_
 rintro x w1 ⟨rfl,h1,t1,z1⟩
 rw[←HW0.out,hz0] at h1
 rw[←HW0.out] at t1 z1
 clear q1
 have T1:Tch (fun i=>w.heap.size<i) w0 w1:=t1.mono (fun _ _ h=>h.elim)
 have q2:=rbyte_any (w.heap.size+1) S 0 0 w1 h1 hsz
 rw[HBY.out] at q2
 simp only[HEK.out] at q2
 go_wp2_with fail
 refine q2.mono ?_
 rintro x w2 ⟨rfl,h2,t2⟩
 clear q2
 have T2:Tch (fun i=>w.heap.size<i) w0 w2:=T1.trans' (t2.mono (fun i _ h=>by omega))
 go_wp2_with fail
 refine(HBO.out w2).mono ?_
 rintro x w3 ⟨rfl,t3⟩
 have h3:=RD.no h2 t3
 have T3:Tch (fun i=>w.heap.size<i) w0 w3:=T2.trans' (t3.mono (fun _ _ h=>h.elim))
 have q4:=take_9 (w.heap.size+1) S r.k 1 0 w3 h3 (HB.out w3 T3).2.1 (by omega) hsz
 have hz3:w0.heap.size+1≤w3.heap.size:=by
  have:=t1.size;have:=t2.size;have:=t3.size;omega
 clear h1 h2 t1 t2 t3 T1 T2 z1
 go_wp2_with fail
 refine q4.mono ?_
 rintro x w4 ⟨⟨s,rfl,hN⟩, -,t4⟩
 rw[HTK.out] at hN ⊢
 clear q4 h3
 have T4:Tch (fun i=>w.heap.size<i) w0 w4:=T3.trans' (t4.mono (fun i _ h=>by omega))
 have hz4:=t4.size
 have q5:=HRO.out s w4
 have HN4:Hid (RN w4 w3.heap.size r s):=hN
 clear hN
 generalize hbv:bV 9 r s=BV at q5 ⊢
 clear hbv
 go_wp2_with fail
 refine q5.mono ?_
 rintro x w5 ⟨rfl,t5⟩
 clear q5
 have T5:Tch (fun i=>w.heap.size<i) w0 w5:=T4.trans' (t5.mono (fun _ _ h=>h.elim))
 have HN5:Hid (RN w5 w3.heap.size r (cutS 9 s)):=by
  have:=(HN4.out.tch t5 (fun _ _ _ h=>h)).cut 9
  rw[HCUT.out] at this;exact this
 have hz5:=t5.size
 clear HN4
 obtain⟨s5,hs5⟩: ∃s5,s5=cutS 9 s:=⟨_,rfl⟩
 have HCO:Hid (s5.co=none∨s5.P=[]):=by rw[hs5];first|exact Or.inl rfl|exact Or.inr rfl
 rw[←hs5] at HN5 ⊢
 clear hs5 t5 t4 T3 T4
 obtain⟨w6,hw6⟩: ∃w6,w6=w5.alloc (.cells #[.int .i64 r.k,.int .i64 r.x,.int .i64 r.p,.int .i64 r.t,.slice s5.oo r.o.length s5.oc,.slice s5.no r.n.length s5.nc,.string r.nm,.int .i64 r.org,.int .i64 r.tb.id,.int .i64 r.tb.ver,.string r.tb.nm,.slice s5.co r.tb.cols.length s5.cc,.int .i64 r.tb.key,.slice s5.to s5.P.length s5.tc] 37):=⟨_,rfl⟩
 have t6:Tch (fun _=>False) w5 w6:=by rw[hw6];exact Tch.alloc _ _ _
 have b6:w6.heap[w5.heap.size]? =some (.cells #[.int .i64 r.k,.int .i64 r.x,.int .i64 r.p,.int .i64 r.t,.slice s5.oo r.o.length s5.oc,.slice s5.no r.n.length s5.nc,.string r.nm,.int .i64 r.org,.int .i64 r.tb.id,.int .i64 r.tb.ver,.string r.tb.nm,.slice s5.co r.tb.cols.length s5.cc,.int .i64 r.tb.key,.slice s5.to s5.P.length s5.tc] 37 (0,0)):=by rw[hw6];exact heap_new w5 _
 have T6:Tch (fun i=>w.heap.size<i) w0 w6:=T5.trans' (t6.mono (fun _ _ h=>h.elim))
 have HN6:Hid (RN w6 w3.heap.size r s5):=HN5.out.tch t6 (fun _ _ _ h=>h)
 have q7:=HENC.out w6 _ s5 (HB.out w6 T6).2.1 (HRW.out w6 _ s5 HN6.out)
 rw[hw6] at q7
 have HW6:Hid (w6=w5.alloc (.cells #[.int .i64 r.k,.int .i64 r.x,.int .i64 r.p,.int .i64 r.t,.slice s5.oo r.o.length s5.oc,.slice s5.no r.n.length s5.nc,.string r.nm,.int .i64 r.org,.int .i64 r.tb.id,.int .i64 r.tb.ver,.string r.tb.nm,.slice s5.co r.tb.cols.length s5.cc,.int .i64 r.tb.key,.slice s5.to s5.P.length s5.tc] 37)):=hw6
 have hz6:=t6.size
 clear hw6 t6 T5 HN5 HBO HRO HENC HTK HBY
 go_wp2_with fail
 refine q7.mono ?_
 rintro x w7 ⟨rfl,t7⟩
 rw[←HW6.out] at t7
 have T7:Tch (fun i=>w.heap.size<i) w0 w7:=T6.trans' (t7.mono (fun _ _ h=>h.elim))
 have b7:w7.heap[w5.heap.size]? =some (.cells #[.int .i64 r.k,.int .i64 r.x,.int .i64 r.p,.int .i64 r.t,.slice s5.oo r.o.length s5.oc,.slice s5.no r.n.length s5.nc,.string r.nm,.int .i64 r.org,.int .i64 r.tb.id,.int .i64 r.tb.ver,.string r.tb.nm,.slice s5.co r.tb.cols.length s5.cc,.int .i64 r.tb.key,.slice s5.to s5.P.length s5.tc] 37 (0,0)):=(t7.block _ (blk_lt b6) (fun h=>h)).trans b6
 obtain⟨n7, -,U7⟩:=HB.out w7 T7
 have HN7:Hid (RN w7 w3.heap.size r s5):=HN6.out.tch t7 (fun _ _ _ h=>h)
 have HF:Hid (∀W,Tch (fun i=>i=w.heap.size) w7 W→RN W w.heap.size r s5∧Tch (fun _=>False) w W):=fun W t=>
  ⟨(HN7.out.tch t (fun i h1 _ h2=>by omega)).low (by omega),U7.trans t (fun i hi h=>by omega)⟩
 have y0:=blk_cell b7 0
 have y1:=blk_cell b7 1
 have y2:=blk_cell b7 2
 have y3:=blk_cell b7 3
 have y4:=blk_cell b7 4
 have y5:=blk_cell b7 5
 have y6:=blk_cell b7 6
 have y7:=blk_cell b7 7
 have y8:=blk_cell b7 8
 have y9:=blk_cell b7 9
 have y10:=blk_cell b7 10
 have y11:=blk_cell b7 11
 have y12:=blk_cell b7 12
 have y13:=blk_cell b7 13
 simp only[List.getElem?_toArray,List.getElem?_cons_succ,List.getElem?_cons_zero] at y0 y1 y2 y3 y4 y5 y6 y7 y8 y9 y10 y11 y12 y13
 have z0:=blk_cell n7 0
 have z1:=blk_cell n7 1
 have z2:=blk_cell n7 2
 have z3:=blk_cell n7 3
 have z4:=blk_cell n7 4
 have z5:=blk_cell n7 5
 have z6:=blk_cell n7 6
 have z7:=blk_cell n7 7
 have z8:=blk_cell n7 8
 have z9:=blk_cell n7 9
 have z10:=blk_cell n7 10
 have z11:=blk_cell n7 11
 have z12:=blk_cell n7 12
 have z13:=blk_cell n7 13
 simp only[List.getElem?_toArray,List.getElem?_cons_succ,List.getElem?_cons_zero] at z0 z1 z2 z3 z4 z5 z6 z7 z8 z9 z10 z11 z12 z13
 have f0:=blk_frozen n7 0
 have f1:=blk_frozen n7 1
 have f2:=blk_frozen n7 2
 have f3:=blk_frozen n7 3
 have f4:=blk_frozen n7 4
 have f5:=blk_frozen n7 5
 have f6:=blk_frozen n7 6
 have f7:=blk_frozen n7 7
 have f8:=blk_frozen n7 8
 have f9:=blk_frozen n7 9
 have f10:=blk_frozen n7 10
 have f11:=blk_frozen n7 11
 have f12:=blk_frozen n7 12
 have f13:=blk_frozen n7 13
 clear q7 t7 T6 T7 b6 b7 n7 U7 HN6 HN7 HB HW6 HW0 HRW HCUT HEK hz0 hz3 hz4 hz5 hz6
 go_wp2_with fail
 have hrs:Tryz.f14.results=#[.cell 2 37,.tmp 3]:=by kernel_rfl
 refine bodyPost_ret (v:= .tuple #[rV r s5,.int .i64 0]) (by simp only[results,hrs];go_simp) rfl ?_
 obtain⟨k1,k2⟩:=HF.out _ (show Tch (fun i=>i=w.heap.size) w7 _ from(((((((((((((Tch.setCell (fun i=>i=w.heap.size) w7 ⟨w.heap.size,0,none⟩ _ rfl).setCellR ⟨w.heap.size,1,none⟩ _ rfl).setCellR ⟨w.heap.size,2,none⟩ _ rfl).setCellR ⟨w.heap.size,3,none⟩ _ rfl).setCellR ⟨w.heap.size,4,none⟩ _ rfl).setCellR ⟨w.heap.size,5,none⟩ _ rfl).setCellR ⟨w.heap.size,6,none⟩ _ rfl).setCellR ⟨w.heap.size,7,none⟩ _ rfl).setCellR ⟨w.heap.size,8,none⟩ _ rfl).setCellR ⟨w.heap.size,9,none⟩ _ rfl).setCellR ⟨w.heap.size,10,none⟩ _ rfl).setCellR ⟨w.heap.size,11,none⟩ _ rfl).setCellR ⟨w.heap.size,12,none⟩ _ rfl).setCellR ⟨w.heap.size,13,none⟩ _ rfl)
 exact⟨s5,rfl,k1,k2,HCO.out⟩
theorem decode_10 (r:Rc) (S:ByteArray) (w:World) (hS:S=⟨(recL r).toArray⟩) (hsz:S.size≤281474976710656) (hg:HE w) (hk:cls r.k=10) (hr:rightC 10 r) (hc:cutC 10 r=r) (ho: ∀v∈r.o,v.i64) (hn: ∀v∈r.n,v.i64):Calls Tryz.prog 14 #[.string S] w fun x w'=>DcOut r w x w':=by
 have hkr:1≤r.k∧r.k≤15:=by
  rcases cls_rng r.k with h1|h1
  ·rw[hk] at h1;cases h1
  ·exact⟨h1.1,h1.2.1⟩
 have hgl:1<w.heap.size:=cell_lt hg
 have HBY:Hid (byteR S 0 0=(r.k.toNat,1,0)):=by show _=_;rw[hS];exact recL_byte hkr
 have HTK:Hid ((tkC S r.k 10 (1,0)).1=r):=by
  show _=_
  have:=recL_take (by rw[hk];exact hr) (by rw[hk];exact hc) ho hn
  rw[hk, ←hS] at this;exact this
 obtain⟨w0,hw0⟩: ∃w0,w0=w.alloc (.cells #[.int .i64 0,.int .i64 0,.int .i64 0,.int .i64 0,.slice none 0 0,.slice none 0 0,.string ⟨#[]⟩,.int .i64 0,.int .i64 0,.int .i64 0,.string ⟨#[]⟩,.slice none 0 0,.int .i64 0,.slice none 0 0] 37):=⟨_,rfl⟩
 have t0:Tch (fun _=>False) w w0:=by rw[hw0];exact Tch.alloc _ _ _
 have b0:w0.heap[w.heap.size]? =some (.cells #[.int .i64 0,.int .i64 0,.int .i64 0,.int .i64 0,.slice none 0 0,.slice none 0 0,.string ⟨#[]⟩,.int .i64 0,.int .i64 0,.int .i64 0,.string ⟨#[]⟩,.slice none 0 0,.int .i64 0,.slice none 0 0] 37 (0,0)):=by rw[hw0];exact heap_new w _
 have q1:=newReader_any S w0
 rw[hw0] at q1
 have HW0:Hid (w0=w.alloc (.cells #[.int .i64 0,.int .i64 0,.int .i64 0,.int .i64 0,.slice none 0 0,.slice none 0 0,.string ⟨#[]⟩,.int .i64 0,.int .i64 0,.int .i64 0,.string ⟨#[]⟩,.slice none 0 0,.int .i64 0,.slice none 0 0] 37)):=hw0
 have HB:Hid (∀W,Tch (fun i=>w.heap.size<i) w0 W→W.heap[w.heap.size]? =some (.cells #[.int .i64 0,.int .i64 0,.int .i64 0,.int .i64 0,.slice none 0 0,.slice none 0 0,.string ⟨#[]⟩,.int .i64 0,.int .i64 0,.int .i64 0,.string ⟨#[]⟩,.slice none 0 0,.int .i64 0,.slice none 0 0] 37 (0,0))∧HE W∧Tch (fun _=>False) w W):=fun W t=>
  ⟨(t.block _ (blk_lt b0) (by omega)).trans b0,(hg.tch t0 (fun h=>h)).tch t (by omega),(t0.mono (fun _ _ h=>h.elim)).trans t (fun i hi h=>by omega)⟩
 have HENC:Hid (∀W F s,HE W→RW W F r s→Calls Tryz.prog 13 #[rV r s] W fun x w'=>x= .returned (.tuple #[.string S,.int .i64 0])∧Tch (fun _=>False) W w'):=fun W F s h1 h2=>by
  rw[hS]
  exact encode_ok r s F W h1 h2 (by rw[hk];exact hr) (by rw[hk];exact hc)
 have HRW:Hid (∀W base s,RN W base r s→RW W (fun i=>i<base) r s):=fun W base s h=>h.rw ho hn
 have HCUT:Hid (cutC 10 r=r):=hc
 have HRO:Hid (∀s W,Calls Tryz.prog 37 #[.int .i64 r.k,bV 10 r s] W fun x w'=>x= .returned (rV r (cutS 10 s))∧Tch (fun _=>False) W w'):=fun s W=>by
  have:=recordOf_10 r s W
  rw[hc] at this;exact this
 have m1: ∀(v:Array Value) (W:World),(method 381 145 (.agg v) "confluence/record.take").run Tryz.prog W= .ok (236,.agg v) W:=fun v W=>by kernel_rfl
 have hz0:w0.heap.size=w.heap.size+1:=by rw[hw0];simp
 have HBO:Hid (∀W,Calls Tryz.prog 36 #[rV (rc0 r.k) sk0] W fun x w'=>x= .returned (.iface 145 (.agg #[.int .i64 0,.int .i64 0,.slice none 0 0]))∧Tch (fun _=>False) W w'):=fun W=>by
  have q:=bodyOf_any (rc0 r.k) sk0 W
  have e:cls (rc0 r.k).k=10:=hk
  rw[e] at q
  exact q
 have ek:((r.k.toNat:Nat):Int)=r.k:=by omega
 have HEK:Hid (((r.k.toNat:Nat):Int)=r.k):=ek
 have ess:(S.toList==S.toList)=true:=by simp
 clear hg hk hr hc ho hn hw0 t0 b0 hS ek
 go_enter Tryz.func14,Tryz.ntmps14
 go_wp2_with fail
 refine q1.mono ?_
 rintro x w1 ⟨rfl,h1,t1,z1⟩
 rw[←HW0.out,hz0] at h1
 rw[←HW0.out] at t1 z1
 clear q1
 have T1:Tch (fun i=>w.heap.size<i) w0 w1:=t1.mono (fun _ _ h=>h.elim)
 have q2:=rbyte_any (w.heap.size+1) S 0 0 w1 h1 hsz
 rw[HBY.out] at q2
 simp only[HEK.out] at q2
 go_wp2_with fail
 refine q2.mono ?_
 rintro x w2 ⟨rfl,h2,t2⟩
 clear q2
 have T2:Tch (fun i=>w.heap.size<i) w0 w2:=T1.trans' (t2.mono (fun i _ h=>by omega))
 go_wp2_with fail
 refine(HBO.out w2).mono ?_
 rintro x w3 ⟨rfl,t3⟩
 have h3:=RD.no h2 t3
 have T3:Tch (fun i=>w.heap.size<i) w0 w3:=T2.trans' (t3.mono (fun _ _ h=>h.elim))
 have q4:=take_10 (w.heap.size+1) S r.k 1 0 w3 h3 (HB.out w3 T3).2.1 (by omega) hsz
 have hz3:w0.heap.size+1≤w3.heap.size:=by
  have:=t1.size;have:=t2.size;have:=t3.size;omega
 clear h1 h2 t1 t2 t3 T1 T2 z1
 go_wp2_with fail
 refine q4.mono ?_
 rintro x w4 ⟨⟨s,rfl,hN⟩, -,t4⟩
 rw[HTK.out] at hN ⊢
 clear q4 h3
 have T4:Tch (fun i=>w.heap.size<i) w0 w4:=T3.trans' (t4.mono (fun i _ h=>by omega))
 have hz4:=t4.size
 have q5:=HRO.out s w4
 have HN4:Hid (RN w4 w3.heap.size r s):=hN
 clear hN
 generalize hbv:bV 10 r s=BV at q5 ⊢
 clear hbv
 go_wp2_with fail
 refine q5.mono ?_
 rintro x w5 ⟨rfl,t5⟩
 clear q5
 have T5:Tch (fun i=>w.heap.size<i) w0 w5:=T4.trans' (t5.mono (fun _ _ h=>h.elim))
 have HN5:Hid (RN w5 w3.heap.size r (cutS 10 s)):=by
  have:=(HN4.out.tch t5 (fun _ _ _ h=>h)).cut 10
  rw[HCUT.out] at this;exact this
 have hz5:=t5.size
 clear HN4
 obtain⟨s5,hs5⟩: ∃s5,s5=cutS 10 s:=⟨_,rfl⟩
 have HCO:Hid (s5.co=none∨s5.P=[]):=by rw[hs5];first|exact Or.inl rfl|exact Or.inr rfl
 rw[←hs5] at HN5 ⊢
 clear hs5 t5 t4 T3 T4
 obtain⟨w6,hw6⟩: ∃w6,w6=w5.alloc (.cells #[.int .i64 r.k,.int .i64 r.x,.int .i64 r.p,.int .i64 r.t,.slice s5.oo r.o.length s5.oc,.slice s5.no r.n.length s5.nc,.string r.nm,.int .i64 r.org,.int .i64 r.tb.id,.int .i64 r.tb.ver,.string r.tb.nm,.slice s5.co r.tb.cols.length s5.cc,.int .i64 r.tb.key,.slice s5.to s5.P.length s5.tc] 37):=⟨_,rfl⟩
 have t6:Tch (fun _=>False) w5 w6:=by rw[hw6];exact Tch.alloc _ _ _
 have b6:w6.heap[w5.heap.size]? =some (.cells #[.int .i64 r.k,.int .i64 r.x,.int .i64 r.p,.int .i64 r.t,.slice s5.oo r.o.length s5.oc,.slice s5.no r.n.length s5.nc,.string r.nm,.int .i64 r.org,.int .i64 r.tb.id,.int .i64 r.tb.ver,.string r.tb.nm,.slice s5.co r.tb.cols.length s5.cc,.int .i64 r.tb.key,.slice s5.to s5.P.length s5.tc] 37 (0,0)):=by rw[hw6];exact heap_new w5 _
 have T6:Tch (fun i=>w.heap.size<i) w0 w6:=T5.trans' (t6.mono (fun _ _ h=>h.elim))
 have HN6:Hid (RN w6 w3.heap.size r s5):=HN5.out.tch t6 (fun _ _ _ h=>h)
 have q7:=HENC.out w6 _ s5 (HB.out w6 T6).2.1 (HRW.out w6 _ s5 HN6.out)
 rw[hw6] at q7
 have HW6:Hid (w6=w5.alloc (.cells #[.int .i64 r.k,.int .i64 r.x,.int .i64 r.p,.int .i64 r.t,.slice s5.oo r.o.length s5.oc,.slice s5.no r.n.length s5.nc,.string r.nm,.int .i64 r.org,.int .i64 r.tb.id,.int .i64 r.tb.ver,.string r.tb.nm,.slice s5.co r.tb.cols.length s5.cc,.int .i64 r.tb.key,.slice s5.to s5.P.length s5.tc] 37)):=hw6
 have hz6:=t6.size
 clear hw6 t6 T5 HN5 HBO HRO HENC HTK HBY
 go_wp2_with fail
 refine q7.mono ?_
 rintro x w7 ⟨rfl,t7⟩
 rw[←HW6.out] at t7
 have T7:Tch (fun i=>w.heap.size<i) w0 w7:=T6.trans' (t7.mono (fun _ _ h=>h.elim))
 have b7:w7.heap[w5.heap.size]? =some (.cells #[.int .i64 r.k,.int .i64 r.x,.int .i64 r.p,.int .i64 r.t,.slice s5.oo r.o.length s5.oc,.slice s5.no r.n.length s5.nc,.string r.nm,.int .i64 r.org,.int .i64 r.tb.id,.int .i64 r.tb.ver,.string r.tb.nm,.slice s5.co r.tb.cols.length s5.cc,.int .i64 r.tb.key,.slice s5.to s5.P.length s5.tc] 37 (0,0)):=(t7.block _ (blk_lt b6) (fun h=>h)).trans b6
 obtain⟨n7, -,U7⟩:=HB.out w7 T7
 have HN7:Hid (RN w7 w3.heap.size r s5):=HN6.out.tch t7 (fun _ _ _ h=>h)
 have HF:Hid (∀W,Tch (fun i=>i=w.heap.size) w7 W→RN W w.heap.size r s5∧Tch (fun _=>False) w W):=fun W t=>
  ⟨(HN7.out.tch t (fun i h1 _ h2=>by omega)).low (by omega),U7.trans t (fun i hi h=>by omega)⟩
 have y0:=blk_cell b7 0
 have y1:=blk_cell b7 1
 have y2:=blk_cell b7 2
 have y3:=blk_cell b7 3
 have y4:=blk_cell b7 4
 have y5:=blk_cell b7 5
 have y6:=blk_cell b7 6
 have y7:=blk_cell b7 7
 have y8:=blk_cell b7 8
 have y9:=blk_cell b7 9
 have y10:=blk_cell b7 10
 have y11:=blk_cell b7 11
 have y12:=blk_cell b7 12
 have y13:=blk_cell b7 13
 simp only[List.getElem?_toArray,List.getElem?_cons_succ,List.getElem?_cons_zero] at y0 y1 y2 y3 y4 y5 y6 y7 y8 y9 y10 y11 y12 y13
 have z0:=blk_cell n7 0
 have z1:=blk_cell n7 1
 have z2:=blk_cell n7 2
 have z3:=blk_cell n7 3
 have z4:=blk_cell n7 4
 have z5:=blk_cell n7 5
 have z6:=blk_cell n7 6
 have z7:=blk_cell n7 7
 have z8:=blk_cell n7 8
 have z9:=blk_cell n7 9
 have z10:=blk_cell n7 10
 have z11:=blk_cell n7 11
 have z12:=blk_cell n7 12
 have z13:=blk_cell n7 13
 simp only[List.getElem?_toArray,List.getElem?_cons_succ,List.getElem?_cons_zero] at z0 z1 z2 z3 z4 z5 z6 z7 z8 z9 z10 z11 z12 z13
 have f0:=blk_frozen n7 0
 have f1:=blk_frozen n7 1
 have f2:=blk_frozen n7 2
 have f3:=blk_frozen n7 3
 have f4:=blk_frozen n7 4
 have f5:=blk_frozen n7 5
 have f6:=blk_frozen n7 6
 have f7:=blk_frozen n7 7
 have f8:=blk_frozen n7 8
 have f9:=blk_frozen n7 9
 have f10:=blk_frozen n7 10
 have f11:=blk_frozen n7 11
 have f12:=blk_frozen n7 12
 have f13:=blk_frozen n7 13
 clear q7 t7 T6 T7 b6 b7 n7 U7 HN6 HN7 HB HW6 HW0 HRW HCUT HEK hz0 hz3 hz4 hz5 hz6
 go_wp2_with fail
 have hrs:Tryz.f14.results=#[.cell 2 37,.tmp 3]:=by kernel_rfl
 refine bodyPost_ret (v:= .tuple #[rV r s5,.int .i64 0]) (by simp only[results,hrs];go_simp) rfl ?_
 obtain⟨k1,k2⟩:=HF.out _ (show Tch (fun i=>i=w.heap.size) w7 _ from(((((((((((((Tch.setCell (fun i=>i=w.heap.size) w7 ⟨w.heap.size,0,none⟩ _ rfl).setCellR ⟨w.heap.size,1,none⟩ _ rfl).setCellR ⟨w.heap.size,2,none⟩ _ rfl).setCellR ⟨w.heap.size,3,none⟩ _ rfl).setCellR ⟨w.heap.size,4,none⟩ _ rfl).setCellR ⟨w.heap.size,5,none⟩ _ rfl).setCellR ⟨w.heap.size,6,none⟩ _ rfl).setCellR ⟨w.heap.size,7,none⟩ _ rfl).setCellR ⟨w.heap.size,8,none⟩ _ rfl).setCellR ⟨w.heap.size,9,none⟩ _ rfl).setCellR ⟨w.heap.size,10,none⟩ _ rfl).setCellR ⟨w.heap.size,11,none⟩ _ rfl).setCellR ⟨w.heap.size,12,none⟩ _ rfl).setCellR ⟨w.heap.size,13,none⟩ _ rfl)
 exact⟨s5,rfl,k1,k2,HCO.out⟩
theorem decode_ok (r:Rc) (S:ByteArray) (w:World) (hS:S=⟨(recL r).toArray⟩) (hsz:S.size≤281474976710656) (hg:HE w) (hr:rightC (cls r.k) r) (hc:cutC (cls r.k) r=r) (ho: ∀v∈r.o,v.i64) (hn: ∀v∈r.n,v.i64):Calls Tryz.prog 14 #[.string S] w fun x w'=>DcOut r w x w':=by
 rcases cls_rng r.k with h0|⟨_,_,h1,h2⟩
 ·rw[h0] at hr;exact hr.elim
 ·obtain⟨c,hcc⟩: ∃c,cls r.k=c:=⟨_,rfl⟩
  rw[hcc] at hr hc h1 h2
  have hc0:c=1∨c=2∨c=3∨c=4∨c=5∨c=6∨c=7∨c=8∨c=9∨c=10:=by omega
  rcases hc0 with rfl|rfl|rfl|rfl|rfl|rfl|rfl|rfl|rfl|rfl
  ·exact decode_1 r S w hS hsz hg hcc hr hc ho hn
  ·exact decode_2 r S w hS hsz hg hcc hr hc ho hn
  ·exact decode_3 r S w hS hsz hg hcc hr hc ho hn
  ·exact decode_4 r S w hS hsz hg hcc hr hc ho hn
  ·exact decode_5 r S w hS hsz hg hcc hr hc ho hn
  ·exact decode_6 r S w hS hsz hg hcc hr hc ho hn
  ·exact decode_7 r S w hS hsz hg hcc hr hc ho hn
  ·exact decode_8 r S w hS hsz hg hcc hr hc ho hn
  ·exact decode_9 r S w hS hsz hg hcc hr hc ho hn
  ·exact decode_10 r S w hS hsz hg hcc hr hc ho hn
end Go.Proofs.YtaiadknglhemaaaGreatDoor.C
namespace Go.Proofs.YtaiadknglhemaaaGreatDoor.C
open Go.Lib
def okF (r:Rc) (c:Nat):Prop:=match c with
 |120=>rtN r.x
 |110=>rtNx r.x
 |112=>rtN r.p∧r.p<r.x
 |116=>rtN r.t
 |117=>rtNx r.t
 |111=>rtRow r.o
 |119=>rtRow r.n
 |99=>orOk r.nm r.org
 |109=>nmOk r.nm=true
 |97=>rightE r.tb=0
 |108=>LDp r.tbs r.t
 |_=>False
def fldL (r:Rc) (c:Nat):List UInt8:=match c with
 |120=>dg r.x.toNat
 |110=>dg r.x.toNat
 |112=>dg r.p.toNat
 |116=>dg r.t.toNat
 |117=>dg r.t.toNat
 |111=>rowL r.o
 |119=>rowL r.n
 |99=>textL r.nm++dg r.org.toNat
 |109=>textL r.nm
 |97=>tabL r.tb
 |108=>bytesL [(r.tbs.length:Int)]++tabsL r.tbs
 |_=>[]
def wordN (c:Nat):List Nat:=(bl (wordC c)).map (·.toNat)
theorem right_word (r:Rc) (c:Nat) (h1:1≤c) (h2:c≤10):rightC c r ↔∀x∈wordN c,okF r x:=by
 have hc0:c=1∨c=2∨c=3∨c=4∨c=5∨c=6∨c=7∨c=8∨c=9∨c=10:=by omega
 rcases hc0 with rfl|rfl|rfl|rfl|rfl|rfl|rfl|rfl|rfl|rfl
 all_goals simp[wordN,wordC,bl,rightC,okF,rtNx,orOk]
theorem body_word (r:Rc) (c:Nat) (h1:1≤c) (h2:c≤10):(wordN c).flatMap (fldL r)=bodyL c r:=by
 have hc0:c=1∨c=2∨c=3∨c=4∨c=5∨c=6∨c=7∨c=8∨c=9∨c=10:=by omega
 rcases hc0 with rfl|rfl|rfl|rfl|rfl|rfl|rfl|rfl|rfl|rfl
 all_goals simp[wordN,wordC,bl,bodyL,fldL]
theorem rowL_len6 (vs:List Val):(rowL vs).length≤1699:=by
 unfold rowL
 rw[textL_bl,List.length_append,bl_mk]
 have h1:=encR_len vs
 have h2:=dg_len (⟨(encR vs).1.toArray⟩:ByteArray).size
 omega
theorem colsL_len6: ∀(l:List Col),(∀c∈l,nmOk c.nm=true)→(colsL l).length≤28*l.length
 |[],_=>by simp[colsL]
 |c::l,h=>by
  have e:colsL (c::l)=colL c++colsL l:=List.flatMap_cons
  have h1:=colsL_len6 l (fun x hx=>h x (by simp[hx]))
  have h2:=nm_size (h c (by simp))
  have h3:=dg_len c.nm.size
  have e2:(bytesL [c.k,nb c.nl]).length=2:=rfl
  rw[e,List.length_append,List.length_cons]
  unfold colL
  rw[List.length_append,textL_bl,List.length_append,bl_size,e2]
  omega
theorem tabL_len6 {t:Tbl} (h:RT t):(tabL t).length≤300:=by
 have h1:=colsL_len6 t.cols (fun c hc=>(h.cols c hc).1)
 have h2:=nm_size h.nm
 have h3:=dg_len t.id.toNat
 have h4:=dg_len t.ver.toNat
 have h5:=dg_len t.nm.size
 have h6:=h.len
 have e1: ∀n:Int,(bytesL [n]).length=1:=fun _=>rfl
 unfold tabL
 simp only[List.length_append,textL_bl,bl_size,e1]
 omega
theorem tabsL_len6: ∀(l:List Tbl),(∀t∈l,RT t)→(tabsL l).length≤300*l.length
 |[],_=>by simp[tabsL]
 |t::l,h=>by
  have e:tabsL (t::l)=tabL t++tabsL l:=List.flatMap_cons
  have h1:=tabsL_len6 l (fun x hx=>h x (by simp[hx]))
  have h2:=tabL_len6 (h t (by simp))
  rw[e,List.length_append,List.length_cons]
  omega
theorem fldL_len {r:Rc} {c:Nat} (h:okF r c):(fldL r c).length≤10000:=by
 unfold okF at h
 unfold fldL
 split at h
 all_goals (try simp only)
 ·have:=dg_len r.x.toNat;omega
 ·have:=dg_len r.x.toNat;omega
 ·have:=dg_len r.p.toNat;omega
 ·have:=dg_len r.t.toNat;omega
 ·have:=dg_len r.t.toNat;omega
 ·have:=rowL_len6 r.o;omega
 ·have:=rowL_len6 r.n;omega
 ·rw[List.length_append,textL_bl,List.length_append,bl_size]
  have h1:=dg_len r.nm.size
  have h2:=dg_len r.org.toNat
  have h3:r.nm.size≤16:=by
   rcases h with h|h
   ·omega
   ·exact nm_size h.1
  omega
 ·rw[textL_bl,List.length_append,bl_size]
  have h1:=dg_len r.nm.size
  have h3:=nm_size h
  omega
 ·have:=tabL_len6 (right_rt h);omega
 ·rw[List.length_append]
  have h1:=tabsL_len6 r.tbs h.rt
  have h2:=h.len
  have e1: ∀n:Int,(bytesL [n]).length=1:=fun _=>rfl
  rw[e1]
  omega
 ·exact h.elim
end Go.Proofs.YtaiadknglhemaaaGreatDoor.C
namespace Go.Proofs.YtaiadknglhemaaaGreatDoor.C
open Go.RowKit
theorem rxid_any (n:Int) (w:World):Calls Tryz.prog 77 #[.int .i64 n] w fun x w'=>x= .returned (.bool (decide (rtN n)))∧w'=w:=by
 go_enter Tryz.func77,Tryz.ntmps77
 go_wp2
 all_goals (go_ret;refine⟨vret_bool (bd ?_),rfl⟩;unfold rtN;simp;omega)
theorem rnext_any (n:Int) (w:World):Calls Tryz.prog 79 #[.int .i64 n] w fun x w'=>x= .returned (.bool (decide (rtNx n)))∧w'=w:=by
 go_enter Tryz.func79,Tryz.ntmps79
 go_wp2
 all_goals (go_ret;refine⟨vret_bool (bd ?_),rfl⟩;unfold rtNx;simp;omega)
theorem rfields_1 (w:World):Calls Tryz.prog 44 #[.int .i64 1] w fun x w'=>x= .returned (.string (wordC (cls 1)))∧w'=w:=by
 go_enter Tryz.func44,Tryz.ntmps44
 go_wp2
 go_ret
 exact⟨rfl,rfl⟩
theorem rfields_2 (w:World):Calls Tryz.prog 44 #[.int .i64 2] w fun x w'=>x= .returned (.string (wordC (cls 2)))∧w'=w:=by
 go_enter Tryz.func44,Tryz.ntmps44
 go_wp2
 go_ret
 exact⟨rfl,rfl⟩
theorem rfields_3 (w:World):Calls Tryz.prog 44 #[.int .i64 3] w fun x w'=>x= .returned (.string (wordC (cls 3)))∧w'=w:=by
 go_enter Tryz.func44,Tryz.ntmps44
 go_wp2
 go_ret
 exact⟨rfl,rfl⟩
theorem rfields_4 (w:World):Calls Tryz.prog 44 #[.int .i64 4] w fun x w'=>x= .returned (.string (wordC (cls 4)))∧w'=w:=by
 go_enter Tryz.func44,Tryz.ntmps44
 go_wp2
 go_ret
 exact⟨rfl,rfl⟩
theorem rfields_5 (w:World):Calls Tryz.prog 44 #[.int .i64 5] w fun x w'=>x= .returned (.string (wordC (cls 5)))∧w'=w:=by
 go_enter Tryz.func44,Tryz.ntmps44
 go_wp2
 go_ret
 exact⟨rfl,rfl⟩
theorem rfields_6 (w:World):Calls Tryz.prog 44 #[.int .i64 6] w fun x w'=>x= .returned (.string (wordC (cls 6)))∧w'=w:=by
 go_enter Tryz.func44,Tryz.ntmps44
 go_wp2
 go_ret
 exact⟨rfl,rfl⟩
theorem rfields_7 (w:World):Calls Tryz.prog 44 #[.int .i64 7] w fun x w'=>x= .returned (.string (wordC (cls 7)))∧w'=w:=by
 go_enter Tryz.func44,Tryz.ntmps44
 go_wp2
 go_ret
 exact⟨rfl,rfl⟩
theorem rfields_8 (w:World):Calls Tryz.prog 44 #[.int .i64 8] w fun x w'=>x= .returned (.string (wordC (cls 8)))∧w'=w:=by
 go_enter Tryz.func44,Tryz.ntmps44
 go_wp2
 go_ret
 exact⟨rfl,rfl⟩
theorem rfields_9 (w:World):Calls Tryz.prog 44 #[.int .i64 9] w fun x w'=>x= .returned (.string (wordC (cls 9)))∧w'=w:=by
 go_enter Tryz.func44,Tryz.ntmps44
 go_wp2
 go_ret
 exact⟨rfl,rfl⟩
theorem rfields_10 (w:World):Calls Tryz.prog 44 #[.int .i64 10] w fun x w'=>x= .returned (.string (wordC (cls 10)))∧w'=w:=by
 go_enter Tryz.func44,Tryz.ntmps44
 go_wp2
 go_ret
 exact⟨rfl,rfl⟩
theorem rfields_11 (w:World):Calls Tryz.prog 44 #[.int .i64 11] w fun x w'=>x= .returned (.string (wordC (cls 11)))∧w'=w:=by
 go_enter Tryz.func44,Tryz.ntmps44
 go_wp2
 go_ret
 exact⟨rfl,rfl⟩
theorem rfields_12 (w:World):Calls Tryz.prog 44 #[.int .i64 12] w fun x w'=>x= .returned (.string (wordC (cls 12)))∧w'=w:=by
 go_enter Tryz.func44,Tryz.ntmps44
 go_wp2
 go_ret
 exact⟨rfl,rfl⟩
theorem rfields_13 (w:World):Calls Tryz.prog 44 #[.int .i64 13] w fun x w'=>x= .returned (.string (wordC (cls 13)))∧w'=w:=by
 go_enter Tryz.func44,Tryz.ntmps44
 go_wp2
 go_ret
 exact⟨rfl,rfl⟩
theorem rfields_14 (w:World):Calls Tryz.prog 44 #[.int .i64 14] w fun x w'=>x= .returned (.string (wordC (cls 14)))∧w'=w:=by
 go_enter Tryz.func44,Tryz.ntmps44
 go_wp2
 go_ret
 exact⟨rfl,rfl⟩
theorem rfields_15 (w:World):Calls Tryz.prog 44 #[.int .i64 15] w fun x w'=>x= .returned (.string (wordC (cls 15)))∧w'=w:=by
 go_enter Tryz.func44,Tryz.ntmps44
 go_wp2
 go_ret
 exact⟨rfl,rfl⟩
theorem rfields_no (k:Int) (w:World) (hk: ¬(1≤k∧k≤15)):Calls Tryz.prog 44 #[.int .i64 k] w fun x w'=>x= .returned (.string ⟨#[]⟩)∧w'=w:=by
 have e1:(k==1)=false:=int_ne (by omega)
 have e2:(k==2)=false:=int_ne (by omega)
 have e3:(k==3)=false:=int_ne (by omega)
 have e4:(k==4)=false:=int_ne (by omega)
 have e5:(k==5)=false:=int_ne (by omega)
 have e6:(k==6)=false:=int_ne (by omega)
 have e7:(k==7)=false:=int_ne (by omega)
 have e8:(k==8)=false:=int_ne (by omega)
 have e9:(k==9)=false:=int_ne (by omega)
 have e10:(k==10)=false:=int_ne (by omega)
 have e11:(k==11)=false:=int_ne (by omega)
 have e12:(k==12)=false:=int_ne (by omega)
 have e13:(k==13)=false:=int_ne (by omega)
 have e14:(k==14)=false:=int_ne (by omega)
 have e15:(k==15)=false:=int_ne (by omega)
 clear hk
 go_enter Tryz.func44,Tryz.ntmps44
 go_wp2
 go_ret
 exact⟨rfl,rfl⟩
theorem rfields_any (k:Int) (w:World):Calls Tryz.prog 44 #[.int .i64 k] w fun x w'=>x= .returned (.string (wordC (cls k)))∧w'=w:=by
 by_cases hk:1≤k∧k≤15
 ·have h15:k=1∨k=2∨k=3∨k=4∨k=5∨k=6∨k=7∨k=8∨k=9∨k=10∨k=11∨k=12∨k=13∨k=14∨k=15:=by omega
  rcases h15 with rfl|rfl|rfl|rfl|rfl|rfl|rfl|rfl|rfl|rfl|rfl|rfl|rfl|rfl|rfl
  ·exact rfields_1 w
  ·exact rfields_2 w
  ·exact rfields_3 w
  ·exact rfields_4 w
  ·exact rfields_5 w
  ·exact rfields_6 w
  ·exact rfields_7 w
  ·exact rfields_8 w
  ·exact rfields_9 w
  ·exact rfields_10 w
  ·exact rfields_11 w
  ·exact rfields_12 w
  ·exact rfields_13 w
  ·exact rfields_14 w
  ·exact rfields_15 w
 ·rw[cls_no _ hk];exact rfields_no k w hk
theorem cv_byte (n:Nat) (hn:n<256) (w:World):(convert 115 9 (.slice (some ⟨w.heap.size,0,none⟩) 1 1)).run Tryz.prog (w.alloc (.cells #[.int .u8 (n:Int)] 5))= .ok (.string ⟨#[UInt8.ofNat n]⟩) (w.alloc (.cells #[.int .u8 (n:Int)] 5)):=by
 have:=run_convert_bytes_back (P:=Tryz.prog) (w.alloc (.cells #[.int .u8 (n:Int)] 5)) 115 9 5 ⟨w.heap.size,0,none⟩ 1 [UInt8.ofNat n] Tryz.underlying115 Tryz.underlying5 Tryz.underlying9 (fun j hj=>by
  have e:j=0:=by simpa using hj
  subst e
  rw[add_plain,blk_cell (alloc_new _ _)]
  simp[Nat.mod_eq_of_lt hn])
 exact this
theorem cv_any (n:Int) (w:World):(convert 115 9 (.slice (some ⟨w.heap.size,0,none⟩) 1 1)).run Tryz.prog (w.alloc (.cells #[.int .u8 (n % 256)] 5))= .ok (.string ⟨#[UInt8.ofNat (n % 256).toNat]⟩) (w.alloc (.cells #[.int .u8 (n % 256)] 5)):=by
 have:=cv_byte (n % 256).toNat (by omega) w
 rw[show(((n % 256).toNat:Nat):Int)=n % 256 by omega] at this
 exact this
theorem rnumber6 (n:Int) (h0:0≤n) (h1:n≤255) (w:World):Calls Tryz.prog 45 #[.int .i64 n] w fun x w'=>(∃b,x= .returned (.string b)∧bl b=bytesL [n])∧Tch (fun _=>False) w w':=by
 have hcv:=cv_any n w
 have HB:Hid (bl ⟨#[UInt8.ofNat (n % 256).toNat]⟩=bytesL [n]):=by
  show bl _=_
  rw[show n % 256=n by omega];rfl
 clear h0 h1
 go_enter Tryz.func45,Tryz.ntmps45
 go_wp2
 go_ret
 exact⟨⟨_,rfl,HB.out⟩,Tch.alloc _ _ _⟩
end Go.Proofs.YtaiadknglhemaaaGreatDoor.C
