import Derived.Test.YtaiadknglhemaaaGreatDoorRVd0
set_option maxHeartbeats 8000000
set_option maxRecDepth 100000
namespace Go.Proofs.YtaiadknglhemaaaGreatDoor.C
open Go.RowKit Go Go.Sort
theorem decode_1 (r:Rc) (S:ByteArray) (w:World) (hS:S=⟨(recL r).toArray⟩) (hsz:S.size≤281474976710656) (hg:HE w) (hk:cls r.k=1) (hr:rightC 1 r) (hc:cutC 1 r=r) (ho: ∀v∈r.o,v.i64) (hn: ∀v∈r.n,v.i64):Calls Tryz.prog 14 #[.string S] w fun x w'=>DcOut r w x w':=by
 have hkr:1≤r.k∧r.k≤15:=by
  rcases cls_rng r.k with h1|h1
  ·rw[hk] at h1;cases h1
  ·exact⟨h1.1,h1.2.1⟩
 have hgl:1<w.heap.size:=cell_lt hg
 have HBY:Hid (byteR S 0 0=(r.k.toNat,1,0)):=by show _=_;rw[hS];exact recL_byte hkr
 have HTK:Hid ((tkC S r.k 1 (1,0)).1=r):=by
  show _=_
  have:=recL_take (by rw[hk];exact hr) (by rw[hk];exact hc) ho hn
  rw[hk, ←hS] at this;exact this
 obtain⟨w0,hw0⟩: ∃w0,w0=w.alloc (.cells #[.int .i64 0,.int .i64 0,.int .i64 0,.int .i64 0,.slice none 0 0,.slice none 0 0,.string ⟨#[]⟩,.int .i64 0,.int .i64 0,.int .i64 0,.string ⟨#[]⟩,.slice none 0 0,.int .i64 0,.slice none 0 0] 37):=⟨_,rfl⟩
 have t0:Tch (fun _=>False) w w0:=by rw[hw0];exact Tch.alloc _ _ _
 have b0:w0.heap[w.heap.size]? =some (.cells #[.int .i64 0,.int .i64 0,.int .i64 0,.int .i64 0,.slice none 0 0,.slice none 0 0,.string ⟨#[]⟩,.int .i64 0,.int .i64 0,.int .i64 0,.string ⟨#[]⟩,.slice none 0 0,.int .i64 0,.slice none 0 0] 37 (0,0)):=by rw[hw0];exact heap_new w _
 have q1:=newReader_any S w0
 rw[hw0] at q1
 have HW0:Hid (w0=w.alloc (.cells #[.int .i64 0,.int .i64 0,.int .i64 0,.int .i64 0,.slice none 0 0,.slice none 0 0,.string ⟨#[]⟩,.int .i64 0,.int .i64 0,.int .i64 0,.string ⟨#[]⟩,.slice none 0 0,.int .i64 0,.slice none 0 0] 37)):=hw0
 have HB:Hid (∀W,Tch (fun i=>w.heap.size<i) w0 W→W.heap[w.heap.size]? =some (.cells #[.int .i64 0,.int .i64 0,.int .i64 0,.int .i64 0,.slice none 0 0,.slice none 0 0,.string ⟨#[]⟩,.int .i64 0,.int .i64 0,.int .i64 0,.string ⟨#[]⟩,.slice none 0 0,.int .i64 0,.slice none 0 0] 37 (0,0))∧HE W∧Tch (fun _=>False) w W):=fun W t=>
  ⟨(t.block _ (blk_lt b0) (by omega)).trans b0,(hg.tch t0 (fun h=>h)).tch t (by omega),(t0.mono (fun _ _ h=>h.elim)).trans t (fun i hi h=>by omega)⟩
 have HENC:Hid (∀W F s,HE W→RW W F r s→Calls Tryz.prog 13 #[rV r s] W fun x w'=>x= .returned (.tuple #[.string S,.int .i64 0])∧Tch (fun _=>False) W w'):=fun W F s h1 h2=>by
  rw[hS]
  exact encode_ok r s F W h1 h2 (by rw[hk];exact hr) (by rw[hk];exact hc)
 have HRW:Hid (∀W base s,RN W base r s→RW W (fun i=>i<base) r s):=fun W base s h=>h.rw ho hn
 have HCUT:Hid (cutC 1 r=r):=hc
 have HRO:Hid (∀s W,Calls Tryz.prog 37 #[.int .i64 r.k,bV 1 r s] W fun x w'=>x= .returned (rV r (cutS 1 s))∧Tch (fun _=>False) W w'):=fun s W=>by
  have:=recordOf_1 r s W
  rw[hc] at this;exact this
 have m1: ∀(v:Array Value) (W:World),(method 381 128 (.agg v) "confluence/record.take").run Tryz.prog W= .ok (187,.agg v) W:=fun v W=>by kernel_rfl
 have hz0:w0.heap.size=w.heap.size+1:=by rw[hw0];simp
 have HBO:Hid (∀W,Calls Tryz.prog 36 #[rV (rc0 r.k) sk0] W fun x w'=>x= .returned (.iface 128 (.agg #[.int .i64 0]))∧Tch (fun _=>False) W w'):=fun W=>by
  have q:=bodyOf_any (rc0 r.k) sk0 W
  have e:cls (rc0 r.k).k=1:=hk
  rw[e] at q
  exact q
 have ek:((r.k.toNat:Nat):Int)=r.k:=by omega
 have HEK:Hid (((r.k.toNat:Nat):Int)=r.k):=ek
 have ess:(S.toList==S.toList)=true:=by simp
 clear hg hk hr hc ho hn hw0 t0 b0 hS ek
 go_enter Tryz.func14,Tryz.ntmps14
 go_wp2_with fail
 refine q1.mono ?_
 rintro x w1 ⟨rfl,h1,t1,z1⟩
 rw[←HW0.out,hz0] at h1
 rw[←HW0.out] at t1 z1
 clear q1
 have T1:Tch (fun i=>w.heap.size<i) w0 w1:=t1.mono (fun _ _ h=>h.elim)
 have q2:=rbyte_any (w.heap.size+1) S 0 0 w1 h1 hsz
 rw[HBY.out] at q2
 simp only[HEK.out] at q2
 go_wp2_with fail
 refine q2.mono ?_
 rintro x w2 ⟨rfl,h2,t2⟩
 clear q2
 have T2:Tch (fun i=>w.heap.size<i) w0 w2:=T1.trans' (t2.mono (fun i _ h=>by omega))
 go_wp2_with fail
 refine(HBO.out w2).mono ?_
 rintro x w3 ⟨rfl,t3⟩
 have h3:=RD.no h2 t3
 have T3:Tch (fun i=>w.heap.size<i) w0 w3:=T2.trans' (t3.mono (fun _ _ h=>h.elim))
 have q4:=take_1 (w.heap.size+1) S r.k 1 0 w3 h3 (HB.out w3 T3).2.1 (by omega) hsz
 have hz3:w0.heap.size+1≤w3.heap.size:=by
  have:=t1.size;have:=t2.size;have:=t3.size;omega
 clear h1 h2 t1 t2 t3 T1 T2 z1
 go_wp2_with fail
 refine q4.mono ?_
 rintro x w4 ⟨⟨s,rfl,hN⟩, -,t4⟩
 rw[HTK.out] at hN ⊢
 clear q4 h3
 have T4:Tch (fun i=>w.heap.size<i) w0 w4:=T3.trans' (t4.mono (fun i _ h=>by omega))
 have hz4:=t4.size
 have q5:=HRO.out s w4
 have HN4:Hid (RN w4 w3.heap.size r s):=hN
 clear hN
 generalize hbv:bV 1 r s=BV at q5 ⊢
 clear hbv
 go_wp2_with fail
 refine q5.mono ?_
 rintro x w5 ⟨rfl,t5⟩
 clear q5
 have T5:Tch (fun i=>w.heap.size<i) w0 w5:=T4.trans' (t5.mono (fun _ _ h=>h.elim))
 have HN5:Hid (RN w5 w3.heap.size r (cutS 1 s)):=by
  have:=(HN4.out.tch t5 (fun _ _ _ h=>h)).cut 1
  rw[HCUT.out] at this;exact this
 have hz5:=t5.size
 clear HN4
 obtain⟨s5,hs5⟩: ∃s5,s5=cutS 1 s:=⟨_,rfl⟩
 have HCO:Hid (s5.co=none∨s5.P=[]):=by rw[hs5];first|exact Or.inl rfl|exact Or.inr rfl
 rw[←hs5] at HN5 ⊢
 clear hs5 t5 t4 T3 T4
 obtain⟨w6,hw6⟩: ∃w6,w6=w5.alloc (.cells #[.int .i64 r.k,.int .i64 r.x,.int .i64 r.p,.int .i64 r.t,.slice s5.oo r.o.length s5.oc,.slice s5.no r.n.length s5.nc,.string r.nm,.int .i64 r.org,.int .i64 r.tb.id,.int .i64 r.tb.ver,.string r.tb.nm,.slice s5.co r.tb.cols.length s5.cc,.int .i64 r.tb.key,.slice s5.to s5.P.length s5.tc] 37):=⟨_,rfl⟩
 have t6:Tch (fun _=>False) w5 w6:=by rw[hw6];exact Tch.alloc _ _ _
 have b6:w6.heap[w5.heap.size]? =some (.cells #[.int .i64 r.k,.int .i64 r.x,.int .i64 r.p,.int .i64 r.t,.slice s5.oo r.o.length s5.oc,.slice s5.no r.n.length s5.nc,.string r.nm,.int .i64 r.org,.int .i64 r.tb.id,.int .i64 r.tb.ver,.string r.tb.nm,.slice s5.co r.tb.cols.length s5.cc,.int .i64 r.tb.key,.slice s5.to s5.P.length s5.tc] 37 (0,0)):=by rw[hw6];exact heap_new w5 _
 have T6:Tch (fun i=>w.heap.size<i) w0 w6:=T5.trans' (t6.mono (fun _ _ h=>h.elim))
 have HN6:Hid (RN w6 w3.heap.size r s5):=HN5.out.tch t6 (fun _ _ _ h=>h)
 have q7:=HENC.out w6 _ s5 (HB.out w6 T6).2.1 (HRW.out w6 _ s5 HN6.out)
 rw[hw6] at q7
 have HW6:Hid (w6=w5.alloc (.cells #[.int .i64 r.k,.int .i64 r.x,.int .i64 r.p,.int .i64 r.t,.slice s5.oo r.o.length s5.oc,.slice s5.no r.n.length s5.nc,.string r.nm,.int .i64 r.org,.int .i64 r.tb.id,.int .i64 r.tb.ver,.string r.tb.nm,.slice s5.co r.tb.cols.length s5.cc,.int .i64 r.tb.key,.slice s5.to s5.P.length s5.tc] 37)):=hw6
 have hz6:=t6.size
 clear hw6 t6 T5 HN5 HBO HRO HENC HTK HBY
 go_wp2_with fail
 refine q7.mono ?_
 rintro x w7 ⟨rfl,t7⟩
 rw[←HW6.out] at t7
 have T7:Tch (fun i=>w.heap.size<i) w0 w7:=T6.trans' (t7.mono (fun _ _ h=>h.elim))
 have b7:w7.heap[w5.heap.size]? =some (.cells #[.int .i64 r.k,.int .i64 r.x,.int .i64 r.p,.int .i64 r.t,.slice s5.oo r.o.length s5.oc,.slice s5.no r.n.length s5.nc,.string r.nm,.int .i64 r.org,.int .i64 r.tb.id,.int .i64 r.tb.ver,.string r.tb.nm,.slice s5.co r.tb.cols.length s5.cc,.int .i64 r.tb.key,.slice s5.to s5.P.length s5.tc] 37 (0,0)):=(t7.block _ (blk_lt b6) (fun h=>h)).trans b6
 obtain⟨n7, -,U7⟩:=HB.out w7 T7
 have HN7:Hid (RN w7 w3.heap.size r s5):=HN6.out.tch t7 (fun _ _ _ h=>h)
 have HF:Hid (∀W,Tch (fun i=>i=w.heap.size) w7 W→RN W w.heap.size r s5∧Tch (fun _=>False) w W):=fun W t=>
  ⟨(HN7.out.tch t (fun i h1 _ h2=>by omega)).low (by omega),U7.trans t (fun i hi h=>by omega)⟩
 have y0:=blk_cell b7 0
 have y1:=blk_cell b7 1
 have y2:=blk_cell b7 2
 have y3:=blk_cell b7 3
 have y4:=blk_cell b7 4
 have y5:=blk_cell b7 5
 have y6:=blk_cell b7 6
 have y7:=blk_cell b7 7
 have y8:=blk_cell b7 8
 have y9:=blk_cell b7 9
 have y10:=blk_cell b7 10
 have y11:=blk_cell b7 11
 have y12:=blk_cell b7 12
 have y13:=blk_cell b7 13
 simp only[List.getElem?_toArray,List.getElem?_cons_succ,List.getElem?_cons_zero] at y0 y1 y2 y3 y4 y5 y6 y7 y8 y9 y10 y11 y12 y13
 have z0:=blk_cell n7 0
 have z1:=blk_cell n7 1
 have z2:=blk_cell n7 2
 have z3:=blk_cell n7 3
 have z4:=blk_cell n7 4
 have z5:=blk_cell n7 5
 have z6:=blk_cell n7 6
 have z7:=blk_cell n7 7
 have z8:=blk_cell n7 8
 have z9:=blk_cell n7 9
 have z10:=blk_cell n7 10
 have z11:=blk_cell n7 11
 have z12:=blk_cell n7 12
 have z13:=blk_cell n7 13
 simp only[List.getElem?_toArray,List.getElem?_cons_succ,List.getElem?_cons_zero] at z0 z1 z2 z3 z4 z5 z6 z7 z8 z9 z10 z11 z12 z13
 have f0:=blk_frozen n7 0
 have f1:=blk_frozen n7 1
 have f2:=blk_frozen n7 2
 have f3:=blk_frozen n7 3
 have f4:=blk_frozen n7 4
 have f5:=blk_frozen n7 5
 have f6:=blk_frozen n7 6
 have f7:=blk_frozen n7 7
 have f8:=blk_frozen n7 8
 have f9:=blk_frozen n7 9
 have f10:=blk_frozen n7 10
 have f11:=blk_frozen n7 11
 have f12:=blk_frozen n7 12
 have f13:=blk_frozen n7 13
 clear q7 t7 T6 T7 b6 b7 n7 U7 HN6 HN7 HB HW6 HW0 HRW HCUT HEK hz0 hz3 hz4 hz5 hz6
 go_wp2_with fail
 have hrs:Tryz.f14.results=#[.cell 2 37,.tmp 3]:=by kernel_rfl
 refine bodyPost_ret (v:= .tuple #[rV r s5,.int .i64 0]) (by simp only[results,hrs];go_simp) rfl ?_
 obtain⟨k1,k2⟩:=HF.out _ (show Tch (fun i=>i=w.heap.size) w7 _ from(((((((((((((Tch.setCell (fun i=>i=w.heap.size) w7 ⟨w.heap.size,0,none⟩ _ rfl).setCellR ⟨w.heap.size,1,none⟩ _ rfl).setCellR ⟨w.heap.size,2,none⟩ _ rfl).setCellR ⟨w.heap.size,3,none⟩ _ rfl).setCellR ⟨w.heap.size,4,none⟩ _ rfl).setCellR ⟨w.heap.size,5,none⟩ _ rfl).setCellR ⟨w.heap.size,6,none⟩ _ rfl).setCellR ⟨w.heap.size,7,none⟩ _ rfl).setCellR ⟨w.heap.size,8,none⟩ _ rfl).setCellR ⟨w.heap.size,9,none⟩ _ rfl).setCellR ⟨w.heap.size,10,none⟩ _ rfl).setCellR ⟨w.heap.size,11,none⟩ _ rfl).setCellR ⟨w.heap.size,12,none⟩ _ rfl).setCellR ⟨w.heap.size,13,none⟩ _ rfl)
 exact⟨s5,rfl,k1,k2,HCO.out⟩
theorem decode_2 (r:Rc) (S:ByteArray) (w:World) (hS:S=⟨(recL r).toArray⟩) (hsz:S.size≤281474976710656) (hg:HE w) (hk:cls r.k=2) (hr:rightC 2 r) (hc:cutC 2 r=r) (ho: ∀v∈r.o,v.i64) (hn: ∀v∈r.n,v.i64):Calls Tryz.prog 14 #[.string S] w fun x w'=>DcOut r w x w':=by
 have hkr:1≤r.k∧r.k≤15:=by
  rcases cls_rng r.k with h1|h1
  ·rw[hk] at h1;cases h1
  ·exact⟨h1.1,h1.2.1⟩
 have hgl:1<w.heap.size:=cell_lt hg
 have HBY:Hid (byteR S 0 0=(r.k.toNat,1,0)):=by show _=_;rw[hS];exact recL_byte hkr
 have HTK:Hid ((tkC S r.k 2 (1,0)).1=r):=by
  show _=_
  have:=recL_take (by rw[hk];exact hr) (by rw[hk];exact hc) ho hn
  rw[hk, ←hS] at this;exact this
 obtain⟨w0,hw0⟩: ∃w0,w0=w.alloc (.cells #[.int .i64 0,.int .i64 0,.int .i64 0,.int .i64 0,.slice none 0 0,.slice none 0 0,.string ⟨#[]⟩,.int .i64 0,.int .i64 0,.int .i64 0,.string ⟨#[]⟩,.slice none 0 0,.int .i64 0,.slice none 0 0] 37):=⟨_,rfl⟩
 have t0:Tch (fun _=>False) w w0:=by rw[hw0];exact Tch.alloc _ _ _
 have b0:w0.heap[w.heap.size]? =some (.cells #[.int .i64 0,.int .i64 0,.int .i64 0,.int .i64 0,.slice none 0 0,.slice none 0 0,.string ⟨#[]⟩,.int .i64 0,.int .i64 0,.int .i64 0,.string ⟨#[]⟩,.slice none 0 0,.int .i64 0,.slice none 0 0] 37 (0,0)):=by rw[hw0];exact heap_new w _
 have q1:=newReader_any S w0
 rw[hw0] at q1
 have HW0:Hid (w0=w.alloc (.cells #[.int .i64 0,.int .i64 0,.int .i64 0,.int .i64 0,.slice none 0 0,.slice none 0 0,.string ⟨#[]⟩,.int .i64 0,.int .i64 0,.int .i64 0,.string ⟨#[]⟩,.slice none 0 0,.int .i64 0,.slice none 0 0] 37)):=hw0
 have HB:Hid (∀W,Tch (fun i=>w.heap.size<i) w0 W→W.heap[w.heap.size]? =some (.cells #[.int .i64 0,.int .i64 0,.int .i64 0,.int .i64 0,.slice none 0 0,.slice none 0 0,.string ⟨#[]⟩,.int .i64 0,.int .i64 0,.int .i64 0,.string ⟨#[]⟩,.slice none 0 0,.int .i64 0,.slice none 0 0] 37 (0,0))∧HE W∧Tch (fun _=>False) w W):=fun W t=>
  ⟨(t.block _ (blk_lt b0) (by omega)).trans b0,(hg.tch t0 (fun h=>h)).tch t (by omega),(t0.mono (fun _ _ h=>h.elim)).trans t (fun i hi h=>by omega)⟩
 have HENC:Hid (∀W F s,HE W→RW W F r s→Calls Tryz.prog 13 #[rV r s] W fun x w'=>x= .returned (.tuple #[.string S,.int .i64 0])∧Tch (fun _=>False) W w'):=fun W F s h1 h2=>by
  rw[hS]
  exact encode_ok r s F W h1 h2 (by rw[hk];exact hr) (by rw[hk];exact hc)
 have HRW:Hid (∀W base s,RN W base r s→RW W (fun i=>i<base) r s):=fun W base s h=>h.rw ho hn
 have HCUT:Hid (cutC 2 r=r):=hc
 have HRO:Hid (∀s W,Calls Tryz.prog 37 #[.int .i64 r.k,bV 2 r s] W fun x w'=>x= .returned (rV r (cutS 2 s))∧Tch (fun _=>False) W w'):=fun s W=>by
  have:=recordOf_2 r s W
  rw[hc] at this;exact this
 have m1: ∀(v:Array Value) (W:World),(method 381 130 (.agg v) "confluence/record.take").run Tryz.prog W= .ok (194,.agg v) W:=fun v W=>by kernel_rfl
 have hz0:w0.heap.size=w.heap.size+1:=by rw[hw0];simp
 have HBO:Hid (∀W,Calls Tryz.prog 36 #[rV (rc0 r.k) sk0] W fun x w'=>x= .returned (.iface 130 (.agg #[.int .i64 0,.int .i64 0]))∧Tch (fun _=>False) W w'):=fun W=>by
  have q:=bodyOf_any (rc0 r.k) sk0 W
  have e:cls (rc0 r.k).k=2:=hk
  rw[e] at q
  exact q
 have ek:((r.k.toNat:Nat):Int)=r.k:=by omega
 have HEK:Hid (((r.k.toNat:Nat):Int)=r.k):=ek
 have ess:(S.toList==S.toList)=true:=by simp
 clear hg hk hr hc ho hn hw0 t0 b0 hS ek
 go_enter Tryz.func14,Tryz.ntmps14
 go_wp2_with fail
 refine q1.mono ?_
 rintro x w1 ⟨rfl,h1,t1,z1⟩
 rw[←HW0.out,hz0] at h1
 rw[←HW0.out] at t1 z1
 clear q1
 have T1:Tch (fun i=>w.heap.size<i) w0 w1:=t1.mono (fun _ _ h=>h.elim)
 have q2:=rbyte_any (w.heap.size+1) S 0 0 w1 h1 hsz
 rw[HBY.out] at q2
 simp only[HEK.out] at q2
 go_wp2_with fail
 refine q2.mono ?_
 rintro x w2 ⟨rfl,h2,t2⟩
 clear q2
 have T2:Tch (fun i=>w.heap.size<i) w0 w2:=T1.trans' (t2.mono (fun i _ h=>by omega))
 go_wp2_with fail
 refine(HBO.out w2).mono ?_
 rintro x w3 ⟨rfl,t3⟩
 have h3:=RD.no h2 t3
 have T3:Tch (fun i=>w.heap.size<i) w0 w3:=T2.trans' (t3.mono (fun _ _ h=>h.elim))
 have q4:=take_2 (w.heap.size+1) S r.k 1 0 w3 h3 (HB.out w3 T3).2.1 (by omega) hsz
 have hz3:w0.heap.size+1≤w3.heap.size:=by
  have:=t1.size;have:=t2.size;have:=t3.size;omega
 clear h1 h2 t1 t2 t3 T1 T2 z1
 go_wp2_with fail
 refine q4.mono ?_
 rintro x w4 ⟨⟨s,rfl,hN⟩, -,t4⟩
 rw[HTK.out] at hN ⊢
 clear q4 h3
 have T4:Tch (fun i=>w.heap.size<i) w0 w4:=T3.trans' (t4.mono (fun i _ h=>by omega))
 have hz4:=t4.size
 have q5:=HRO.out s w4
 have HN4:Hid (RN w4 w3.heap.size r s):=hN
 clear hN
 generalize hbv:bV 2 r s=BV at q5 ⊢
 clear hbv
 go_wp2_with fail
 refine q5.mono ?_
 rintro x w5 ⟨rfl,t5⟩
 clear q5
 have T5:Tch (fun i=>w.heap.size<i) w0 w5:=T4.trans' (t5.mono (fun _ _ h=>h.elim))
 have HN5:Hid (RN w5 w3.heap.size r (cutS 2 s)):=by
  have:=(HN4.out.tch t5 (fun _ _ _ h=>h)).cut 2
  rw[HCUT.out] at this;exact this
 have hz5:=t5.size
 clear HN4
 obtain⟨s5,hs5⟩: ∃s5,s5=cutS 2 s:=⟨_,rfl⟩
 have HCO:Hid (s5.co=none∨s5.P=[]):=by rw[hs5];first|exact Or.inl rfl|exact Or.inr rfl
 rw[←hs5] at HN5 ⊢
 clear hs5 t5 t4 T3 T4
 obtain⟨w6,hw6⟩: ∃w6,w6=w5.alloc (.cells #[.int .i64 r.k,.int .i64 r.x,.int .i64 r.p,.int .i64 r.t,.slice s5.oo r.o.length s5.oc,.slice s5.no r.n.length s5.nc,.string r.nm,.int .i64 r.org,.int .i64 r.tb.id,.int .i64 r.tb.ver,.string r.tb.nm,.slice s5.co r.tb.cols.length s5.cc,.int .i64 r.tb.key,.slice s5.to s5.P.length s5.tc] 37):=⟨_,rfl⟩
 have t6:Tch (fun _=>False) w5 w6:=by rw[hw6];exact Tch.alloc _ _ _
 have b6:w6.heap[w5.heap.size]? =some (.cells #[.int .i64 r.k,.int .i64 r.x,.int .i64 r.p,.int .i64 r.t,.slice s5.oo r.o.length s5.oc,.slice s5.no r.n.length s5.nc,.string r.nm,.int .i64 r.org,.int .i64 r.tb.id,.int .i64 r.tb.ver,.string r.tb.nm,.slice s5.co r.tb.cols.length s5.cc,.int .i64 r.tb.key,.slice s5.to s5.P.length s5.tc] 37 (0,0)):=by rw[hw6];exact heap_new w5 _
 have T6:Tch (fun i=>w.heap.size<i) w0 w6:=T5.trans' (t6.mono (fun _ _ h=>h.elim))
 have HN6:Hid (RN w6 w3.heap.size r s5):=HN5.out.tch t6 (fun _ _ _ h=>h)
 have q7:=HENC.out w6 _ s5 (HB.out w6 T6).2.1 (HRW.out w6 _ s5 HN6.out)
 rw[hw6] at q7
 have HW6:Hid (w6=w5.alloc (.cells #[.int .i64 r.k,.int .i64 r.x,.int .i64 r.p,.int .i64 r.t,.slice s5.oo r.o.length s5.oc,.slice s5.no r.n.length s5.nc,.string r.nm,.int .i64 r.org,.int .i64 r.tb.id,.int .i64 r.tb.ver,.string r.tb.nm,.slice s5.co r.tb.cols.length s5.cc,.int .i64 r.tb.key,.slice s5.to s5.P.length s5.tc] 37)):=hw6
 have hz6:=t6.size
 clear hw6 t6 T5 HN5 HBO HRO HENC HTK HBY
 go_wp2_with fail
 refine q7.mono ?_
 rintro x w7 ⟨rfl,t7⟩
 rw[←HW6.out] at t7
 have T7:Tch (fun i=>w.heap.size<i) w0 w7:=T6.trans' (t7.mono (fun _ _ h=>h.elim))
 have b7:w7.heap[w5.heap.size]? =some (.cells #[.int .i64 r.k,.int .i64 r.x,.int .i64 r.p,.int .i64 r.t,.slice s5.oo r.o.length s5.oc,.slice s5.no r.n.length s5.nc,.string r.nm,.int .i64 r.org,.int .i64 r.tb.id,.int .i64 r.tb.ver,.string r.tb.nm,.slice s5.co r.tb.cols.length s5.cc,.int .i64 r.tb.key,.slice s5.to s5.P.length s5.tc] 37 (0,0)):=(t7.block _ (blk_lt b6) (fun h=>h)).trans b6
 obtain⟨n7, -,U7⟩:=HB.out w7 T7
 have HN7:Hid (RN w7 w3.heap.size r s5):=HN6.out.tch t7 (fun _ _ _ h=>h)
 have HF:Hid (∀W,Tch (fun i=>i=w.heap.size) w7 W→RN W w.heap.size r s5∧Tch (fun _=>False) w W):=fun W t=>
  ⟨(HN7.out.tch t (fun i h1 _ h2=>by omega)).low (by omega),U7.trans t (fun i hi h=>by omega)⟩
 have y0:=blk_cell b7 0
 have y1:=blk_cell b7 1
 have y2:=blk_cell b7 2
 have y3:=blk_cell b7 3
 have y4:=blk_cell b7 4
 have y5:=blk_cell b7 5
 have y6:=blk_cell b7 6
 have y7:=blk_cell b7 7
 have y8:=blk_cell b7 8
 have y9:=blk_cell b7 9
 have y10:=blk_cell b7 10
 have y11:=blk_cell b7 11
 have y12:=blk_cell b7 12
 have y13:=blk_cell b7 13
 simp only[List.getElem?_toArray,List.getElem?_cons_succ,List.getElem?_cons_zero] at y0 y1 y2 y3 y4 y5 y6 y7 y8 y9 y10 y11 y12 y13
 have z0:=blk_cell n7 0
 have z1:=blk_cell n7 1
 have z2:=blk_cell n7 2
 have z3:=blk_cell n7 3
 have z4:=blk_cell n7 4
 have z5:=blk_cell n7 5
 have z6:=blk_cell n7 6
 have z7:=blk_cell n7 7
 have z8:=blk_cell n7 8
 have z9:=blk_cell n7 9
 have z10:=blk_cell n7 10
 have z11:=blk_cell n7 11
 have z12:=blk_cell n7 12
 have z13:=blk_cell n7 13
 simp only[List.getElem?_toArray,List.getElem?_cons_succ,List.getElem?_cons_zero] at z0 z1 z2 z3 z4 z5 z6 z7 z8 z9 z10 z11 z12 z13
 have f0:=blk_frozen n7 0
 have f1:=blk_frozen n7 1
 have f2:=blk_frozen n7 2
 have f3:=blk_frozen n7 3
 have f4:=blk_frozen n7 4
 have f5:=blk_frozen n7 5
 have f6:=blk_frozen n7 6
 have f7:=blk_frozen n7 7
 have f8:=blk_frozen n7 8
 have f9:=blk_frozen n7 9
 have f10:=blk_frozen n7 10
 have f11:=blk_frozen n7 11
 have f12:=blk_frozen n7 12
 have f13:=blk_frozen n7 13
 clear q7 t7 T6 T7 b6 b7 n7 U7 HN6 HN7 HB HW6 HW0 HRW HCUT HEK hz0 hz3 hz4 hz5 hz6
 go_wp2_with fail
 have hrs:Tryz.f14.results=#[.cell 2 37,.tmp 3]:=by kernel_rfl
 refine bodyPost_ret (v:= .tuple #[rV r s5,.int .i64 0]) (by simp only[results,hrs];go_simp) rfl ?_
 obtain⟨k1,k2⟩:=HF.out _ (show Tch (fun i=>i=w.heap.size) w7 _ from(((((((((((((Tch.setCell (fun i=>i=w.heap.size) w7 ⟨w.heap.size,0,none⟩ _ rfl).setCellR ⟨w.heap.size,1,none⟩ _ rfl).setCellR ⟨w.heap.size,2,none⟩ _ rfl).setCellR ⟨w.heap.size,3,none⟩ _ rfl).setCellR ⟨w.heap.size,4,none⟩ _ rfl).setCellR ⟨w.heap.size,5,none⟩ _ rfl).setCellR ⟨w.heap.size,6,none⟩ _ rfl).setCellR ⟨w.heap.size,7,none⟩ _ rfl).setCellR ⟨w.heap.size,8,none⟩ _ rfl).setCellR ⟨w.heap.size,9,none⟩ _ rfl).setCellR ⟨w.heap.size,10,none⟩ _ rfl).setCellR ⟨w.heap.size,11,none⟩ _ rfl).setCellR ⟨w.heap.size,12,none⟩ _ rfl).setCellR ⟨w.heap.size,13,none⟩ _ rfl)
 exact⟨s5,rfl,k1,k2,HCO.out⟩
theorem decode_3 (r:Rc) (S:ByteArray) (w:World) (hS:S=⟨(recL r).toArray⟩) (hsz:S.size≤281474976710656) (hg:HE w) (hk:cls r.k=3) (hr:rightC 3 r) (hc:cutC 3 r=r) (ho: ∀v∈r.o,v.i64) (hn: ∀v∈r.n,v.i64):Calls Tryz.prog 14 #[.string S] w fun x w'=>DcOut r w x w':=by
 have hkr:1≤r.k∧r.k≤15:=by
  rcases cls_rng r.k with h1|h1
  ·rw[hk] at h1;cases h1
  ·exact⟨h1.1,h1.2.1⟩
 have hgl:1<w.heap.size:=cell_lt hg
 have HBY:Hid (byteR S 0 0=(r.k.toNat,1,0)):=by show _=_;rw[hS];exact recL_byte hkr
 have HTK:Hid ((tkC S r.k 3 (1,0)).1=r):=by
  show _=_
  have:=recL_take (by rw[hk];exact hr) (by rw[hk];exact hc) ho hn
  rw[hk, ←hS] at this;exact this
 obtain⟨w0,hw0⟩: ∃w0,w0=w.alloc (.cells #[.int .i64 0,.int .i64 0,.int .i64 0,.int .i64 0,.slice none 0 0,.slice none 0 0,.string ⟨#[]⟩,.int .i64 0,.int .i64 0,.int .i64 0,.string ⟨#[]⟩,.slice none 0 0,.int .i64 0,.slice none 0 0] 37):=⟨_,rfl⟩
 have t0:Tch (fun _=>False) w w0:=by rw[hw0];exact Tch.alloc _ _ _
 have b0:w0.heap[w.heap.size]? =some (.cells #[.int .i64 0,.int .i64 0,.int .i64 0,.int .i64 0,.slice none 0 0,.slice none 0 0,.string ⟨#[]⟩,.int .i64 0,.int .i64 0,.int .i64 0,.string ⟨#[]⟩,.slice none 0 0,.int .i64 0,.slice none 0 0] 37 (0,0)):=by rw[hw0];exact heap_new w _
 have q1:=newReader_any S w0
 rw[hw0] at q1
 have HW0:Hid (w0=w.alloc (.cells #[.int .i64 0,.int .i64 0,.int .i64 0,.int .i64 0,.slice none 0 0,.slice none 0 0,.string ⟨#[]⟩,.int .i64 0,.int .i64 0,.int .i64 0,.string ⟨#[]⟩,.slice none 0 0,.int .i64 0,.slice none 0 0] 37)):=hw0
 have HB:Hid (∀W,Tch (fun i=>w.heap.size<i) w0 W→W.heap[w.heap.size]? =some (.cells #[.int .i64 0,.int .i64 0,.int .i64 0,.int .i64 0,.slice none 0 0,.slice none 0 0,.string ⟨#[]⟩,.int .i64 0,.int .i64 0,.int .i64 0,.string ⟨#[]⟩,.slice none 0 0,.int .i64 0,.slice none 0 0] 37 (0,0))∧HE W∧Tch (fun _=>False) w W):=fun W t=>
  ⟨(t.block _ (blk_lt b0) (by omega)).trans b0,(hg.tch t0 (fun h=>h)).tch t (by omega),(t0.mono (fun _ _ h=>h.elim)).trans t (fun i hi h=>by omega)⟩
 have HENC:Hid (∀W F s,HE W→RW W F r s→Calls Tryz.prog 13 #[rV r s] W fun x w'=>x= .returned (.tuple #[.string S,.int .i64 0])∧Tch (fun _=>False) W w'):=fun W F s h1 h2=>by
  rw[hS]
  exact encode_ok r s F W h1 h2 (by rw[hk];exact hr) (by rw[hk];exact hc)
 have HRW:Hid (∀W base s,RN W base r s→RW W (fun i=>i<base) r s):=fun W base s h=>h.rw ho hn
 have HCUT:Hid (cutC 3 r=r):=hc
 have HRO:Hid (∀s W,Calls Tryz.prog 37 #[.int .i64 r.k,bV 3 r s] W fun x w'=>x= .returned (rV r (cutS 3 s))∧Tch (fun _=>False) W w'):=fun s W=>by
  have:=recordOf_3 r s W
  rw[hc] at this;exact this
 have m1: ∀(v:Array Value) (W:World),(method 381 132 (.agg v) "confluence/record.take").run Tryz.prog W= .ok (197,.agg v) W:=fun v W=>by kernel_rfl
 have hz0:w0.heap.size=w.heap.size+1:=by rw[hw0];simp
 have HBO:Hid (∀W,Calls Tryz.prog 36 #[rV (rc0 r.k) sk0] W fun x w'=>x= .returned (.iface 132 (.agg #[.int .i64 0,.int .i64 0,.slice none 0 0]))∧Tch (fun _=>False) W w'):=fun W=>by
  have q:=bodyOf_any (rc0 r.k) sk0 W
  have e:cls (rc0 r.k).k=3:=hk
  rw[e] at q
  exact q
 have ek:((r.k.toNat:Nat):Int)=r.k:=by omega
 have HEK:Hid (((r.k.toNat:Nat):Int)=r.k):=ek
 have ess:(S.toList==S.toList)=true:=by simp
 clear hg hk hr hc ho hn hw0 t0 b0 hS ek
 go_enter Tryz.func14,Tryz.ntmps14
 go_wp2_with fail
 refine q1.mono ?_
 rintro x w1 ⟨rfl,h1,t1,z1⟩
 rw[←HW0.out,hz0] at h1
 rw[←HW0.out] at t1 z1
 clear q1
 have T1:Tch (fun i=>w.heap.size<i) w0 w1:=t1.mono (fun _ _ h=>h.elim)
 have q2:=rbyte_any (w.heap.size+1) S 0 0 w1 h1 hsz
 rw[HBY.out] at q2
 simp only[HEK.out] at q2
 go_wp2_with fail
 refine q2.mono ?_
 rintro x w2 ⟨rfl,h2,t2⟩
 clear q2
 have T2:Tch (fun i=>w.heap.size<i) w0 w2:=T1.trans' (t2.mono (fun i _ h=>by omega))
 go_wp2_with fail
 refine(HBO.out w2).mono ?_
 rintro x w3 ⟨rfl,t3⟩
 have h3:=RD.no h2 t3
 have T3:Tch (fun i=>w.heap.size<i) w0 w3:=T2.trans' (t3.mono (fun _ _ h=>h.elim))
 have q4:=take_3 (w.heap.size+1) S r.k 1 0 w3 h3 (HB.out w3 T3).2.1 (by omega) hsz
 have hz3:w0.heap.size+1≤w3.heap.size:=by
  have:=t1.size;have:=t2.size;have:=t3.size;omega
 clear h1 h2 t1 t2 t3 T1 T2 z1
 go_wp2_with fail
 refine q4.mono ?_
 rintro x w4 ⟨⟨s,rfl,hN⟩, -,t4⟩
 rw[HTK.out] at hN ⊢
 clear q4 h3
 have T4:Tch (fun i=>w.heap.size<i) w0 w4:=T3.trans' (t4.mono (fun i _ h=>by omega))
 have hz4:=t4.size
 have q5:=HRO.out s w4
 have HN4:Hid (RN w4 w3.heap.size r s):=hN
 clear hN
 generalize hbv:bV 3 r s=BV at q5 ⊢
 clear hbv
 go_wp2_with fail
 refine q5.mono ?_
 rintro x w5 ⟨rfl,t5⟩
 clear q5
 have T5:Tch (fun i=>w.heap.size<i) w0 w5:=T4.trans' (t5.mono (fun _ _ h=>h.elim))
 have HN5:Hid (RN w5 w3.heap.size r (cutS 3 s)):=by
  have:=(HN4.out.tch t5 (fun _ _ _ h=>h)).cut 3
  rw[HCUT.out] at this;exact this
 have hz5:=t5.size
 clear HN4
 obtain⟨s5,hs5⟩: ∃s5,s5=cutS 3 s:=⟨_,rfl⟩
 have HCO:Hid (s5.co=none∨s5.P=[]):=by rw[hs5];first|exact Or.inl rfl|exact Or.inr rfl
 rw[←hs5] at HN5 ⊢
 clear hs5 t5 t4 T3 T4
 obtain⟨w6,hw6⟩: ∃w6,w6=w5.alloc (.cells #[.int .i64 r.k,.int .i64 r.x,.int .i64 r.p,.int .i64 r.t,.slice s5.oo r.o.length s5.oc,.slice s5.no r.n.length s5.nc,.string r.nm,.int .i64 r.org,.int .i64 r.tb.id,.int .i64 r.tb.ver,.string r.tb.nm,.slice s5.co r.tb.cols.length s5.cc,.int .i64 r.tb.key,.slice s5.to s5.P.length s5.tc] 37):=⟨_,rfl⟩
 have t6:Tch (fun _=>False) w5 w6:=by rw[hw6];exact Tch.alloc _ _ _
 have b6:w6.heap[w5.heap.size]? =some (.cells #[.int .i64 r.k,.int .i64 r.x,.int .i64 r.p,.int .i64 r.t,.slice s5.oo r.o.length s5.oc,.slice s5.no r.n.length s5.nc,.string r.nm,.int .i64 r.org,.int .i64 r.tb.id,.int .i64 r.tb.ver,.string r.tb.nm,.slice s5.co r.tb.cols.length s5.cc,.int .i64 r.tb.key,.slice s5.to s5.P.length s5.tc] 37 (0,0)):=by rw[hw6];exact heap_new w5 _
 have T6:Tch (fun i=>w.heap.size<i) w0 w6:=T5.trans' (t6.mono (fun _ _ h=>h.elim))
 have HN6:Hid (RN w6 w3.heap.size r s5):=HN5.out.tch t6 (fun _ _ _ h=>h)
 have q7:=HENC.out w6 _ s5 (HB.out w6 T6).2.1 (HRW.out w6 _ s5 HN6.out)
 rw[hw6] at q7
 have HW6:Hid (w6=w5.alloc (.cells #[.int .i64 r.k,.int .i64 r.x,.int .i64 r.p,.int .i64 r.t,.slice s5.oo r.o.length s5.oc,.slice s5.no r.n.length s5.nc,.string r.nm,.int .i64 r.org,.int .i64 r.tb.id,.int .i64 r.tb.ver,.string r.tb.nm,.slice s5.co r.tb.cols.length s5.cc,.int .i64 r.tb.key,.slice s5.to s5.P.length s5.tc] 37)):=hw6
 have hz6:=t6.size
 clear hw6 t6 T5 HN5 HBO HRO HENC HTK HBY
 go_wp2_with fail
 refine q7.mono ?_
 rintro x w7 ⟨rfl,t7⟩
 rw[←HW6.out] at t7
 have T7:Tch (fun i=>w.heap.size<i) w0 w7:=T6.trans' (t7.mono (fun _ _ h=>h.elim))
 have b7:w7.heap[w5.heap.size]? =some (.cells #[.int .i64 r.k,.int .i64 r.x,.int .i64 r.p,.int .i64 r.t,.slice s5.oo r.o.length s5.oc,.slice s5.no r.n.length s5.nc,.string r.nm,.int .i64 r.org,.int .i64 r.tb.id,.int .i64 r.tb.ver,.string r.tb.nm,.slice s5.co r.tb.cols.length s5.cc,.int .i64 r.tb.key,.slice s5.to s5.P.length s5.tc] 37 (0,0)):=(t7.block _ (blk_lt b6) (fun h=>h)).trans b6
 obtain⟨n7, -,U7⟩:=HB.out w7 T7
 have HN7:Hid (RN w7 w3.heap.size r s5):=HN6.out.tch t7 (fun _ _ _ h=>h)
 have HF:Hid (∀W,Tch (fun i=>i=w.heap.size) w7 W→RN W w.heap.size r s5∧Tch (fun _=>False) w W):=fun W t=>
  ⟨(HN7.out.tch t (fun i h1 _ h2=>by omega)).low (by omega),U7.trans t (fun i hi h=>by omega)⟩
 have y0:=blk_cell b7 0
 have y1:=blk_cell b7 1
 have y2:=blk_cell b7 2
 have y3:=blk_cell b7 3
 have y4:=blk_cell b7 4
 have y5:=blk_cell b7 5
 have y6:=blk_cell b7 6
 have y7:=blk_cell b7 7
 have y8:=blk_cell b7 8
 have y9:=blk_cell b7 9
 have y10:=blk_cell b7 10
 have y11:=blk_cell b7 11
 have y12:=blk_cell b7 12
 have y13:=blk_cell b7 13
 simp only[List.getElem?_toArray,List.getElem?_cons_succ,List.getElem?_cons_zero] at y0 y1 y2 y3 y4 y5 y6 y7 y8 y9 y10 y11 y12 y13
 have z0:=blk_cell n7 0
 have z1:=blk_cell n7 1
 have z2:=blk_cell n7 2
 have z3:=blk_cell n7 3
 have z4:=blk_cell n7 4
 have z5:=blk_cell n7 5
 have z6:=blk_cell n7 6
 have z7:=blk_cell n7 7
 have z8:=blk_cell n7 8
 have z9:=blk_cell n7 9
 have z10:=blk_cell n7 10
 have z11:=blk_cell n7 11
 have z12:=blk_cell n7 12
 have z13:=blk_cell n7 13
 simp only[List.getElem?_toArray,List.getElem?_cons_succ,List.getElem?_cons_zero] at z0 z1 z2 z3 z4 z5 z6 z7 z8 z9 z10 z11 z12 z13
 have f0:=blk_frozen n7 0
 have f1:=blk_frozen n7 1
 have f2:=blk_frozen n7 2
 have f3:=blk_frozen n7 3
 have f4:=blk_frozen n7 4
 have f5:=blk_frozen n7 5
 have f6:=blk_frozen n7 6
 have f7:=blk_frozen n7 7
 have f8:=blk_frozen n7 8
 have f9:=blk_frozen n7 9
 have f10:=blk_frozen n7 10
 have f11:=blk_frozen n7 11
 have f12:=blk_frozen n7 12
 have f13:=blk_frozen n7 13
 clear q7 t7 T6 T7 b6 b7 n7 U7 HN6 HN7 HB HW6 HW0 HRW HCUT HEK hz0 hz3 hz4 hz5 hz6
 go_wp2_with fail
 have hrs:Tryz.f14.results=#[.cell 2 37,.tmp 3]:=by kernel_rfl
 refine bodyPost_ret (v:= .tuple #[rV r s5,.int .i64 0]) (by simp only[results,hrs];go_simp) rfl ?_
 obtain⟨k1,k2⟩:=HF.out _ (show Tch (fun i=>i=w.heap.size) w7 _ from(((((((((((((Tch.setCell (fun i=>i=w.heap.size) w7 ⟨w.heap.size,0,none⟩ _ rfl).setCellR ⟨w.heap.size,1,none⟩ _ rfl).setCellR ⟨w.heap.size,2,none⟩ _ rfl).setCellR ⟨w.heap.size,3,none⟩ _ rfl).setCellR ⟨w.heap.size,4,none⟩ _ rfl).setCellR ⟨w.heap.size,5,none⟩ _ rfl).setCellR ⟨w.heap.size,6,none⟩ _ rfl).setCellR ⟨w.heap.size,7,none⟩ _ rfl).setCellR ⟨w.heap.size,8,none⟩ _ rfl).setCellR ⟨w.heap.size,9,none⟩ _ rfl).setCellR ⟨w.heap.size,10,none⟩ _ rfl).setCellR ⟨w.heap.size,11,none⟩ _ rfl).setCellR ⟨w.heap.size,12,none⟩ _ rfl).setCellR ⟨w.heap.size,13,none⟩ _ rfl)
 exact⟨s5,rfl,k1,k2,HCO.out⟩
theorem decode_4 (r:Rc) (S:ByteArray) (w:World) (hS:S=⟨(recL r).toArray⟩) (hsz:S.size≤281474976710656) (hg:HE w) (hk:cls r.k=4) (hr:rightC 4 r) (hc:cutC 4 r=r) (ho: ∀v∈r.o,v.i64) (hn: ∀v∈r.n,v.i64):Calls Tryz.prog 14 #[.string S] w fun x w'=>DcOut r w x w':=by
 have hkr:1≤r.k∧r.k≤15:=by
  rcases cls_rng r.k with h1|h1
  ·rw[hk] at h1;cases h1
  ·exact⟨h1.1,h1.2.1⟩
 have hgl:1<w.heap.size:=cell_lt hg
 have HBY:Hid (byteR S 0 0=(r.k.toNat,1,0)):=by show _=_;rw[hS];exact recL_byte hkr
 have HTK:Hid ((tkC S r.k 4 (1,0)).1=r):=by
  show _=_
  have:=recL_take (by rw[hk];exact hr) (by rw[hk];exact hc) ho hn
  rw[hk, ←hS] at this;exact this
 obtain⟨w0,hw0⟩: ∃w0,w0=w.alloc (.cells #[.int .i64 0,.int .i64 0,.int .i64 0,.int .i64 0,.slice none 0 0,.slice none 0 0,.string ⟨#[]⟩,.int .i64 0,.int .i64 0,.int .i64 0,.string ⟨#[]⟩,.slice none 0 0,.int .i64 0,.slice none 0 0] 37):=⟨_,rfl⟩
 have t0:Tch (fun _=>False) w w0:=by rw[hw0];exact Tch.alloc _ _ _
 have b0:w0.heap[w.heap.size]? =some (.cells #[.int .i64 0,.int .i64 0,.int .i64 0,.int .i64 0,.slice none 0 0,.slice none 0 0,.string ⟨#[]⟩,.int .i64 0,.int .i64 0,.int .i64 0,.string ⟨#[]⟩,.slice none 0 0,.int .i64 0,.slice none 0 0] 37 (0,0)):=by rw[hw0];exact heap_new w _
 have q1:=newReader_any S w0
 rw[hw0] at q1
 have HW0:Hid (w0=w.alloc (.cells #[.int .i64 0,.int .i64 0,.int .i64 0,.int .i64 0,.slice none 0 0,.slice none 0 0,.string ⟨#[]⟩,.int .i64 0,.int .i64 0,.int .i64 0,.string ⟨#[]⟩,.slice none 0 0,.int .i64 0,.slice none 0 0] 37)):=hw0
 have HB:Hid (∀W,Tch (fun i=>w.heap.size<i) w0 W→W.heap[w.heap.size]? =some (.cells #[.int .i64 0,.int .i64 0,.int .i64 0,.int .i64 0,.slice none 0 0,.slice none 0 0,.string ⟨#[]⟩,.int .i64 0,.int .i64 0,.int .i64 0,.string ⟨#[]⟩,.slice none 0 0,.int .i64 0,.slice none 0 0] 37 (0,0))∧HE W∧Tch (fun _=>False) w W):=fun W t=>
  ⟨(t.block _ (blk_lt b0) (by omega)).trans b0,(hg.tch t0 (fun h=>h)).tch t (by omega),(t0.mono (fun _ _ h=>h.elim)).trans t (fun i hi h=>by omega)⟩
 have HENC:Hid (∀W F s,HE W→RW W F r s→Calls Tryz.prog 13 #[rV r s] W fun x w'=>x= .returned (.tuple #[.string S,.int .i64 0])∧Tch (fun _=>False) W w'):=fun W F s h1 h2=>by
  rw[hS]
  exact encode_ok r s F W h1 h2 (by rw[hk];exact hr) (by rw[hk];exact hc)
 have HRW:Hid (∀W base s,RN W base r s→RW W (fun i=>i<base) r s):=fun W base s h=>h.rw ho hn
 have HCUT:Hid (cutC 4 r=r):=hc
 have HRO:Hid (∀s W,Calls Tryz.prog 37 #[.int .i64 r.k,bV 4 r s] W fun x w'=>x= .returned (rV r (cutS 4 s))∧Tch (fun _=>False) W w'):=fun s W=>by
  have:=recordOf_4 r s W
  rw[hc] at this;exact this
 have m1: ∀(v:Array Value) (W:World),(method 381 134 (.agg v) "confluence/record.take").run Tryz.prog W= .ok (212,.agg v) W:=fun v W=>by kernel_rfl
 have hz0:w0.heap.size=w.heap.size+1:=by rw[hw0];simp
 have HBO:Hid (∀W,Calls Tryz.prog 36 #[rV (rc0 r.k) sk0] W fun x w'=>x= .returned (.iface 134 (.agg #[.int .i64 0,.int .i64 0,.slice none 0 0,.slice none 0 0]))∧Tch (fun _=>False) W w'):=fun W=>by
  have q:=bodyOf_any (rc0 r.k) sk0 W
  have e:cls (rc0 r.k).k=4:=hk
  rw[e] at q
  exact q
 have ek:((r.k.toNat:Nat):Int)=r.k:=by omega
 have HEK:Hid (((r.k.toNat:Nat):Int)=r.k):=ek
 have ess:(S.toList==S.toList)=true:=by simp
 clear hg hk hr hc ho hn hw0 t0 b0 hS ek
 go_enter Tryz.func14,Tryz.ntmps14
 go_wp2_with fail
 refine q1.mono ?_
 rintro x w1 ⟨rfl,h1,t1,z1⟩
 rw[←HW0.out,hz0] at h1
 rw[←HW0.out] at t1 z1
 clear q1
 have T1:Tch (fun i=>w.heap.size<i) w0 w1:=t1.mono (fun _ _ h=>h.elim)
 have q2:=rbyte_any (w.heap.size+1) S 0 0 w1 h1 hsz
 rw[HBY.out] at q2
 simp only[HEK.out] at q2
 go_wp2_with fail
 refine q2.mono ?_
 rintro x w2 ⟨rfl,h2,t2⟩
 clear q2
 have T2:Tch (fun i=>w.heap.size<i) w0 w2:=T1.trans' (t2.mono (fun i _ h=>by omega))
 go_wp2_with fail
 refine(HBO.out w2).mono ?_
 rintro x w3 ⟨rfl,t3⟩
 have h3:=RD.no h2 t3
 have T3:Tch (fun i=>w.heap.size<i) w0 w3:=T2.trans' (t3.mono (fun _ _ h=>h.elim))
 have q4:=take_4 (w.heap.size+1) S r.k 1 0 w3 h3 (HB.out w3 T3).2.1 (by omega) hsz
 have hz3:w0.heap.size+1≤w3.heap.size:=by
  have:=t1.size;have:=t2.size;have:=t3.size;omega
 clear h1 h2 t1 t2 t3 T1 T2 z1
 go_wp2_with fail
 refine q4.mono ?_
 rintro x w4 ⟨⟨s,rfl,hN⟩, -,t4⟩
 rw[HTK.out] at hN ⊢
 clear q4 h3
 have T4:Tch (fun i=>w.heap.size<i) w0 w4:=T3.trans' (t4.mono (fun i _ h=>by omega))
 have hz4:=t4.size
 have q5:=HRO.out s w4
 have HN4:Hid (RN w4 w3.heap.size r s):=hN
 clear hN
 generalize hbv:bV 4 r s=BV at q5 ⊢
 clear hbv
 go_wp2_with fail
 refine q5.mono ?_
 rintro x w5 ⟨rfl,t5⟩
 clear q5
 have T5:Tch (fun i=>w.heap.size<i) w0 w5:=T4.trans' (t5.mono (fun _ _ h=>h.elim))
 have HN5:Hid (RN w5 w3.heap.size r (cutS 4 s)):=by
  have:=(HN4.out.tch t5 (fun _ _ _ h=>h)).cut 4
  rw[HCUT.out] at this;exact this
 have hz5:=t5.size
 clear HN4
 obtain⟨s5,hs5⟩: ∃s5,s5=cutS 4 s:=⟨_,rfl⟩
 have HCO:Hid (s5.co=none∨s5.P=[]):=by rw[hs5];first|exact Or.inl rfl|exact Or.inr rfl
 rw[←hs5] at HN5 ⊢
 clear hs5 t5 t4 T3 T4
 obtain⟨w6,hw6⟩: ∃w6,w6=w5.alloc (.cells #[.int .i64 r.k,.int .i64 r.x,.int .i64 r.p,.int .i64 r.t,.slice s5.oo r.o.length s5.oc,.slice s5.no r.n.length s5.nc,.string r.nm,.int .i64 r.org,.int .i64 r.tb.id,.int .i64 r.tb.ver,.string r.tb.nm,.slice s5.co r.tb.cols.length s5.cc,.int .i64 r.tb.key,.slice s5.to s5.P.length s5.tc] 37):=⟨_,rfl⟩
 have t6:Tch (fun _=>False) w5 w6:=by rw[hw6];exact Tch.alloc _ _ _
 have b6:w6.heap[w5.heap.size]? =some (.cells #[.int .i64 r.k,.int .i64 r.x,.int .i64 r.p,.int .i64 r.t,.slice s5.oo r.o.length s5.oc,.slice s5.no r.n.length s5.nc,.string r.nm,.int .i64 r.org,.int .i64 r.tb.id,.int .i64 r.tb.ver,.string r.tb.nm,.slice s5.co r.tb.cols.length s5.cc,.int .i64 r.tb.key,.slice s5.to s5.P.length s5.tc] 37 (0,0)):=by rw[hw6];exact heap_new w5 _
 have T6:Tch (fun i=>w.heap.size<i) w0 w6:=T5.trans' (t6.mono (fun _ _ h=>h.elim))
 have HN6:Hid (RN w6 w3.heap.size r s5):=HN5.out.tch t6 (fun _ _ _ h=>h)
 have q7:=HENC.out w6 _ s5 (HB.out w6 T6).2.1 (HRW.out w6 _ s5 HN6.out)
 rw[hw6] at q7
 have HW6:Hid (w6=w5.alloc (.cells #[.int .i64 r.k,.int .i64 r.x,.int .i64 r.p,.int .i64 r.t,.slice s5.oo r.o.length s5.oc,.slice s5.no r.n.length s5.nc,.string r.nm,.int .i64 r.org,.int .i64 r.tb.id,.int .i64 r.tb.ver,.string r.tb.nm,.slice s5.co r.tb.cols.length s5.cc,.int .i64 r.tb.key,.slice s5.to s5.P.length s5.tc] 37)):=hw6
 have hz6:=t6.size
 clear hw6 t6 T5 HN5 HBO HRO HENC HTK HBY
 go_wp2_with fail
 refine q7.mono ?_
 rintro x w7 ⟨rfl,t7⟩
 rw[←HW6.out] at t7
 have T7:Tch (fun i=>w.heap.size<i) w0 w7:=T6.trans' (t7.mono (fun _ _ h=>h.elim))
 have b7:w7.heap[w5.heap.size]? =some (.cells #[.int .i64 r.k,.int .i64 r.x,.int .i64 r.p,.int .i64 r.t,.slice s5.oo r.o.length s5.oc,.slice s5.no r.n.length s5.nc,.string r.nm,.int .i64 r.org,.int .i64 r.tb.id,.int .i64 r.tb.ver,.string r.tb.nm,.slice s5.co r.tb.cols.length s5.cc,.int .i64 r.tb.key,.slice s5.to s5.P.length s5.tc] 37 (0,0)):=(t7.block _ (blk_lt b6) (fun h=>h)).trans b6
 obtain⟨n7, -,U7⟩:=HB.out w7 T7
 have HN7:Hid (RN w7 w3.heap.size r s5):=HN6.out.tch t7 (fun _ _ _ h=>h)
 have HF:Hid (∀W,Tch (fun i=>i=w.heap.size) w7 W→RN W w.heap.size r s5∧Tch (fun _=>False) w W):=fun W t=>
  ⟨(HN7.out.tch t (fun i h1 _ h2=>by omega)).low (by omega),U7.trans t (fun i hi h=>by omega)⟩
 have y0:=blk_cell b7 0
 have y1:=blk_cell b7 1
 have y2:=blk_cell b7 2
 have y3:=blk_cell b7 3
 have y4:=blk_cell b7 4
 have y5:=blk_cell b7 5
 have y6:=blk_cell b7 6
 have y7:=blk_cell b7 7
 have y8:=blk_cell b7 8
 have y9:=blk_cell b7 9
 have y10:=blk_cell b7 10
 have y11:=blk_cell b7 11
 have y12:=blk_cell b7 12
 have y13:=blk_cell b7 13
 simp only[List.getElem?_toArray,List.getElem?_cons_succ,List.getElem?_cons_zero] at y0 y1 y2 y3 y4 y5 y6 y7 y8 y9 y10 y11 y12 y13
 have z0:=blk_cell n7 0
 have z1:=blk_cell n7 1
 have z2:=blk_cell n7 2
 have z3:=blk_cell n7 3
 have z4:=blk_cell n7 4
 have z5:=blk_cell n7 5
 have z6:=blk_cell n7 6
 have z7:=blk_cell n7 7
 have z8:=blk_cell n7 8
 have z9:=blk_cell n7 9
 have z10:=blk_cell n7 10
 have z11:=blk_cell n7 11
 have z12:=blk_cell n7 12
 have z13:=blk_cell n7 13
 simp only[List.getElem?_toArray,List.getElem?_cons_succ,List.getElem?_cons_zero] at z0 z1 z2 z3 z4 z5 z6 z7 z8 z9 z10 z11 z12 z13
 have f0:=blk_frozen n7 0
 have f1:=blk_frozen n7 1
 have f2:=blk_frozen n7 2
 have f3:=blk_frozen n7 3
 have f4:=blk_frozen n7 4
 have f5:=blk_frozen n7 5
 have f6:=blk_frozen n7 6
 have f7:=blk_frozen n7 7
 have f8:=blk_frozen n7 8
 have f9:=blk_frozen n7 9
 have f10:=blk_frozen n7 10
 have f11:=blk_frozen n7 11
 have f12:=blk_frozen n7 12
 have f13:=blk_frozen n7 13
 clear q7 t7 T6 T7 b6 b7 n7 U7 HN6 HN7 HB HW6 HW0 HRW HCUT HEK hz0 hz3 hz4 hz5 hz6
 go_wp2_with fail
 have hrs:Tryz.f14.results=#[.cell 2 37,.tmp 3]:=by kernel_rfl
 refine bodyPost_ret (v:= .tuple #[rV r s5,.int .i64 0]) (by simp only[results,hrs];go_simp) rfl ?_
 obtain⟨k1,k2⟩:=HF.out _ (show Tch (fun i=>i=w.heap.size) w7 _ from(((((((((((((Tch.setCell (fun i=>i=w.heap.size) w7 ⟨w.heap.size,0,none⟩ _ rfl).setCellR ⟨w.heap.size,1,none⟩ _ rfl).setCellR ⟨w.heap.size,2,none⟩ _ rfl).setCellR ⟨w.heap.size,3,none⟩ _ rfl).setCellR ⟨w.heap.size,4,none⟩ _ rfl).setCellR ⟨w.heap.size,5,none⟩ _ rfl).setCellR ⟨w.heap.size,6,none⟩ _ rfl).setCellR ⟨w.heap.size,7,none⟩ _ rfl).setCellR ⟨w.heap.size,8,none⟩ _ rfl).setCellR ⟨w.heap.size,9,none⟩ _ rfl).setCellR ⟨w.heap.size,10,none⟩ _ rfl).setCellR ⟨w.heap.size,11,none⟩ _ rfl).setCellR ⟨w.heap.size,12,none⟩ _ rfl).setCellR ⟨w.heap.size,13,none⟩ _ rfl)
 exact⟨s5,rfl,k1,k2,HCO.out⟩
end Go.Proofs.YtaiadknglhemaaaGreatDoor.C
