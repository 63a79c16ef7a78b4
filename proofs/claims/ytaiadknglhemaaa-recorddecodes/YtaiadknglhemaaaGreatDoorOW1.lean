import Derived.Test.YtaiadknglhemaaaGreatDoorRX3
import Derived.Test.YtaiadknglhemaaaGreatDoorRX6
import Derived.Test.YtaiadknglhemaaaGreatDoorRX9
import Derived.Test.YtaiadknglhemaaaGreatDoorRV3
import Derived.Deep.RegionHeld3
set_option maxHeartbeats 8000000
set_option maxRecDepth 1000000
namespace Go.Proofs.YtaiadknglhemaaaGreatDoor.C
open Go.RowKit Go Go.Sort
theorem decodeN_10 (k:Int) (S:ByteArray) (w:World) (hby:byteR S 0 0=(k.toNat,1,0)) (hkr:1≤k∧k≤15) (hk:cls k=10) (hno: ∀r, ¬Says S r) (hsz:S.size≤281474976710656) (hg:HE w):Calls Tryz.prog 14 #[.string S] w fun x w'=>x= .returned (.tuple #[rV (rc0 0) sk0,.int .i64 62])∧Tch (fun _=>False) w w':=by
 obtain⟨r,hr⟩: ∃r,r=(tkC S k 10 (1,0)).1:=⟨_,rfl⟩
 have hrk:r.k=k:=by rw[hr];exact tkC_k _ _ _ _
 have hc:cutC 10 r=r:=by rw[hr];exact tkC_cut _ _ _ _
 have ho: ∀v∈r.o,v.i64:=by rw[hr];exact tkC_o _ _ _ _
 have hn: ∀v∈r.n,v.i64:=by rw[hr];exact tkC_n _ _ _ _
 have hgl:1<w.heap.size:=cell_lt hg
 have HBY:Hid (byteR S 0 0=(k.toNat,1,0)):=hby
 have HTK:Hid ((tkC S k 10 (1,0)).1=r):=hr.symm
 have hcl:cls r.k≠0:=by rw[hrk,hk];omega
 obtain⟨ES,hES⟩: ∃ES,ES=encS r:=⟨_,rfl⟩
 obtain⟨EI,hEI⟩: ∃EI,EI=encI r:=⟨_,rfl⟩
 have hE2:EI=61∨EI=0∧(ES.toList==S.toList)=false:=by
  rcases encI_two r hcl with e|e
  ·refine .inr ⟨by rw[hEI];exact e,?_⟩
   refine bs_ne (fun e4=>?_)
   exact hno r (enc_says e (by rw[←hES];exact e4) hcl ho hn)
  ·exact .inl (by rw[hEI];exact e)
 have HE2:Hid (EI=61∨EI=0∧(ES.toList==S.toList)=false):=hE2
 obtain⟨w0,hw0⟩: ∃w0,w0=w.alloc (.cells #[.int .i64 0,.int .i64 0,.int .i64 0,.int .i64 0,.slice none 0 0,.slice none 0 0,.string ⟨#[]⟩,.int .i64 0,.int .i64 0,.int .i64 0,.string ⟨#[]⟩,.slice none 0 0,.int .i64 0,.slice none 0 0] 37):=⟨_,rfl⟩
 have t0:Tch (fun _=>False) w w0:=by rw[hw0];exact Tch.alloc _ _ _
 have b0:w0.heap[w.heap.size]? =some (.cells #[.int .i64 0,.int .i64 0,.int .i64 0,.int .i64 0,.slice none 0 0,.slice none 0 0,.string ⟨#[]⟩,.int .i64 0,.int .i64 0,.int .i64 0,.string ⟨#[]⟩,.slice none 0 0,.int .i64 0,.slice none 0 0] 37 (0,0)):=by rw[hw0];exact heap_new w _
 have q1:=newReader_any S w0
 rw[hw0] at q1
 have HW0:Hid (w0=w.alloc (.cells #[.int .i64 0,.int .i64 0,.int .i64 0,.int .i64 0,.slice none 0 0,.slice none 0 0,.string ⟨#[]⟩,.int .i64 0,.int .i64 0,.int .i64 0,.string ⟨#[]⟩,.slice none 0 0,.int .i64 0,.slice none 0 0] 37)):=hw0
 have HB:Hid (∀W,Tch (fun i=>w.heap.size<i) w0 W→W.heap[w.heap.size]? =some (.cells #[.int .i64 0,.int .i64 0,.int .i64 0,.int .i64 0,.slice none 0 0,.slice none 0 0,.string ⟨#[]⟩,.int .i64 0,.int .i64 0,.int .i64 0,.string ⟨#[]⟩,.slice none 0 0,.int .i64 0,.slice none 0 0] 37 (0,0))∧HE W∧Tch (fun _=>False) w W):=fun W t=>
  ⟨(t.block _ (blk_lt b0) (by omega)).trans b0,(hg.tch t0 (fun h=>h)).tch t (by omega),(t0.mono (fun _ _ h=>h.elim)).trans t (fun i hi h=>by omega)⟩
 have HENC:Hid (∀W F s,HE W→RW W F r s→Calls Tryz.prog 13 #[rV r s] W fun x w'=>x= .returned (.tuple #[.string ES,.int .i64 EI])∧Tch (fun _=>False) W w'):=fun W F s h1 h2=>by
  rw[hES,hEI]
  exact encode_all r s F W h1 h2
 have HRW:Hid (∀W base s,RN W base r s→RW W (fun i=>i<base) r s):=fun W base s h=>h.rw ho hn
 have HCUT:Hid (cutC 10 r=r):=hc
 have HRO:Hid (∀s W,Calls Tryz.prog 37 #[.int .i64 k,bV 10 r s] W fun x w'=>x= .returned (rV r (cutS 10 s))∧Tch (fun _=>False) W w'):=fun s W=>by
  have:=recordOf_10 r s W
  rw[hc,hrk] at this;exact this
 have m1: ∀(v:Array Value) (W:World),(method 381 145 (.agg v) "confluence/record.take").run Tryz.prog W= .ok (236,.agg v) W:=fun v W=>by kernel_rfl
 have hz0:w0.heap.size=w.heap.size+1:=by rw[hw0];simp
 have HBO:Hid (∀W,Calls Tryz.prog 36 #[rV (rc0 k) sk0] W fun x w'=>x= .returned (.iface 145 (.agg #[.int .i64 0,.int .i64 0,.slice none 0 0]))∧Tch (fun _=>False) W w'):=fun W=>by
  have q:=bodyOf_any (rc0 k) sk0 W
  have e:cls (rc0 k).k=10:=hk
  rw[e] at q
  exact q
 have ek:((k.toNat:Nat):Int)=k:=by omega
 have HEK:Hid (((k.toNat:Nat):Int)=k):=ek
 clear hg hk hr hc ho hn hw0 t0 b0 ek hrk hno hby hcl hES hEI hE2
 go_enter Tryz.func14,Tryz.ntmps14
 go_wp2_with fail
 refine q1.mono ?_
 rintro x w1 ⟨rfl,h1,t1,z1⟩
 rw[←HW0.out,hz0] at h1
 rw[←HW0.out] at t1 z1
 clear q1
 have T1:Tch (fun i=>w.heap.size<i) w0 w1:=t1.mono (fun _ _ h=>h.elim)
 have q2:=rbyte_any (w.heap.size+1) S 0 0 w1 h1 hsz
 rw[HBY.out] at q2
 simp only[HEK.out] at q2
 go_wp2_with fail
 refine q2.mono ?_
 rintro x w2 ⟨rfl,h2,t2⟩
 clear q2
 have T2:Tch (fun i=>w.heap.size<i) w0 w2:=T1.trans' (t2.mono (fun i _ h=>by omega))
 go_wp2_with fail
 refine(HBO.out w2).mono ?_
 rintro x w3 ⟨rfl,t3⟩
 have h3:=RD.no h2 t3
 have T3:Tch (fun i=>w.heap.size<i) w0 w3:=T2.trans' (t3.mono (fun _ _ h=>h.elim))
 have q4:=take_10 (w.heap.size+1) S k 1 0 w3 h3 (HB.out w3 T3).2.1 (by omega) hsz
 have hz3:w0.heap.size+1≤w3.heap.size:=by
  have:=t1.size;have:=t2.size;have:=t3.size;omega
 clear h1 h2 t1 t2 t3 T1 T2 z1
 go_wp2_with fail
 refine q4.mono ?_
 rintro x w4 ⟨⟨s,rfl,hN⟩, -,t4⟩
 rw[HTK.out] at hN ⊢
 clear q4 h3
 have T4:Tch (fun i=>w.heap.size<i) w0 w4:=T3.trans' (t4.mono (fun i _ h=>by omega))
 have hz4:=t4.size
 have q5:=HRO.out s w4
 have HN4:Hid (RN w4 w3.heap.size r s):=hN
 clear hN
 generalize hbv:bV 10 r s=BV at q5 ⊢
 clear hbv
 go_wp2_with fail
 refine q5.mono ?_
 rintro x w5 ⟨rfl,t5⟩
 clear q5
 have T5:Tch (fun i=>w.heap.size<i) w0 w5:=T4.trans' (t5.mono (fun _ _ h=>h.elim))
 have HN5:Hid (RN w5 w3.heap.size r (cutS 10 s)):=by
  have:=(HN4.out.tch t5 (fun _ _ _ h=>h)).cut 10
  rw[HCUT.out] at this;exact this
 have hz5:=t5.size
 clear HN4
 obtain⟨s5,hs5⟩: ∃s5,s5=cutS 10 s:=⟨_,rfl⟩
 rw[←hs5] at HN5 ⊢
 clear hs5 t5 t4 T3 T4
 obtain⟨w6,hw6⟩: ∃w6,w6=w5.alloc (.cells #[.int .i64 r.k,.int .i64 r.x,.int .i64 r.p,.int .i64 r.t,.slice s5.oo r.o.length s5.oc,.slice s5.no r.n.length s5.nc,.string r.nm,.int .i64 r.org,.int .i64 r.tb.id,.int .i64 r.tb.ver,.string r.tb.nm,.slice s5.co r.tb.cols.length s5.cc,.int .i64 r.tb.key,.slice s5.to s5.P.length s5.tc] 37):=⟨_,rfl⟩
 have t6:Tch (fun _=>False) w5 w6:=by rw[hw6];exact Tch.alloc _ _ _
 have b6:w6.heap[w5.heap.size]? =some (.cells #[.int .i64 r.k,.int .i64 r.x,.int .i64 r.p,.int .i64 r.t,.slice s5.oo r.o.length s5.oc,.slice s5.no r.n.length s5.nc,.string r.nm,.int .i64 r.org,.int .i64 r.tb.id,.int .i64 r.tb.ver,.string r.tb.nm,.slice s5.co r.tb.cols.length s5.cc,.int .i64 r.tb.key,.slice s5.to s5.P.length s5.tc] 37 (0,0)):=by rw[hw6];exact heap_new w5 _
 have T6:Tch (fun i=>w.heap.size<i) w0 w6:=T5.trans' (t6.mono (fun _ _ h=>h.elim))
 have HN6:Hid (RN w6 w3.heap.size r s5):=HN5.out.tch t6 (fun _ _ _ h=>h)
 have q7:=HENC.out w6 _ s5 (HB.out w6 T6).2.1 (HRW.out w6 _ s5 HN6.out)
 rw[hw6] at q7
 have HW6:Hid (w6=w5.alloc (.cells #[.int .i64 r.k,.int .i64 r.x,.int .i64 r.p,.int .i64 r.t,.slice s5.oo r.o.length s5.oc,.slice s5.no r.n.length s5.nc,.string r.nm,.int .i64 r.org,.int .i64 r.tb.id,.int .i64 r.tb.ver,.string r.tb.nm,.slice s5.co r.tb.cols.length s5.cc,.int .i64 r.tb.key,.slice s5.to s5.P.length s5.tc] 37)):=hw6
 have hz6:=t6.size
 clear hw6 t6 T5 HN5 HBO HRO HENC HTK HBY
 go_wp2_with fail
 refine q7.mono ?_
 rintro x w7 ⟨rfl,t7⟩
 rw[←HW6.out] at t7
 have T7:Tch (fun i=>w.heap.size<i) w0 w7:=T6.trans' (t7.mono (fun _ _ h=>h.elim))
 have b7:w7.heap[w5.heap.size]? =some (.cells #[.int .i64 r.k,.int .i64 r.x,.int .i64 r.p,.int .i64 r.t,.slice s5.oo r.o.length s5.oc,.slice s5.no r.n.length s5.nc,.string r.nm,.int .i64 r.org,.int .i64 r.tb.id,.int .i64 r.tb.ver,.string r.tb.nm,.slice s5.co r.tb.cols.length s5.cc,.int .i64 r.tb.key,.slice s5.to s5.P.length s5.tc] 37 (0,0)):=(t7.block _ (blk_lt b6) (fun h=>h)).trans b6
 obtain⟨n7, -,U7⟩:=HB.out w7 T7
 have HN7:Hid (RN w7 w3.heap.size r s5):=HN6.out.tch t7 (fun _ _ _ h=>h)
 have HF:Hid (∀W,Tch (fun i=>i=w.heap.size) w7 W→RN W w.heap.size r s5∧Tch (fun _=>False) w W):=fun W t=>
  ⟨(HN7.out.tch t (fun i h1 _ h2=>by omega)).low (by omega),U7.trans t (fun i hi h=>by omega)⟩
 have y0:=blk_cell b7 0
 have y1:=blk_cell b7 1
 have y2:=blk_cell b7 2
 have y3:=blk_cell b7 3
 have y4:=blk_cell b7 4
 have y5:=blk_cell b7 5
 have y6:=blk_cell b7 6
 have y7:=blk_cell b7 7
 have y8:=blk_cell b7 8
 have y9:=blk_cell b7 9
 have y10:=blk_cell b7 10
 have y11:=blk_cell b7 11
 have y12:=blk_cell b7 12
 have y13:=blk_cell b7 13
 simp only[List.getElem?_toArray,List.getElem?_cons_succ,List.getElem?_cons_zero] at y0 y1 y2 y3 y4 y5 y6 y7 y8 y9 y10 y11 y12 y13
 have z0:=blk_cell n7 0
 have z1:=blk_cell n7 1
 have z2:=blk_cell n7 2
 have z3:=blk_cell n7 3
 have z4:=blk_cell n7 4
 have z5:=blk_cell n7 5
 have z6:=blk_cell n7 6
 have z7:=blk_cell n7 7
 have z8:=blk_cell n7 8
 have z9:=blk_cell n7 9
 have z10:=blk_cell n7 10
 have z11:=blk_cell n7 11
 have z12:=blk_cell n7 12
 have z13:=blk_cell n7 13
 simp only[List.getElem?_toArray,List.getElem?_cons_succ,List.getElem?_cons_zero] at z0 z1 z2 z3 z4 z5 z6 z7 z8 z9 z10 z11 z12 z13
 have f0:=blk_frozen n7 0
 have f1:=blk_frozen n7 1
 have f2:=blk_frozen n7 2
 have f3:=blk_frozen n7 3
 have f4:=blk_frozen n7 4
 have f5:=blk_frozen n7 5
 have f6:=blk_frozen n7 6
 have f7:=blk_frozen n7 7
 have f8:=blk_frozen n7 8
 have f9:=blk_frozen n7 9
 have f10:=blk_frozen n7 10
 have f11:=blk_frozen n7 11
 have f12:=blk_frozen n7 12
 have f13:=blk_frozen n7 13
 have HF2:Hid (∀W,Tch (fun i=>i=w.heap.size) w7 W→Tch (fun _=>False) w W):=fun W t=>(HF.out W t).2
 clear q7 t7 T6 T7 b6 b7 n7 U7 HN6 HN7 HB HW6 HW0 HRW HCUT HEK hz0 hz3 hz4 hz5 hz6 HF
 have hrs:Tryz.f14.results=#[.cell 2 37,.tmp 3]:=by kernel_rfl
 rcases HE2.out with e|⟨e,e2⟩
 ·subst e
  clear HE2
  go_wp2_with fail
  refine bodyPost_ret (v:= .tuple #[rV (rc0 0) sk0,.int .i64 62]) (by simp only[results,hrs];go_simp;exact⟨rfl,rfl,rfl,rfl,⟨rfl,rfl,rfl⟩,⟨rfl,rfl,rfl⟩,rfl,rfl,rfl,rfl,rfl,⟨rfl,rfl,rfl⟩,rfl,rfl,rfl,rfl⟩) rfl ?_
  exact⟨rfl,HF2.out _ (show Tch (fun i=>i=w.heap.size) w7 _ from(((((((((((((Tch.setCell (fun i=>i=w.heap.size) w7 ⟨w.heap.size,0,none⟩ _ rfl).setCellR ⟨w.heap.size,1,none⟩ _ rfl).setCellR ⟨w.heap.size,2,none⟩ _ rfl).setCellR ⟨w.heap.size,3,none⟩ _ rfl).setCellR ⟨w.heap.size,4,none⟩ _ rfl).setCellR ⟨w.heap.size,5,none⟩ _ rfl).setCellR ⟨w.heap.size,6,none⟩ _ rfl).setCellR ⟨w.heap.size,7,none⟩ _ rfl).setCellR ⟨w.heap.size,8,none⟩ _ rfl).setCellR ⟨w.heap.size,9,none⟩ _ rfl).setCellR ⟨w.heap.size,10,none⟩ _ rfl).setCellR ⟨w.heap.size,11,none⟩ _ rfl).setCellR ⟨w.heap.size,12,none⟩ _ rfl).setCellR ⟨w.heap.size,13,none⟩ _ rfl)⟩
 ·subst e
  clear HE2
  go_wp2_with fail
  refine bodyPost_ret (v:= .tuple #[rV (rc0 0) sk0,.int .i64 62]) (by simp only[results,hrs];go_simp;exact⟨rfl,rfl,rfl,rfl,⟨rfl,rfl,rfl⟩,⟨rfl,rfl,rfl⟩,rfl,rfl,rfl,rfl,rfl,⟨rfl,rfl,rfl⟩,rfl,rfl,rfl,rfl⟩) rfl ?_
  exact⟨rfl,HF2.out _ (show Tch (fun i=>i=w.heap.size) w7 _ from(((((((((((((Tch.setCell (fun i=>i=w.heap.size) w7 ⟨w.heap.size,0,none⟩ _ rfl).setCellR ⟨w.heap.size,1,none⟩ _ rfl).setCellR ⟨w.heap.size,2,none⟩ _ rfl).setCellR ⟨w.heap.size,3,none⟩ _ rfl).setCellR ⟨w.heap.size,4,none⟩ _ rfl).setCellR ⟨w.heap.size,5,none⟩ _ rfl).setCellR ⟨w.heap.size,6,none⟩ _ rfl).setCellR ⟨w.heap.size,7,none⟩ _ rfl).setCellR ⟨w.heap.size,8,none⟩ _ rfl).setCellR ⟨w.heap.size,9,none⟩ _ rfl).setCellR ⟨w.heap.size,10,none⟩ _ rfl).setCellR ⟨w.heap.size,11,none⟩ _ rfl).setCellR ⟨w.heap.size,12,none⟩ _ rfl).setCellR ⟨w.heap.size,13,none⟩ _ rfl)⟩
theorem decodeN_0 (S:ByteArray) (w:World) (hk:cls ((byteR S 0 0).1:Int)=0) (hsz:S.size≤281474976710656):Calls Tryz.prog 14 #[.string S] w fun x w'=>x= .returned (.tuple #[rV (rc0 0) sk0,.int .i64 62])∧Tch (fun _=>False) w w':=by
 obtain⟨k,hkb⟩: ∃k:Int,k=((byteR S 0 0).1:Int):=⟨_,rfl⟩
 rw[←hkb] at hk
 obtain⟨w0,hw0⟩: ∃w0,w0=w.alloc (.cells #[.int .i64 0,.int .i64 0,.int .i64 0,.int .i64 0,.slice none 0 0,.slice none 0 0,.string ⟨#[]⟩,.int .i64 0,.int .i64 0,.int .i64 0,.string ⟨#[]⟩,.slice none 0 0,.int .i64 0,.slice none 0 0] 37):=⟨_,rfl⟩
 have t0:Tch (fun _=>False) w w0:=by rw[hw0];exact Tch.alloc _ _ _
 have b0:w0.heap[w.heap.size]? =some (.cells #[.int .i64 0,.int .i64 0,.int .i64 0,.int .i64 0,.slice none 0 0,.slice none 0 0,.string ⟨#[]⟩,.int .i64 0,.int .i64 0,.int .i64 0,.string ⟨#[]⟩,.slice none 0 0,.int .i64 0,.slice none 0 0] 37 (0,0)):=by rw[hw0];exact heap_new w _
 have q1:=newReader_any S w0
 rw[hw0] at q1
 have HW0:Hid (w0=w.alloc (.cells #[.int .i64 0,.int .i64 0,.int .i64 0,.int .i64 0,.slice none 0 0,.slice none 0 0,.string ⟨#[]⟩,.int .i64 0,.int .i64 0,.int .i64 0,.string ⟨#[]⟩,.slice none 0 0,.int .i64 0,.slice none 0 0] 37)):=hw0
 have HB:Hid (∀W,Tch (fun i=>w.heap.size<i) w0 W→W.heap[w.heap.size]? =some (.cells #[.int .i64 0,.int .i64 0,.int .i64 0,.int .i64 0,.slice none 0 0,.slice none 0 0,.string ⟨#[]⟩,.int .i64 0,.int .i64 0,.int .i64 0,.string ⟨#[]⟩,.slice none 0 0,.int .i64 0,.slice none 0 0] 37 (0,0))∧Tch (fun _=>False) w W):=fun W t=>
  ⟨(t.block _ (blk_lt b0) (by omega)).trans b0,(t0.mono (fun _ _ h=>h.elim)).trans t (fun i hi h=>by omega)⟩
 have hz0:w0.heap.size=w.heap.size+1:=by rw[hw0];simp
 have HBO:Hid (∀W,Calls Tryz.prog 36 #[rV (rc0 k) sk0] W fun x w'=>x= .returned .nilIface∧Tch (fun _=>False) W w'):=fun W=>by
  have q:=bodyOf_any (rc0 k) sk0 W
  have e:cls (rc0 k).k=0:=hk
  rw[e] at q
  exact q
 have HKB:Hid (k=((byteR S 0 0).1:Int)):=hkb
 clear hk hw0 t0 b0 hkb
 go_enter Tryz.func14,Tryz.ntmps14
 go_wp2_with fail
 refine q1.mono ?_
 rintro x w1 ⟨rfl,h1,t1,zz⟩
 rw[←HW0.out,hz0] at h1
 rw[←HW0.out] at t1 zz
 clear q1
 have T1:Tch (fun i=>w.heap.size<i) w0 w1:=t1.mono (fun _ _ h=>h.elim)
 have q2:=rbyte_any (w.heap.size+1) S 0 0 w1 h1 hsz
 rw[←HKB.out] at q2
 go_wp2_with fail
 refine q2.mono ?_
 rintro x w2 ⟨rfl,h2,t2⟩
 clear q2
 have T2:Tch (fun i=>w.heap.size<i) w0 w2:=T1.trans' (t2.mono (fun i _ h=>by omega))
 go_wp2_with fail
 refine(HBO.out w2).mono ?_
 rintro x w3 ⟨rfl,t3⟩
 have T3:Tch (fun i=>w.heap.size<i) w0 w3:=T2.trans' (t3.mono (fun _ _ h=>h.elim))
 obtain⟨n7,U7⟩:=HB.out w3 T3
 have HF2:Hid (∀W,Tch (fun i=>i=w.heap.size) w3 W→Tch (fun _=>False) w W):=fun W t=>U7.trans t (fun i hi h=>by omega)
 have z0:=blk_cell n7 0
 have z1:=blk_cell n7 1
 have z2:=blk_cell n7 2
 have z3:=blk_cell n7 3
 have z4:=blk_cell n7 4
 have z5:=blk_cell n7 5
 have z6:=blk_cell n7 6
 have z7:=blk_cell n7 7
 have z8:=blk_cell n7 8
 have z9:=blk_cell n7 9
 have z10:=blk_cell n7 10
 have z11:=blk_cell n7 11
 have z12:=blk_cell n7 12
 have z13:=blk_cell n7 13
 simp only[List.getElem?_toArray,List.getElem?_cons_succ,List.getElem?_cons_zero] at z0 z1 z2 z3 z4 z5 z6 z7 z8 z9 z10 z11 z12 z13
 have f0:=blk_frozen n7 0
 have f1:=blk_frozen n7 1
 have f2:=blk_frozen n7 2
 have f3:=blk_frozen n7 3
 have f4:=blk_frozen n7 4
 have f5:=blk_frozen n7 5
 have f6:=blk_frozen n7 6
 have f7:=blk_frozen n7 7
 have f8:=blk_frozen n7 8
 have f9:=blk_frozen n7 9
 have f10:=blk_frozen n7 10
 have f11:=blk_frozen n7 11
 have f12:=blk_frozen n7 12
 have f13:=blk_frozen n7 13
 have hrs:Tryz.f14.results=#[.cell 2 37,.tmp 3]:=by kernel_rfl
 clear n7 U7 HB HW0 HBO T1 T2 T3 t1 t2 t3 h1 h2 zz hz0 HKB
 go_wp2_with fail
 refine bodyPost_ret (v:= .tuple #[rV (rc0 0) sk0,.int .i64 62]) (by simp only[results,hrs];go_simp;exact⟨rfl,rfl,rfl,rfl,⟨rfl,rfl,rfl⟩,⟨rfl,rfl,rfl⟩,rfl,rfl,rfl,rfl,rfl,⟨rfl,rfl,rfl⟩,rfl,rfl,rfl,rfl⟩) rfl ?_
 exact⟨rfl,HF2.out _ (show Tch (fun i=>i=w.heap.size) w3 _ from(((((((((((((Tch.setCell (fun i=>i=w.heap.size) w3 ⟨w.heap.size,0,none⟩ _ rfl).setCellR ⟨w.heap.size,1,none⟩ _ rfl).setCellR ⟨w.heap.size,2,none⟩ _ rfl).setCellR ⟨w.heap.size,3,none⟩ _ rfl).setCellR ⟨w.heap.size,4,none⟩ _ rfl).setCellR ⟨w.heap.size,5,none⟩ _ rfl).setCellR ⟨w.heap.size,6,none⟩ _ rfl).setCellR ⟨w.heap.size,7,none⟩ _ rfl).setCellR ⟨w.heap.size,8,none⟩ _ rfl).setCellR ⟨w.heap.size,9,none⟩ _ rfl).setCellR ⟨w.heap.size,10,none⟩ _ rfl).setCellR ⟨w.heap.size,11,none⟩ _ rfl).setCellR ⟨w.heap.size,12,none⟩ _ rfl).setCellR ⟨w.heap.size,13,none⟩ _ rfl)⟩
theorem decode_x (S:ByteArray) (w:World) (hsz:S.size≤281474976710656) (hg:HE w):Calls Tryz.prog 14 #[.string S] w fun x w'=>DxOut S w x w':=by
 by_cases h: ∃r,Says S r
 ·obtain⟨r,h⟩:=h
  refine(decode_ok r S w h.eq hsz hg h.rr.1 h.rr.2.symm h.o h.n).mono ?_
  intro x w' hd
  exact .inl ⟨r,h,hd⟩
 ·have hno: ∀r, ¬Says S r:=fun r hr=>h ⟨r,hr⟩
  have key:Calls Tryz.prog 14 #[.string S] w fun x w'=>x= .returned (.tuple #[rV (rc0 0) sk0,.int .i64 62])∧Tch (fun _=>False) w w':=by
   rcases cls_rng ((byteR S 0 0).1:Int) with h0|⟨k1,k2,c1,c2⟩
   ·exact decodeN_0 S w h0 hsz
   ·have hby:byteR S 0 0=((((byteR S 0 0).1:Nat):Int).toNat,1,0):=by
     unfold byteR at k1 ⊢
     by_cases hs:0<S.size
     ·rw[if_neg (by simp),if_pos hs] at k1 ⊢
      simp
     ·rw[if_neg (by simp),if_neg hs] at k1
      simp at k1
    obtain⟨k,hk⟩: ∃k:Int,k=((byteR S 0 0).1:Int):=⟨_,rfl⟩
    rw[←hk] at hby k1 k2 c1 c2
    clear hk
    obtain⟨c,hcc⟩: ∃c,cls k=c:=⟨_,rfl⟩
    rw[hcc] at c1 c2
    have hc0:c=1∨c=2∨c=3∨c=4∨c=5∨c=6∨c=7∨c=8∨c=9∨c=10:=by omega
    rcases hc0 with rfl|rfl|rfl|rfl|rfl|rfl|rfl|rfl|rfl|rfl
    ·exact decodeN_1 k S w hby ⟨k1,k2⟩ hcc hno hsz hg
    ·exact decodeN_2 k S w hby ⟨k1,k2⟩ hcc hno hsz hg
    ·exact decodeN_3 k S w hby ⟨k1,k2⟩ hcc hno hsz hg
    ·exact decodeN_4 k S w hby ⟨k1,k2⟩ hcc hno hsz hg
    ·exact decodeN_5 k S w hby ⟨k1,k2⟩ hcc hno hsz hg
    ·exact decodeN_6 k S w hby ⟨k1,k2⟩ hcc hno hsz hg
    ·exact decodeN_7 k S w hby ⟨k1,k2⟩ hcc hno hsz hg
    ·exact decodeN_8 k S w hby ⟨k1,k2⟩ hcc hno hsz hg
    ·exact decodeN_9 k S w hby ⟨k1,k2⟩ hcc hno hsz hg
    ·exact decodeN_10 k S w hby ⟨k1,k2⟩ hcc hno hsz hg
  refine key.mono ?_
  rintro x w' ⟨e,t⟩
  exact .inr ⟨hno,e,t⟩
theorem HX.far {W W':World} {le le':TypeId} {ho ho':Option Addr} {m hc m' hc':Nat} {X X':List (Value×Nat)} (h:HX W le ho m hc X) (h':HX W le' ho' m' hc' X') (hne:le≠le') (t:Tch (fun g=>(Value.slice ho' m' hc').ownBlock=some g) W W'):HX W' le ho m hc X:=
 h.tch t (fun g cur hb hg=>by
  obtain⟨c2,h2⟩:=own_ty9 h'.2 hg
  exact ne_ty9 hb h2 hne rfl)
structure GA (w0 W:World) (ro:Option Addr) (rm rc:Nat) (XR:List (Value×Nat)) (co:Option Addr) (cm cc:Nat) (XC:List (Value×Nat)) (tbo:Option Addr) (tm tc:Nat) (XT:List (Value×Nat)):Prop where
 r:HX W 24 ro rm rc XR
 c:HX W 22 co cm cc XC
 t:HX W 35 tbo tm tc XT
 nr: ∀g,(Value.slice ro rm rc).ownBlock=some g→w0.heap.size≤g
 nc: ∀g,(Value.slice co cm cc).ownBlock=some g→w0.heap.size≤g
 nt: ∀g,(Value.slice tbo tm tc).ownBlock=some g→w0.heap.size≤g
 tch:Tch (fun _=>False) w0 W
theorem GA.start (w0:World):GA w0 w0 none 0 0 [] none 0 0 [] none 0 0 []:=⟨HX.nil,HX.nil,HX.nil,fun g h=>(by cases h),fun g h=>(by cases h),fun g h=>(by cases h),Tch.refl _ _⟩
section
variable {w0 W W1:World} {ro co tbo:Option Addr} {rm rc cm cc tm tc:Nat} {XR XC XT:List (Value×Nat)}
theorem GA.pushR (h:GA w0 W ro rm rc XR co cm cc XC tbo tm tc XT) (a b:Value×Nat) (ha:a.1.oneCell'=true) (hb:b.1.oneCell'=true) (hm:rm≤1000000) (tw:Tch (fun _=>False) W W1) (bb:Nat) (b1:W1.heap[bb]? =some (.cells #[a.1,b.1] 24 (0,0))):
  ∃v' w1,(Builtin.append_ #[104,104] 104 #[.slice ro rm rc,.slice (some ⟨bb,0,none⟩) 2 2]).run Tryz.prog W1= .ok v' w1∧ ∃o' c',v'= .slice o' (rm+2) c'∧GA w0 w1 o' (rm+2) c' (XR++[a,b]) co cm cc XC tbo tm tc XT:=by
 obtain⟨o',c',w1,hr,hx,tt,hat⟩:=h.r.push 104 Tryz.underlying104 (by kernel_rfl) [a,b] 2 rfl (fun y hy=>by simp only[List.mem_cons,List.not_mem_nil,or_false] at hy;rcases hy with rfl|rfl<;>assumption) hm (by omega) (by omega) tw bb b1
 refine⟨_,w1,hr,o',c',rfl,hx,h.c.far h.r (by decide) tt,h.t.far h.r (by decide) tt,fun g hg=>?_,h.nc,h.nt,h.tch.trans tt (fun g hg e=>by have:=h.nr g e;omega)⟩
 rcases hat g hg with e|e
 ·exact h.nr g e
 ·have:=h.tch.size;omega
theorem GA.pushC (h:GA w0 W ro rm rc XR co cm cc XC tbo tm tc XT) (a:Value×Nat) (ha:a.1.oneCell'=true) (hm:cm≤1000000) (tw:Tch (fun _=>False) W W1) (bb:Nat) (b1:W1.heap[bb]? =some (.cells #[a.1] 22 (0,0))):
  ∃v' w1,(Builtin.append_ #[105,105] 105 #[.slice co cm cc,.slice (some ⟨bb,0,none⟩) 1 1]).run Tryz.prog W1= .ok v' w1∧ ∃o' c',v'= .slice o' (cm+1) c'∧GA w0 w1 ro rm rc XR o' (cm+1) c' (XC++[a]) tbo tm tc XT:=by
 obtain⟨o',c',w1,hr,hx,tt,hat⟩:=h.c.push 105 Tryz.underlying105 (by kernel_rfl) [a] 1 rfl (fun y hy=>by simp only[List.mem_cons,List.not_mem_nil,or_false] at hy;subst hy;exact ha) hm (by omega) (by omega) tw bb b1
 refine⟨_,w1,hr,o',c',rfl,h.r.far h.c (by decide) tt,hx,h.t.far h.c (by decide) tt,h.nr,fun g hg=>?_,h.nt,h.tch.trans tt (fun g hg e=>by have:=h.nc g e;omega)⟩
 rcases hat g hg with e|e
 ·exact h.nc g e
 ·have:=h.tch.size;omega
theorem GA.pushT (h:GA w0 W ro rm rc XR co cm cc XC tbo tm tc XT) (a:Value×Nat) (ha:a.1.oneCell'=true) (hm:tm≤1000000) (tw:Tch (fun _=>False) W W1) (bb:Nat) (b1:W1.heap[bb]? =some (.cells #[a.1] 35 (0,0))):
  ∃v' w1,(Builtin.append_ #[106,106] 106 #[.slice tbo tm tc,.slice (some ⟨bb,0,none⟩) 1 1]).run Tryz.prog W1= .ok v' w1∧ ∃o' c',v'= .slice o' (tm+1) c'∧GA w0 w1 ro rm rc XR co cm cc XC o' (tm+1) c' (XT++[a]):=by
 obtain⟨o',c',w1,hr,hx,tt,hat⟩:=h.t.push 106 Tryz.underlying106 (by kernel_rfl) [a] 1 rfl (fun y hy=>by simp only[List.mem_cons,List.not_mem_nil,or_false] at hy;subst hy;exact ha) hm (by omega) (by omega) tw bb b1
 refine⟨_,w1,hr,o',c',rfl,h.r.far h.t (by decide) tt,h.c.far h.t (by decide) tt,hx,h.nr,h.nc,fun g hg=>?_,h.tch.trans tt (fun g hg e=>by have:=h.nt g e;omega)⟩
 rcases hat g hg with e|e
 ·exact h.nt g e
 ·have:=h.tch.size;omega
end
theorem GOx.start {wz:World} {le e:TypeId} {sz:Nat} {mk:Nat→List Value} {X:List (Value×Nat)} {G m hc:Nat} (h:LX wz e sz mk X m) (hx:HX wz le (some ⟨G,0,none⟩) m hc X) (hne:e≠le):GOx le e sz mk wz wz X G m hc 0 [] (.slice none 0 0):=by
 obtain⟨cu,hb⟩:=own_ty9 hx.2 (g:=G) rfl
 have hG:G<wz.heap.size:=blk_lt hb
 refine⟨⟨⟨rfl,Or.inl ⟨rfl,rfl⟩⟩,fun g hg=>(by cases hg),fun j hj=>(by simp at hj)⟩,rfl,fun j x _ hj=>h.full j x (by have:=(List.getElem?_eq_some_iff.1 hj).1;have:=hx.1;omega) hj,h.ap,fun j x g hj hg=>?_,hx,hG,Tch.refl _ _⟩
 obtain⟨xs,ho⟩:=h.own j x hj
 obtain⟨c2,h2⟩:=own_ty9 ho hg
 exact⟨blk_lt h2,ne_ty9 h2 hb hne⟩
abbrev xr6 (p:Rc×Sk):List (Value×Nat):=[(.slice p.2.oo p.1.o.length p.2.oc,p.1.o.length),(.slice p.2.no p.1.n.length p.2.nc,p.1.n.length)]
abbrev xc6 (p:Rc×Sk):List (Value×Nat):=(.slice p.2.co p.1.tb.cols.length p.2.cc,p.1.tb.cols.length)::p.2.P.map (fun q=>(q.2,q.1.cols.length))
abbrev xq6 (q:Tbl×Value):Value×Nat:=(q.2,q.1.cols.length)
abbrev xt6 (p:Rc×Sk):Value×Nat:=(.slice p.2.to p.2.P.length p.2.tc,p.2.P.length)
theorem owned1 (w0:World) (Lb m lc:Nat) (RS:List (Rc×Sk)) (hm:m≤1000) (HM:Hid (m=RS.length))
  (HL:Hid (Lb<w0.heap.size∧ ∀(i:Nat) (p:Rc×Sk),RS[i]? =some p→ ∃(oo:Option Addr) (on oc:Nat) (no:Option Addr) (nn nc:Nat) (ko:Option Addr) (kn kc:Nat) (to':Option Addr) (tn tc':Nat),xr6 p=[(.slice oo on oc,on),(.slice no nn nc,nn)]∧(xc6 p).head? =some (.slice ko kn kc,kn)∧xt6 p=(.slice to' tn tc',tn)∧w0.cell? ⟨Lb,i*14+4,none⟩=some (.slice oo on oc)∧w0.cell? ⟨Lb,i*14+5,none⟩=some (.slice no nn nc)∧w0.cell? ⟨Lb,i*14+11,none⟩=some (.slice ko kn kc)∧w0.cell? ⟨Lb,i*14+13,none⟩=some (.slice to' tn tc')))
  (HP:Hid (∀(i:Nat) (p:Rc×Sk),RS[i]? =some p→p.2.P.length≤16∧ ∀(j:Nat) (q:Tbl×Value),p.2.P[j]? =some q→ ∃g ko kc,p.2.to=some ⟨g,0,none⟩∧g<w0.heap.size∧q.2= .slice ko q.1.cols.length kc∧w0.cell? ⟨g,j*5+3,none⟩=some (.slice ko q.1.cols.length kc))) (Q0:Exit→Act→World→Prop)
  (u1 u2 u7 u8 u9 fQ fR fS fT fU fV fW fX fY fZ g7 g8 g9 gc gd gf gh gi gj gk gm gq gr gu gx gy gA gB gC gD gE gF gG gH gI gJ gK gL gM gN gO gP gQ gR gS gT gU gV gW gX gY gZ hH hU hZ i6 i7 i8 ia ib ic ie ig ii ij ik il im io ip iq ir iu iw ix iy iz iA iB iC iD iF iG iH iI iJ iK iL iM iN aa ab ae af ah ai aj al am aq au av aw ax ay az aA aB aC aD aF aG aH aI aJ aK aL aM aN aO aP aQ aR aS aT aU aV aW aX aY aZ ba be bf bg bh bi bj bp bq br bu bv bw bz bC bD bE bF bG bH bI bJ bK bL bM bN bO bP bQ bS bT bU bW bX bY bZ cd ce cf cg ch ci ck cn cq cr ct cw cy cz cA cB cC cE cF cG cH cI cJ cK cL cM cN cP cQ cR cT cU cV cW cX cY cZ d8 d9 da de df dh di dj dk dl dm dn dp dq dr dt du dv dw dx dy dz dA dB dD dE dF dG dH dI dJ dK dL dM dN dO dP dQ dR dS dT dU dV dX dY dZ ed ee ef eh ei ej em es eu ex ey ez eA eB eD eE eF eH eI eJ eK eL eN eO eQ eR eS eT eU eV eW eX eY eZ fd fe ff fg fh fi fj fk fq fs fv fy fz fA fB fC fD fE fF fG fH fI fJ fK fL fM fN fO fP:Value)
  (Hexit:Hid (∀(v3 v4 v5 v6 v7 iO iP iQ iR iS iT iU iV iW iX iY iZ j5 j6 j7 j8 j9 ja jb jc jd je jf jg jh ji jj jk jl jm jn jo jp jq jr js jt ju jv jw jx jy jz jA jB jC jD jE jF jG jH jI jJ jK jL jM jN jO:Value) (wx:World),(∃(ro:Option Addr) (rm rc:Nat) (co:Option Addr) (cm cc:Nat) (tbo:Option Addr) (tm tc:Nat),v3= .slice ro rm rc∧v4= .slice co cm cc∧v5= .slice tbo tm tc∧Hid (rm=2*m∧cm≤17*m∧tm=m∧GA w0 wx ro rm rc ((RS.take m).flatMap xr6) co cm cc ((RS.take m).flatMap xc6) tbo tm tc ((RS.take m).map xt6)))→Q0 (.exit 0) ⟨List.toArray ((.slice (some ⟨Lb,0,none⟩) m lc)::u1::u2::(v3)::(v4)::(v5)::(v6)::(v7)::u8::u9::fQ::fR::fS::fT::fU::fV::fW::fX::fY::fZ::g7::g8::g9::gc::gd::gf::gh::gi::gj::gk::gm::gq::(iO)::(iP)::(iQ)::(iR)::(iS)::(iT)::(iU)::(iV)::(iW)::(iX)::(iY)::(iZ)::(j5)::(j6)::(j7)::(j8)::(j9)::(ja)::(jb)::(jc)::(jd)::(je)::(jf)::(jg)::(jh)::(ji)::(jj)::(jk)::(jl)::(jm)::(jn)::(jo)::(jp)::(jq)::(jr)::(js)::(jt)::(ju)::(jv)::(jw)::(jx)::(jy)::(jz)::(jA)::(jB)::(jC)::(jD)::(jE)::(jF)::(jG)::(jH)::(jI)::(jJ)::(jK)::(jL)::(jM)::(jN)::(jO)::iD::iF::iG::iH::iI::iJ::iK::iL::iM::iN::aa::ab::ae::af::ah::ai::aj::al::am::aq::au::av::aw::ax::ay::az::aA::aB::aC::aD::aF::aG::aH::aI::aJ::aK::aL::aM::aN::aO::aP::aQ::aR::aS::aT::aU::aV::aW::aX::aY::aZ::ba::be::bf::bg::bh::bi::bj::bp::bq::br::bu::bv::bw::bz::bC::bD::bE::bF::bG::bH::bI::bJ::bK::bL::bM::bN::bO::bP::bQ::bS::bT::bU::bW::bX::bY::bZ::cd::ce::cf::cg::ch::ci::ck::cn::cq::cr::ct::cw::cy::cz::cA::cB::cC::cE::cF::cG::cH::cI::cJ::cK::cL::cM::cN::cP::cQ::cR::cT::cU::cV::cW::cX::cY::cZ::d8::d9::da::de::df::dh::di::dj::dk::dl::dm::dn::dp::dq::dr::dt::du::dv::dw::dx::dy::dz::dA::dB::dD::dE::dF::dG::dH::dI::dJ::dK::dL::dM::dN::dO::dP::dQ::dR::dS::dT::dU::dV::dX::dY::dZ::ed::ee::ef::eh::ei::ej::em::es::eu::ex::ey::ez::eA::eB::eD::eE::eF::eH::eI::eJ::eK::eL::eN::eO::eQ::eR::eS::eT::eU::eV::eW::eX::eY::eZ::fd::fe::ff::fg::fh::fi::fj::fk::fq::fs::fv::fy::fz::fA::fB::fC::fD::fE::fF::fG::fH::fI::fJ::fK::fL::fM::fN::fO::fP::[]),[]⟩ wx)):
  Code.wp Tryz.prog (Code.loop (owB 0)) Q0 ⟨List.toArray ((.slice (some ⟨Lb,0,none⟩) m lc)::u1::u2::(.slice none 0 0)::(.slice none 0 0)::(.slice none 0 0)::(.int .i64 0)::u7::u8::u9::fQ::fR::fS::fT::fU::fV::fW::fX::fY::fZ::g7::g8::g9::gc::gd::gf::gh::gi::gj::gk::gm::gq::gr::gu::gx::gy::gA::gB::gC::gD::gE::gF::gG::gH::gI::gJ::gK::gL::gM::gN::gO::gP::gQ::gR::gS::gT::gU::gV::gW::gX::gY::gZ::hH::hU::hZ::i6::i7::i8::ia::ib::ic::ie::ig::ii::ij::ik::il::im::io::ip::iq::ir::iu::iw::ix::iy::iz::iA::iB::iC::iD::iF::iG::iH::iI::iJ::iK::iL::iM::iN::aa::ab::ae::af::ah::ai::aj::al::am::aq::au::av::aw::ax::ay::az::aA::aB::aC::aD::aF::aG::aH::aI::aJ::aK::aL::aM::aN::aO::aP::aQ::aR::aS::aT::aU::aV::aW::aX::aY::aZ::ba::be::bf::bg::bh::bi::bj::bp::bq::br::bu::bv::bw::bz::bC::bD::bE::bF::bG::bH::bI::bJ::bK::bL::bM::bN::bO::bP::bQ::bS::bT::bU::bW::bX::bY::bZ::cd::ce::cf::cg::ch::ci::ck::cn::cq::cr::ct::cw::cy::cz::cA::cB::cC::cE::cF::cG::cH::cI::cJ::cK::cL::cM::cN::cP::cQ::cR::cT::cU::cV::cW::cX::cY::cZ::d8::d9::da::de::df::dh::di::dj::dk::dl::dm::dn::dp::dq::dr::dt::du::dv::dw::dx::dy::dz::dA::dB::dD::dE::dF::dG::dH::dI::dJ::dK::dL::dM::dN::dO::dP::dQ::dR::dS::dT::dU::dV::dX::dY::dZ::ed::ee::ef::eh::ei::ej::em::es::eu::ex::ey::ez::eA::eB::eD::eE::eF::eH::eI::eJ::eK::eL::eN::eO::eQ::eR::eS::eT::eU::eV::eW::eX::eY::eZ::fd::fe::ff::fg::fh::fi::fj::fk::fq::fs::fv::fy::fz::fA::fB::fC::fD::fE::fF::fG::fH::fI::fJ::fK::fL::fM::fN::fO::fP::[]),[]⟩ w0:=by
 conv=>arg 2;arg 1;whnf
 go_loopg [3,4,5,6,7] m (fun kx s3 s4 s5 s6 s7 wx=> ∃(i:Nat) (ro:Option Addr) (rm rc:Nat) (co:Option Addr) (cm cc:Nat) (tbo:Option Addr) (tm tc:Nat),s3= .slice ro rm rc∧s4= .slice co cm cc∧s5= .slice tbo tm tc∧s6= .int .i64 i∧m - i≤kx∧i≤m∧Hid (rm=2*i∧cm≤17*i∧tm=i∧GA w0 wx ro rm rc ((RS.take i).flatMap xr6) co cm cc ((RS.take i).flatMap xc6) tbo tm tc ((RS.take i).map xt6)))
 case atStart=>exact⟨0,none,0,0,none,0,0,none,0,0,rfl,rfl,rfl,rfl,by omega,by omega,(⟨rfl,Nat.zero_le _,rfl,GA.start w0⟩:(0:Nat)=2*0∧(0:Nat)≤17*0∧(0:Nat)=0∧GA w0 w0 none 0 0 ((RS.take 0).flatMap xr6) none 0 0 ((RS.take 0).flatMap xc6) none 0 0 ((RS.take 0).map xt6))⟩
 case round=>
  rename World=>wx
  obtain⟨i,ro,rm,rc,co,cm,cc,tbo,tm,tc,rfl,rfl,rfl,rfl,hkx,him,J⟩:=hrel
  by_cases hi:i<m
  ·have hi':(i:Int)<(m:Int):=by omega
   obtain⟨p,hp⟩: ∃p,RS[i]? =some p:=⟨_,List.getElem?_eq_getElem (by have:=HM.out;omega)⟩
   obtain⟨oo,on,oc,no,nn,nc,ko,kn,kc,to',tn,tc',er,ec,et,k4,k5,k11,k13⟩:=HL.out.2 i p hp
   have hcell: ∀(W:World) (j:Nat) (v:Value),Tch (fun _=>False) w0 W→w0.cell? ⟨Lb,j,none⟩=some v→W.cell? ⟨Lb,j,none⟩=some v:=fun W j v t h=>(t.cell (p:=⟨Lb,j,none⟩) HL.out.1 (fun e=>e)).trans h
   obtain⟨hj1,hj2,hj3,hj4⟩:=J.out
   have c4:=hcell wx _ _ hj4.tch k4
   have c5:=hcell wx _ _ hj4.tch k5
   have ht0:Tch (fun _=>False) w0 wx:=hj4.tch
   have HS:Hid (∀W,Tch (fun _=>False) w0 W→Tch (fun _=>False) w0 W∧W.cell? ⟨Lb,i*14+4,none⟩=some (.slice oo on oc)∧W.cell? ⟨Lb,i*14+5,none⟩=some (.slice no nn nc)):=fun W t=>⟨t,hcell W _ _ t k4,hcell W _ _ t k5⟩
   have H7:Hid (∀(W1:World) (bb:Nat),Tch (fun _=>False) wx W1→W1.heap[bb]? =some (.cells #[.slice oo on oc,.slice no nn nc] 24 (0,0))→_):=fun W1 bb t b1=>hj4.pushR (.slice oo on oc,on) (.slice no nn nc,nn) rfl rfl (by omega) t bb b1
   have HC:Hid (∀(W:World) (j:Nat) (v:Value),Tch (fun _=>False) w0 W→w0.cell? ⟨Lb,j,none⟩=some v→W.cell? ⟨Lb,j,none⟩=some v):=hcell
   have HK:Hid (RS[i]? =some p∧xr6 p=[(.slice oo on oc,on),(.slice no nn nc,nn)]∧(xc6 p).head? =some (.slice ko kn kc,kn)∧xt6 p=(.slice to' tn tc',tn)∧w0.cell? ⟨Lb,i*14+11,none⟩=some (.slice ko kn kc)∧w0.cell? ⟨Lb,i*14+13,none⟩=some (.slice to' tn tc')∧rm=2*i∧cm≤17*i∧tm=i):=⟨hp,er,ec,et,k11,k13,hj1,hj2,hj3⟩
   clear hp er ec et k4 k5 k11 k13 hj1 hj2 hj3 hj4 J hcell
   go_wp2_with fail
   go_region_held3 (fun W=>Tch (fun _=>False) w0 W∧W.cell? ⟨Lb,i*14+4,none⟩=some (.slice oo on oc)∧W.cell? ⟨Lb,i*14+5,none⟩=some (.slice no nn nc))
    ((refine HS.out _ ?_;first|assumption|exact ht0.drew|exact(ht0.allocR _).drew|exact ht0.allocR _|exact(ht0.drew).allocR _|exact G7.tch|exact(show _∧_ by assumption).1|exact Tch.allocR (by first|assumption|exact(show _∧_ by assumption).1) _))
    ((refine step_app9 rfl _ _ 104 rfl rfl _ _ rfl rfl (H7.out _ _ (by first|exact((Tch.refl _ _).allocR _).drew|exact((Tch.refl _ _).drew).allocR _|exact(Tch.refl _ _).allocR _) (heap_alloc_new wx _)) ?_;rintro v7 w7 ⟨o7,c7,rfl,G7⟩))
   obtain⟨v8,w8,hr8,o8,c8,rfl,G8⟩:=G7.pushC (.slice ko kn kc,kn) rfl (by have:=HK.out.2.2.2.2.2.2.2.1;omega) (Tch.alloc (fun _=>False) w7 (.cells #[.slice ko kn kc] 22)) w7.heap.size (alloc_new _ _)
   obtain⟨v9,w9,hr9,o9,c9,rfl,G9⟩:=G8.pushT (.slice to' tn tc',tn) rfl (by have:=HK.out.2.2.2.2.2.2.2.2;omega) (Tch.alloc (fun _=>False) w8 (.cells #[.slice to' tn tc'] 35)) w8.heap.size (alloc_new _ _)
   have c11:w7.cell? ⟨Lb,i*14+11,none⟩=some (.slice ko kn kc):=HC.out _ _ _ G7.tch HK.out.2.2.2.2.1
   have c13:w8.cell? ⟨Lb,i*14+13,none⟩=some (.slice to' tn tc'):=HC.out _ _ _ G8.tch HK.out.2.2.2.2.2.1
   have HR8:Hid ((Builtin.append_ #[105,105] 105 #[.slice co cm cc,.slice (some ⟨w7.heap.size,0,none⟩) 1 1]).run Tryz.prog (w7.alloc (.cells #[.slice ko kn kc] 22))= .ok (.slice o8 (cm+1) c8) w8):=hr8
   have HR9:Hid ((Builtin.append_ #[106,106] 106 #[.slice tbo tm tc,.slice (some ⟨w8.heap.size,0,none⟩) 1 1]).run Tryz.prog (w8.alloc (.cells #[.slice to' tn tc'] 35))= .ok (.slice o9 (tm+1) c9) w9):=hr9
   have HT:Hid (tn=p.2.P.length∧to'=p.2.to∧tn≤16):=by
    have h:=HK.out.2.2.2.1
    simp only[xt6,Prod.mk.injEq,Value.slice.injEq] at h
    have h2:=(HP.out i p HK.out.1).1
    exact⟨h.2.symm,h.1.1.symm,by have:=h.2;omega⟩
   have ht16:tn≤16:=HT.out.2.2
   have HI:Hid (cm+1≤17*i+1+0∧GA w0 w9 o7 (rm+2) c7 ((RS.take i).flatMap xr6++[(.slice oo on oc,on),(.slice no nn nc,nn)]) o8 (cm+1) c8 (((RS.take i).flatMap xc6++[(.slice ko kn kc,kn)])++(p.2.P.take 0).map xq6) o9 (tm+1) c9 ((RS.take i).map xt6++[(.slice to' tn tc',tn)])):=⟨by have:=HK.out.2.2.2.2.2.2.2.1;omega,by rw[List.take_zero,List.map_nil,List.append_nil];exact G9⟩
   clear hr8 hr9 G7 G8 G9 H7 HS ht0
   go_upto_region 9 with(at_builtin;refine wpList_app9 _ rfl _ _ 105 rfl rfl _ _ rfl rfl HR8.out ?_)
   go_upto_region 10 with(at_builtin;refine wpList_app9 _ rfl _ _ 106 rfl rfl _ _ rfl rfl HR9.out ?_)
   clear c11 c13 HR8 HR9
   go_wp2_with fail
   go_loopg [4,7] tn (fun kx s4 s7 wy=> ∃(j:Nat) (co1:Option Addr) (cm1 cc1:Nat),s4= .slice co1 cm1 cc1∧s7= .int .i64 j∧tn - j≤kx∧j≤tn∧Hid (cm1≤17*i+1+j∧GA w0 wy o7 (rm+2) c7 ((RS.take i).flatMap xr6++[(.slice oo on oc,on),(.slice no nn nc,nn)]) co1 cm1 cc1 (((RS.take i).flatMap xc6++[(.slice ko kn kc,kn)])++(p.2.P.take j).map xq6) o9 (tm+1) c9 ((RS.take i).map xt6++[(.slice to' tn tc',tn)])))
   case atStart=>exact⟨0,_,_,_,rfl,rfl,by omega,by omega,HI⟩
   case round=>
    rename World=>wy
    obtain⟨j,co1,cm1,cc1,rfl,rfl,hjx,hjn,K⟩:=hrel
    have d13:wy.cell? ⟨Lb,i*14+13,none⟩=some (.slice to' tn tc'):=HC.out _ _ _ K.out.2.tch HK.out.2.2.2.2.2.1
    by_cases hj:j<tn
    ·have hj':(j:Int)<(tn:Int):=by omega
     obtain⟨q,hq⟩: ∃q,p.2.P[j]? =some q:=⟨_,List.getElem?_eq_getElem (by have:=HT.out.1;omega)⟩
     obtain⟨g,lo,lc',e1,hg,e2,hc⟩:=(HP.out i p HK.out.1).2 j q hq
     obtain⟨ln,hln⟩: ∃ln,ln=q.1.cols.length:=⟨_,rfl⟩
     rw[←hln] at e2 hc
     have e3:to'=some ⟨g,0,none⟩:=HT.out.2.1.trans e1
     have d3:wy.cell? ⟨g,j*5+3,none⟩=some (.slice lo ln lc'):=(K.out.2.tch.cell (p:=⟨g,j*5+3,none⟩) hg (fun e=>e)).trans hc
     obtain⟨v1,w1,hr1,o1,c1,rfl,G1⟩:=K.out.2.pushC (.slice lo ln lc',ln) rfl (by have:=K.out.1;omega) (Tch.alloc (fun _=>False) wy (.cells #[.slice lo ln lc'] 22)) wy.heap.size (alloc_new _ _)
     have HR1:Hid ((Builtin.append_ #[105,105] 105 #[.slice co1 cm1 cc1,.slice (some ⟨wy.heap.size,0,none⟩) 1 1]).run Tryz.prog (wy.alloc (.cells #[.slice lo ln lc'] 22))= .ok (.slice o1 (cm1+1) c1) w1):=hr1
     have HK2:Hid (cm1+1≤17*i+1+(j+1)∧GA w0 w1 o7 (rm+2) c7 ((RS.take i).flatMap xr6++[(.slice oo on oc,on),(.slice no nn nc,nn)]) o1 (cm1+1) c1 (((RS.take i).flatMap xc6++[(.slice ko kn kc,kn)])++(p.2.P.take (j+1)).map xq6) o9 (tm+1) c9 ((RS.take i).map xt6++[(.slice to' tn tc',tn)])):=by
      refine⟨by have:=K.out.1;omega,?_⟩
      have e4:(p.2.P.take (j+1)).map xq6=(p.2.P.take j).map xq6++[(.slice lo ln lc',ln)]:=by
       rw[List.take_add_one,hq,List.map_append]
       show _++[(q.2,q.1.cols.length)]=_
       rw[e2, ←hln]
      rw[e4, ←List.append_assoc]
      exact G1
     clear hr1 G1 K hc hq e1 e2 hln HI
     subst e3
     go_upto_region 12 with(at_builtin;refine wpList_app9 _ rfl _ _ 105 rfl rfl _ _ rfl rfl HR1.out ?_)
     clear d13 d3
     go_wp2_with fail
     go_roundg (tn - (j+1))
     case measure=>omega
     case rel=>exact⟨j+1,_,_,_,rfl,by first|rfl|(congr 1;omega),by omega,by omega,HK2⟩
    ·have hj': ¬(j:Int)<(tn:Int):=by omega
     have e1:j=tn:=by omega
     have HJ2:Hid (rm+2=2*(i+1)∧cm1≤17*(i+1)∧tm+1=i+1∧GA w0 wy o7 (rm+2) c7 ((RS.take (i+1)).flatMap xr6) co1 cm1 cc1 ((RS.take (i+1)).flatMap xc6) o9 (tm+1) c9 ((RS.take (i+1)).map xt6)):=by
      obtain⟨q1,q2,q3,q4,_,_,q7,q8,q9⟩:=HK.out
      refine⟨by omega,by have:=K.out.1;omega,by omega,?_⟩
      have k:=K.out.2
      have f1:(RS.take (i+1)).flatMap xr6=(RS.take i).flatMap xr6++[(.slice oo on oc,on),(.slice no nn nc,nn)]:=by rw[List.take_add_one,q1,List.flatMap_append, ←q2];simp
      have f2:(RS.take (i+1)).flatMap xc6=((RS.take i).flatMap xc6++[(.slice ko kn kc,kn)])++(p.2.P.take j).map xq6:=by
       rw[List.take_add_one,q1,List.flatMap_append,List.append_assoc]
       congr 1
       have q3':(Value.slice p.2.co p.1.tb.cols.length p.2.cc,p.1.tb.cols.length)=(Value.slice ko kn kc,kn):=Option.some.inj q3
       rw[←q3',List.take_of_length_le (by have:=HT.out.1;omega)]
       simp
      have f3:(RS.take (i+1)).map xt6=(RS.take i).map xt6++[(.slice to' tn tc',tn)]:=by rw[List.take_add_one,q1,List.map_append, ←q4];simp
      rw[f1,f2,f3]
      exact k
     clear K HI
     go_wp2_with fail
     go_roundg (m - (i+1))
     case measure=>omega
     case rel=>exact⟨i+1,_,_,_,_,_,_,_,_,_,rfl,rfl,rfl,by first|rfl|(congr 1;omega),by omega,by omega,HJ2⟩
  ·have hi': ¬(i:Int)<(m:Int):=by omega
   have e1:i=m:=by omega
   have HF:Hid (rm=2*m∧cm≤17*m∧tm=m∧GA w0 wx ro rm rc ((RS.take m).flatMap xr6) co cm cc ((RS.take m).flatMap xc6) tbo tm tc ((RS.take m).map xt6)):=by have h:=J.out;rw[e1] at h;exact h
   clear J
   go_wp2_with fail
   exact Hexit.out _ _ _ _ _ _ _ _ _ _ _ _ _ _ _ _ _ _ _ _ _ _ _ _ _ _ _ _ _ _ _ _ _ _ _ _ _ _ _ _ _ _ _ _ _ _ _ _ _ _ _ _ _ _ _ _ _ _ _ _ _ _ _ _ ⟨ro,rm,rc,co,cm,cc,tbo,tm,tc,rfl,rfl,rfl,HF⟩
end Go.Proofs.YtaiadknglhemaaaGreatDoor.C
