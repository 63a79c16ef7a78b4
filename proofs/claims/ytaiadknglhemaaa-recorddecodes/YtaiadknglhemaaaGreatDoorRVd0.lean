import Derived.Test.YtaiadknglhemaaaGreatDoorRVe2
import Derived.Test.YtaiadknglhemaaaGreatDoorRVb10
import Derived.Test.YtaiadknglhemaaaGreatDoorRVb5
import Derived.Test.YtaiadknglhemaaaGreatDoorRVr8
import Derived.Test.YtaiadknglhemaaaGreatDoorRV0
set_option maxHeartbeats 8000000
set_option maxRecDepth 100000
namespace Go.Proofs.YtaiadknglhemaaaGreatDoor.C
open Go.RowKit Go Go.Sort
theorem encode_10 (r:Rc) (s:Sk) (F:Nat→Prop) (w:World) (hg:HE w) (h:RW w F r s) (hk:cls r.k=10) (hr:rightC 10 r) (hc:cutC 10 r=r):Calls Tryz.prog 13 #[rV r s] w fun x w'=>x= .returned (.tuple #[.string ⟨(recL r).toArray⟩,.int .i64 0])∧Tch (fun _=>False) w w':=by
 obtain⟨w0,hw0⟩: ∃w0,w0=w.alloc (.cells #[.int .i64 r.k,.int .i64 r.x,.int .i64 r.p,.int .i64 r.t,.slice s.oo r.o.length s.oc,.slice s.no r.n.length s.nc,.string r.nm,.int .i64 r.org,.int .i64 r.tb.id,.int .i64 r.tb.ver,.string r.tb.nm,.slice s.co r.tb.cols.length s.cc,.int .i64 r.tb.key,.slice s.to s.P.length s.tc] 37):=⟨_,rfl⟩
 have t0:Tch (fun _=>False) w w0:=by rw[hw0];exact Tch.alloc _ _ _
 have b0:w0.heap[w.heap.size]? =some (.cells #[.int .i64 r.k,.int .i64 r.x,.int .i64 r.p,.int .i64 r.t,.slice s.oo r.o.length s.oc,.slice s.no r.n.length s.nc,.string r.nm,.int .i64 r.org,.int .i64 r.tb.id,.int .i64 r.tb.ver,.string r.tb.nm,.slice s.co r.tb.cols.length s.cc,.int .i64 r.tb.key,.slice s.to s.P.length s.tc] 37 (0,0)):=by rw[hw0];exact heap_new w _
 have q1:=rightBody_10 r s F w0 (hg.tch t0 (fun h=>h)) (h.no t0) hk hr hc
 have q1:Calls Tryz.prog 30 #[rV r s] w0 fun x w'=>x= .returned (.tuple #[.iface 145 (.agg #[.int .i64 r.x,.int .i64 r.t,.slice s.to s.P.length s.tc]),.int .i64 0])∧Tch (fun _=>False) w0 w':=q1
 rw[hw0] at q1
 have HW0:Hid (w0=w.alloc (.cells #[.int .i64 r.k,.int .i64 r.x,.int .i64 r.p,.int .i64 r.t,.slice s.oo r.o.length s.oc,.slice s.no r.n.length s.nc,.string r.nm,.int .i64 r.org,.int .i64 r.tb.id,.int .i64 r.tb.ver,.string r.tb.nm,.slice s.co r.tb.cols.length s.cc,.int .i64 r.tb.key,.slice s.to s.P.length s.tc] 37)):=hw0
 have hkr:1≤r.k∧r.k≤15:=by
  rcases cls_rng r.k with h1|h1
  ·rw[hk] at h1;cases h1
  ·exact⟨h1.1,h1.2.1⟩
 have m1: ∀(v:Array Value) (W:World),(method 381 145 (.agg v) "confluence/record.lay").run Tryz.prog W= .ok (235,.agg v) W:=fun v W=>by kernel_rfl
 have hgl:1<w.heap.size:=cell_lt hg
 have HR:Hid (∀W,Tch (fun _=>False) w W→RW W F r s∧HE W):=fun W t=>⟨h.no t,hg.tch t (fun h=>h)⟩
 have HRC:Hid (rightC 10 r):=hr
 have HRL:Hid (recL r=bytesL [r.k]++bodyL 10 r):=by show _=_;unfold recL;rw[hk];rfl
 clear h hg hk hr hc hw0
 go_enter Tryz.func13,Tryz.ntmps13
 go_wp2_with fail
 refine q1.mono ?_
 rintro x w1 ⟨rfl,t1⟩
 rw[←HW0.out] at t1
 have T1:Tch (fun _=>False) w w1:=t0.trans' t1
 have b1:w1.heap[w.heap.size]? =some (.cells #[.int .i64 r.k,.int .i64 r.x,.int .i64 r.p,.int .i64 r.t,.slice s.oo r.o.length s.oc,.slice s.no r.n.length s.nc,.string r.nm,.int .i64 r.org,.int .i64 r.tb.id,.int .i64 r.tb.ver,.string r.tb.nm,.slice s.co r.tb.cols.length s.cc,.int .i64 r.tb.key,.slice s.to s.P.length s.tc] 37 (0,0)):=(t1.block _ (blk_lt b0) (fun h=>h)).trans b0
 clear q1 t1 t0 b0 HW0
 go_wp2_with fail
 refine(newWriter_any w1).mono ?_
 rintro x w2 ⟨rfl,h2,t2,z2⟩
 have b2:w2.heap[w.heap.size]? =some (.cells #[.int .i64 r.k,.int .i64 r.x,.int .i64 r.p,.int .i64 r.t,.slice s.oo r.o.length s.oc,.slice s.no r.n.length s.nc,.string r.nm,.int .i64 r.org,.int .i64 r.tb.id,.int .i64 r.tb.ver,.string r.tb.nm,.slice s.co r.tb.cols.length s.cc,.int .i64 r.tb.key,.slice s.to s.P.length s.tc] 37 (0,0)):=(t2.block _ (blk_lt b1) (fun h=>h)).trans b1
 have y0:w2.cell? ⟨w.heap.size,0,none⟩=some (.int .i64 r.k):=blk_cell b2 0
 have T2:=T1.trans' t2
 have HT12:Hid (Tch (fun _=>False) w1 w2):=t2
 clear b1 b2 t2
 go_wp2_with fail
 refine(wbyte1' _ [] r.k _ w2 h2 (by first|rfl|exact z2|simp) (by omega) (by omega) (by simp)).mono ?_
 rintro x w3 ⟨rfl,h3,t3⟩
 have hz1:=T1.size
 have hrw:RW w3 (fun i=>w1.heap.size≤i) r s:=(((HR.out w1 T1).1.low (Nat.le_refl _)).tch (show Tch (fun i=>w1.heap.size≤i) w1 w3 from by
  have t12:Tch (fun _=>False) w1 w2:=HT12.out
  exact(t12.mono (fun _ _ h=>h.elim)).trans' (wt_le t3)) (fun i _ h=>h))
 have hhe:HE w3:=(HR.out w2 T2).2.tch (wt_le t3) (by omega)
 have q4:=lay_10 w1.heap.size _ r s w3 h3 hhe (by omega) hrw HRC.out (by simp[bytesL])
 have T3:Tch (fun i=>w.heap.size≤i) w w3:=(T2.mono (fun _ _ h=>h.elim)).trans (wt_le t3) (fun i _ h=>by omega)
 clear hrw hhe y0 h2
 go_wp2_with fail
 refine q4.mono ?_
 rintro x w4 ⟨rfl,h4,t4⟩
 clear q4
 have T4:Tch (fun i=>w.heap.size≤i) w w4:=T3.trans' ((wt_le t4).mono (fun i _ h=>by omega))
 have hhe:HE w4:=by
  have h5:=(HR.out w2 T2).2.tch (wt_le t3) (by omega)
  exact h5.tch (wt_le t4) (by omega)
 have q5:=wdone_ok w1.heap.size _ w4 h4 hhe
 rw[List.nil_append, ←HRL.out] at q5
 go_wp2_with fail
 refine q5.mono ?_
 rintro x w5 ⟨rfl,t5⟩
 go_wp2_with fail
 go_ret2
 exact⟨rfl,(T4.mono (fun i hi h=>by omega)).trans' t5⟩
theorem encode_ok (r:Rc) (s:Sk) (F:Nat→Prop) (w:World) (hg:HE w) (h:RW w F r s) (hr:rightC (cls r.k) r) (hc:cutC (cls r.k) r=r):Calls Tryz.prog 13 #[rV r s] w fun x w'=>x= .returned (.tuple #[.string ⟨(recL r).toArray⟩,.int .i64 0])∧Tch (fun _=>False) w w':=by
 rcases cls_rng r.k with h0|⟨_,_,h1,h2⟩
 ·rw[h0] at hr;exact hr.elim
 ·obtain⟨c,hcc⟩: ∃c,cls r.k=c:=⟨_,rfl⟩
  rw[hcc] at hr hc h1 h2
  have hc0:c=1∨c=2∨c=3∨c=4∨c=5∨c=6∨c=7∨c=8∨c=9∨c=10:=by omega
  rcases hc0 with rfl|rfl|rfl|rfl|rfl|rfl|rfl|rfl|rfl|rfl
  ·exact encode_1 r s F w hg h hcc hr hc
  ·exact encode_2 r s F w hg h hcc hr hc
  ·exact encode_3 r s F w hg h hcc hr hc
  ·exact encode_4 r s F w hg h hcc hr hc
  ·exact encode_5 r s F w hg h hcc hr hc
  ·exact encode_6 r s F w hg h hcc hr hc
  ·exact encode_7 r s F w hg h hcc hr hc
  ·exact encode_8 r s F w hg h hcc hr hc
  ·exact encode_9 r s F w hg h hcc hr hc
  ·exact encode_10 r s F w hg h hcc hr hc
end Go.Proofs.YtaiadknglhemaaaGreatDoor.C
namespace Go.Proofs.YtaiadknglhemaaaGreatDoor.C
open Go.RowKit
structure RN (W:World) (base:Nat) (r:Rc) (s:Sk):Prop where
 o:W.ownsRow base 58 3 (.slice s.oo r.o.length s.oc) r.o.length (vcl r.o)
 n:W.ownsRow base 58 3 (.slice s.no r.n.length s.nc) r.n.length (vcl r.n)
 tb:W.ownsRow base 43 3 (.slice s.co r.tb.cols.length s.cc) r.tb.cols.length (ccl r.tb.cols)
 tbs:TO W base (.slice s.to s.P.length s.tc) s.P
 eq:s.P.map Prod.fst=r.tbs
 on: ∀g,(Value.slice s.oo r.o.length s.oc).ownBlock=some g→(Value.slice s.no r.n.length s.nc).ownBlock≠some g
theorem to_nil (W:World) (base:Nat):TO W base (.slice none 0 0) []:=⟨World.ownsRow_nil _ _ _ _,fun i hi=>by simp at hi,fun i hi=>by simp at hi,fun i j hi=>by simp at hi⟩
theorem own_tchb {W W':World} {b base sz n:Nat} {t:TypeId} {v:Value} {xs:List Value} (h:W.ownsRow base t sz v n xs) (tc:Tch (fun i=>i=b) W W') (hb:b<base):W'.ownsRow base t sz v n xs:=own_tch h tc (fun g hg e=>by have:=row_ge h hg;omega)
theorem to_low {W:World} {N N':Nat} {tv:Value} {P:List (Tbl×Value)} (h:TO W N tv P) (hN:N'≤N):TO W N' tv P:=⟨own_low h.own hN,fun i hi=>own_low (h.col i hi) hN,h.sep,h.dis⟩
def TkOut (S:ByteArray) (k:Int) (c:Nat) (p:Nat×Int) (b:Nat) (w:World) (x:Ending) (w':World):Prop:=
 (∃s,x= .returned (bV c (tkC S k c p).1 s)∧RN w' w.heap.size (tkC S k c p).1 s)∧RD w' b S (tkC S k c p).2.1 (tkC S k c p).2.2∧Tch (fun i=>i=b) w w'
theorem take_1 (b:Nat) (S:ByteArray) (k:Int) (a:Nat) (e:Int) (w:World) (h:RD w b S a e) (hg:HE w) (hgb:1≠b) (hS:S.size≤281474976710656):
  Calls Tryz.prog 187 #[.agg #[.int .i64 0],.pointer (some ⟨b,0,none⟩)] w fun x w'=>TkOut S k 1 (a,e) b w x w':=by
 have hb:=cell_lt h.st.c0
 obtain⟨w0,hw0⟩: ∃w0,w0=w.alloc (.cells #[.int .i64 0] 128):=⟨_,rfl⟩
 have t0:Tch (fun _=>False) w w0:=by rw[hw0];exact Tch.alloc _ _ _
 have h0:=RD.no h t0
 have HG:Hid (∀W,Tch (fun i=>i=b) w W→HE W):=fun W t=>hg.tch t hgb
 have T0:Tch (fun i=>i=b) w w0:=t0.mono (fun _ _ h=>h.elim)
 have HW0:Hid (w0=w.alloc (.cells #[.int .i64 0] 128)):=hw0
 have z0:=T0.size
 obtain⟨A1,hA1⟩: ∃A,A=numR 9 127 S (a,e).1 (a,e).2:=⟨_,rfl⟩
 have HA1:Hid (A1=numR 9 127 S (a,e).1 (a,e).2):=hA1
 have HT:Hid (tkC S k 1 (a,e)=({ rc0 k with x:=A1.1 },A1.2)):=by
  show _=_
  rw[hA1]
  rfl
 clear hA1 h hg t0 hw0
 go_enter Tryz.func187,Tryz.ntmps187
 have q1:=rvar_any b S (a,e).1 (a,e).2 w0 h0 hS
 rw[←HA1.out] at q1
 rw[HW0.out] at q1
 go_wp2_with fail
 refine q1.mono ?_
 rintro x w1 ⟨rfl,h1,t1⟩
 rw[←HW0.out] at t1
 have T1:=T0.trans' t1
 have z1:=T1.size
 clear q1
 go_wp2_with fail
 go_ret
 unfold TkOut
 rw[HT.out]
 refine⟨⟨sk0,rfl,World.ownsRow_nil _ _ _ _,World.ownsRow_nil _ _ _ _,World.ownsRow_nil _ _ _ _,to_nil _ _,rfl,?_⟩,h1,T1⟩
 exact fun g e1 e2=>by cases e1
theorem take_2 (b:Nat) (S:ByteArray) (k:Int) (a:Nat) (e:Int) (w:World) (h:RD w b S a e) (hg:HE w) (hgb:1≠b) (hS:S.size≤281474976710656):
  Calls Tryz.prog 194 #[.agg #[.int .i64 0,.int .i64 0],.pointer (some ⟨b,0,none⟩)] w fun x w'=>TkOut S k 2 (a,e) b w x w':=by
 have hb:=cell_lt h.st.c0
 obtain⟨w0,hw0⟩: ∃w0,w0=w.alloc (.cells #[.int .i64 0,.int .i64 0] 130):=⟨_,rfl⟩
 have t0:Tch (fun _=>False) w w0:=by rw[hw0];exact Tch.alloc _ _ _
 have h0:=RD.no h t0
 have HG:Hid (∀W,Tch (fun i=>i=b) w W→HE W):=fun W t=>hg.tch t hgb
 have T0:Tch (fun i=>i=b) w w0:=t0.mono (fun _ _ h=>h.elim)
 have HW0:Hid (w0=w.alloc (.cells #[.int .i64 0,.int .i64 0] 130)):=hw0
 have z0:=T0.size
 obtain⟨A1,hA1⟩: ∃A,A=numR 9 127 S (a,e).1 (a,e).2:=⟨_,rfl⟩
 have HA1:Hid (A1=numR 9 127 S (a,e).1 (a,e).2):=hA1
 obtain⟨A2,hA2⟩: ∃A,A=numR 9 127 S A1.2.1 A1.2.2:=⟨_,rfl⟩
 have HA2:Hid (A2=numR 9 127 S A1.2.1 A1.2.2):=hA2
 have HT:Hid (tkC S k 2 (a,e)=({ rc0 k with x:=A1.1,p:=A2.1 },A2.2)):=by
  show _=_
  rw[hA2,hA1]
  rfl
 clear hA1 hA2 h hg t0 hw0
 go_enter Tryz.func194,Tryz.ntmps194
 have q1:=rvar_any b S (a,e).1 (a,e).2 w0 h0 hS
 rw[←HA1.out] at q1
 rw[HW0.out] at q1
 go_wp2_with fail
 refine q1.mono ?_
 rintro x w1 ⟨rfl,h1,t1⟩
 rw[←HW0.out] at t1
 have T1:=T0.trans' t1
 have z1:=T1.size
 clear q1
 have q2:=rvar_any b S A1.2.1 A1.2.2 w1 h1 hS
 rw[←HA2.out] at q2
 go_wp2_with fail
 refine q2.mono ?_
 rintro x w2 ⟨rfl,h2,t2⟩
 have T2:=T1.trans' t2
 have z2:=T2.size
 clear q2
 go_wp2_with fail
 go_ret
 unfold TkOut
 rw[HT.out]
 refine⟨⟨sk0,rfl,World.ownsRow_nil _ _ _ _,World.ownsRow_nil _ _ _ _,World.ownsRow_nil _ _ _ _,to_nil _ _,rfl,?_⟩,h2,T2⟩
 exact fun g e1 e2=>by cases e1
theorem take_3 (b:Nat) (S:ByteArray) (k:Int) (a:Nat) (e:Int) (w:World) (h:RD w b S a e) (hg:HE w) (hgb:1≠b) (hS:S.size≤281474976710656):
  Calls Tryz.prog 197 #[.agg #[.int .i64 0,.int .i64 0,.slice none 0 0],.pointer (some ⟨b,0,none⟩)] w fun x w'=>TkOut S k 3 (a,e) b w x w':=by
 have hb:=cell_lt h.st.c0
 obtain⟨w0,hw0⟩: ∃w0,w0=w.alloc (.cells #[.int .i64 0,.int .i64 0,.slice none 0 0] 132):=⟨_,rfl⟩
 have t0:Tch (fun _=>False) w w0:=by rw[hw0];exact Tch.alloc _ _ _
 have h0:=RD.no h t0
 have HG:Hid (∀W,Tch (fun i=>i=b) w W→HE W):=fun W t=>hg.tch t hgb
 have T0:Tch (fun i=>i=b) w w0:=t0.mono (fun _ _ h=>h.elim)
 have HW0:Hid (w0=w.alloc (.cells #[.int .i64 0,.int .i64 0,.slice none 0 0] 132)):=hw0
 have z0:=T0.size
 obtain⟨A1,hA1⟩: ∃A,A=numR 9 127 S (a,e).1 (a,e).2:=⟨_,rfl⟩
 have HA1:Hid (A1=numR 9 127 S (a,e).1 (a,e).2):=hA1
 obtain⟨A2,hA2⟩: ∃A,A=numR 9 127 S A1.2.1 A1.2.2:=⟨_,rfl⟩
 have HA2:Hid (A2=numR 9 127 S A1.2.1 A1.2.2):=hA2
 obtain⟨A3,hA3⟩: ∃A,A=tkRow S A2.2:=⟨_,rfl⟩
 have HA3:Hid (A3=tkRow S A2.2):=hA3
 have HT:Hid (tkC S k 3 (a,e)=({ rc0 k with x:=A1.1,t:=A2.1,n:=A3.1 },A3.2)):=by
  show _=_
  rw[hA3,hA2,hA1]
  rfl
 clear hA1 hA2 hA3 h hg t0 hw0
 go_enter Tryz.func197,Tryz.ntmps197
 have q1:=rvar_any b S (a,e).1 (a,e).2 w0 h0 hS
 rw[←HA1.out] at q1
 rw[HW0.out] at q1
 go_wp2_with fail
 refine q1.mono ?_
 rintro x w1 ⟨rfl,h1,t1⟩
 rw[←HW0.out] at t1
 have T1:=T0.trans' t1
 have z1:=T1.size
 clear q1
 have q2:=rvar_any b S A1.2.1 A1.2.2 w1 h1 hS
 rw[←HA2.out] at q2
 go_wp2_with fail
 refine q2.mono ?_
 rintro x w2 ⟨rfl,h2,t2⟩
 have T2:=T1.trans' t2
 have z2:=T2.size
 clear q2
 have q3:=takeRow_any b S A2.2.1 A2.2.2 w2 h2 (HG.out w2 T2) hgb hS
 rw[show(A2.2.1,A2.2.2)=A2.2 from rfl, ←HA3.out] at q3
 go_wp2_with fail
 refine q3.mono ?_
 rintro x w3 ⟨⟨v3,rfl,hv3⟩,h3,t3⟩
 obtain⟨vo3,vc3,e3⟩:=row_slice hv3
 subst e3
 have T3:=T2.trans' t3
 have z3:=T3.size
 clear q3
 have HV3:Hid _:=hv3
 clear hv3
 go_wp2_with fail
 go_ret
 unfold TkOut
 rw[HT.out]
 refine⟨⟨{ sk0 with no:=vo3,nc:=vc3 },rfl,World.ownsRow_nil _ _ _ _,own_low HV3.out (by omega),World.ownsRow_nil _ _ _ _,to_nil _ _,rfl,?_⟩,h3,T3⟩
 exact fun g e1 e2=>by cases e1
theorem take_4 (b:Nat) (S:ByteArray) (k:Int) (a:Nat) (e:Int) (w:World) (h:RD w b S a e) (hg:HE w) (hgb:1≠b) (hS:S.size≤281474976710656):
  Calls Tryz.prog 212 #[.agg #[.int .i64 0,.int .i64 0,.slice none 0 0,.slice none 0 0],.pointer (some ⟨b,0,none⟩)] w fun x w'=>TkOut S k 4 (a,e) b w x w':=by
 have hb:=cell_lt h.st.c0
 obtain⟨w0,hw0⟩: ∃w0,w0=w.alloc (.cells #[.int .i64 0,.int .i64 0,.slice none 0 0,.slice none 0 0] 134):=⟨_,rfl⟩
 have t0:Tch (fun _=>False) w w0:=by rw[hw0];exact Tch.alloc _ _ _
 have h0:=RD.no h t0
 have HG:Hid (∀W,Tch (fun i=>i=b) w W→HE W):=fun W t=>hg.tch t hgb
 have T0:Tch (fun i=>i=b) w w0:=t0.mono (fun _ _ h=>h.elim)
 have HW0:Hid (w0=w.alloc (.cells #[.int .i64 0,.int .i64 0,.slice none 0 0,.slice none 0 0] 134)):=hw0
 have z0:=T0.size
 obtain⟨A1,hA1⟩: ∃A,A=numR 9 127 S (a,e).1 (a,e).2:=⟨_,rfl⟩
 have HA1:Hid (A1=numR 9 127 S (a,e).1 (a,e).2):=hA1
 obtain⟨A2,hA2⟩: ∃A,A=numR 9 127 S A1.2.1 A1.2.2:=⟨_,rfl⟩
 have HA2:Hid (A2=numR 9 127 S A1.2.1 A1.2.2):=hA2
 obtain⟨A3,hA3⟩: ∃A,A=tkRow S A2.2:=⟨_,rfl⟩
 have HA3:Hid (A3=tkRow S A2.2):=hA3
 obtain⟨A4,hA4⟩: ∃A,A=tkRow S A3.2:=⟨_,rfl⟩
 have HA4:Hid (A4=tkRow S A3.2):=hA4
 have HT:Hid (tkC S k 4 (a,e)=({ rc0 k with x:=A1.1,t:=A2.1,o:=A3.1,n:=A4.1 },A4.2)):=by
  show _=_
  rw[hA4,hA3,hA2,hA1]
  rfl
 clear hA1 hA2 hA3 hA4 h hg t0 hw0
 go_enter Tryz.func212,Tryz.ntmps212
 have q1:=rvar_any b S (a,e).1 (a,e).2 w0 h0 hS
 rw[←HA1.out] at q1
 rw[HW0.out] at q1
 go_wp2_with fail
 refine q1.mono ?_
 rintro x w1 ⟨rfl,h1,t1⟩
 rw[←HW0.out] at t1
 have T1:=T0.trans' t1
 have z1:=T1.size
 clear q1
 have q2:=rvar_any b S A1.2.1 A1.2.2 w1 h1 hS
 rw[←HA2.out] at q2
 go_wp2_with fail
 refine q2.mono ?_
 rintro x w2 ⟨rfl,h2,t2⟩
 have T2:=T1.trans' t2
 have z2:=T2.size
 clear q2
 have q3:=takeRow_any b S A2.2.1 A2.2.2 w2 h2 (HG.out w2 T2) hgb hS
 rw[show(A2.2.1,A2.2.2)=A2.2 from rfl, ←HA3.out] at q3
 go_wp2_with fail
 refine q3.mono ?_
 rintro x w3 ⟨⟨v3,rfl,hv3⟩,h3,t3⟩
 obtain⟨vo3,vc3,e3⟩:=row_slice hv3
 subst e3
 have T3:=T2.trans' t3
 have z3:=T3.size
 clear q3
 have q4:=takeRow_any b S A3.2.1 A3.2.2 w3 h3 (HG.out w3 T3) hgb hS
 rw[show(A3.2.1,A3.2.2)=A3.2 from rfl, ←HA4.out] at q4
 go_wp2_with fail
 refine q4.mono ?_
 rintro x w4 ⟨⟨v4,rfl,hv4⟩,h4,t4⟩
 obtain⟨vo4,vc4,e4⟩:=row_slice hv4
 subst e4
 have T4:=T3.trans' t4
 have z4:=T4.size
 clear q4
 have HV3:Hid (w4.ownsRow w2.heap.size 58 3 (.slice vo3 A3.1.length vc3) A3.1.length (vcl A3.1)):=own_tchb hv3 t4 (by omega)
 have HV4:Hid _:=hv4
 have HLT:Hid (∀g,(Value.slice vo3 A3.1.length vc3).ownBlock=some g→g<w3.heap.size):=fun g hg=>(hv3.lt g hg).2
 clear hv3 hv4
 go_wp2_with fail
 go_ret
 unfold TkOut
 rw[HT.out]
 refine⟨⟨{ sk0 with oo:=vo3,oc:=vc3,no:=vo4,nc:=vc4 },rfl,own_low HV3.out (by omega),own_low HV4.out (by omega),World.ownsRow_nil _ _ _ _,to_nil _ _,rfl,?_⟩,h4,T4⟩
 exact fun g e1 e2=>by have:=HLT.out g e1;have:=row_ge HV4.out e2;omega
theorem take_5 (b:Nat) (S:ByteArray) (k:Int) (a:Nat) (e:Int) (w:World) (h:RD w b S a e) (hg:HE w) (hgb:1≠b) (hS:S.size≤281474976710656):
  Calls Tryz.prog 215 #[.agg #[.int .i64 0,.int .i64 0,.slice none 0 0],.pointer (some ⟨b,0,none⟩)] w fun x w'=>TkOut S k 5 (a,e) b w x w':=by
 have hb:=cell_lt h.st.c0
 obtain⟨w0,hw0⟩: ∃w0,w0=w.alloc (.cells #[.int .i64 0,.int .i64 0,.slice none 0 0] 135):=⟨_,rfl⟩
 have t0:Tch (fun _=>False) w w0:=by rw[hw0];exact Tch.alloc _ _ _
 have h0:=RD.no h t0
 have HG:Hid (∀W,Tch (fun i=>i=b) w W→HE W):=fun W t=>hg.tch t hgb
 have T0:Tch (fun i=>i=b) w w0:=t0.mono (fun _ _ h=>h.elim)
 have HW0:Hid (w0=w.alloc (.cells #[.int .i64 0,.int .i64 0,.slice none 0 0] 135)):=hw0
 have z0:=T0.size
 obtain⟨A1,hA1⟩: ∃A,A=numR 9 127 S (a,e).1 (a,e).2:=⟨_,rfl⟩
 have HA1:Hid (A1=numR 9 127 S (a,e).1 (a,e).2):=hA1
 obtain⟨A2,hA2⟩: ∃A,A=numR 9 127 S A1.2.1 A1.2.2:=⟨_,rfl⟩
 have HA2:Hid (A2=numR 9 127 S A1.2.1 A1.2.2):=hA2
 obtain⟨A3,hA3⟩: ∃A,A=tkRow S A2.2:=⟨_,rfl⟩
 have HA3:Hid (A3=tkRow S A2.2):=hA3
 have HT:Hid (tkC S k 5 (a,e)=({ rc0 k with x:=A1.1,t:=A2.1,o:=A3.1 },A3.2)):=by
  show _=_
  rw[hA3,hA2,hA1]
  rfl
 clear hA1 hA2 hA3 h hg t0 hw0
 go_enter Tryz.func215,Tryz.ntmps215
 have q1:=rvar_any b S (a,e).1 (a,e).2 w0 h0 hS
 rw[←HA1.out] at q1
 rw[HW0.out] at q1
 go_wp2_with fail
 refine q1.mono ?_
 rintro x w1 ⟨rfl,h1,t1⟩
 rw[←HW0.out] at t1
 have T1:=T0.trans' t1
 have z1:=T1.size
 clear q1
 have q2:=rvar_any b S A1.2.1 A1.2.2 w1 h1 hS
 rw[←HA2.out] at q2
 go_wp2_with fail
 refine q2.mono ?_
 rintro x w2 ⟨rfl,h2,t2⟩
 have T2:=T1.trans' t2
 have z2:=T2.size
 clear q2
 have q3:=takeRow_any b S A2.2.1 A2.2.2 w2 h2 (HG.out w2 T2) hgb hS
 rw[show(A2.2.1,A2.2.2)=A2.2 from rfl, ←HA3.out] at q3
 go_wp2_with fail
 refine q3.mono ?_
 rintro x w3 ⟨⟨v3,rfl,hv3⟩,h3,t3⟩
 obtain⟨vo3,vc3,e3⟩:=row_slice hv3
 subst e3
 have T3:=T2.trans' t3
 have z3:=T3.size
 clear q3
 have HV3:Hid _:=hv3
 clear hv3
 go_wp2_with fail
 go_ret
 unfold TkOut
 rw[HT.out]
 refine⟨⟨{ sk0 with oo:=vo3,oc:=vc3 },rfl,own_low HV3.out (by omega),World.ownsRow_nil _ _ _ _,World.ownsRow_nil _ _ _ _,to_nil _ _,rfl,?_⟩,h3,T3⟩
 exact fun g e1 e2=>by cases e2
theorem take_6 (b:Nat) (S:ByteArray) (k:Int) (a:Nat) (e:Int) (w:World) (h:RD w b S a e) (hg:HE w) (hgb:1≠b) (hS:S.size≤281474976710656):
  Calls Tryz.prog 218 #[.agg #[.int .i64 0,.string ⟨#[]⟩,.int .i64 0],.pointer (some ⟨b,0,none⟩)] w fun x w'=>TkOut S k 6 (a,e) b w x w':=by
 have hb:=cell_lt h.st.c0
 obtain⟨w0,hw0⟩: ∃w0,w0=w.alloc (.cells #[.int .i64 0,.string ⟨#[]⟩,.int .i64 0] 137):=⟨_,rfl⟩
 have t0:Tch (fun _=>False) w w0:=by rw[hw0];exact Tch.alloc _ _ _
 have h0:=RD.no h t0
 have HG:Hid (∀W,Tch (fun i=>i=b) w W→HE W):=fun W t=>hg.tch t hgb
 have T0:Tch (fun i=>i=b) w w0:=t0.mono (fun _ _ h=>h.elim)
 have HW0:Hid (w0=w.alloc (.cells #[.int .i64 0,.string ⟨#[]⟩,.int .i64 0] 137)):=hw0
 have z0:=T0.size
 obtain⟨A1,hA1⟩: ∃A,A=numR 9 127 S (a,e).1 (a,e).2:=⟨_,rfl⟩
 have HA1:Hid (A1=numR 9 127 S (a,e).1 (a,e).2):=hA1
 obtain⟨A2,hA2⟩: ∃A,A=textR 16 S A1.2.1 A1.2.2:=⟨_,rfl⟩
 have HA2:Hid (A2=textR 16 S A1.2.1 A1.2.2):=hA2
 obtain⟨A3,hA3⟩: ∃A,A=numR 9 127 S A2.2.1 A2.2.2:=⟨_,rfl⟩
 have HA3:Hid (A3=numR 9 127 S A2.2.1 A2.2.2):=hA3
 have HT:Hid (tkC S k 6 (a,e)=({ rc0 k with x:=A1.1,nm:=A2.1,org:=A3.1 },A3.2)):=by
  show _=_
  rw[hA3,hA2,hA1]
  rfl
 clear hA1 hA2 hA3 h hg t0 hw0
 go_enter Tryz.func218,Tryz.ntmps218
 have q1:=rvar_any b S (a,e).1 (a,e).2 w0 h0 hS
 rw[←HA1.out] at q1
 rw[HW0.out] at q1
 go_wp2_with fail
 refine q1.mono ?_
 rintro x w1 ⟨rfl,h1,t1⟩
 rw[←HW0.out] at t1
 have T1:=T0.trans' t1
 have z1:=T1.size
 clear q1
 have q2:=rtext_any b S A1.2.1 A1.2.2 16 w1 h1 hS
 rw[←HA2.out] at q2
 go_wp2_with fail
 refine q2.mono ?_
 rintro x w2 ⟨rfl,h2,t2⟩
 have T2:=T1.trans' t2
 have z2:=T2.size
 clear q2
 have q3:=rvar_any b S A2.2.1 A2.2.2 w2 h2 hS
 rw[←HA3.out] at q3
 go_wp2_with fail
 refine q3.mono ?_
 rintro x w3 ⟨rfl,h3,t3⟩
 have T3:=T2.trans' t3
 have z3:=T3.size
 clear q3
 go_wp2_with fail
 go_ret
 unfold TkOut
 rw[HT.out]
 refine⟨⟨sk0,rfl,World.ownsRow_nil _ _ _ _,World.ownsRow_nil _ _ _ _,World.ownsRow_nil _ _ _ _,to_nil _ _,rfl,?_⟩,h3,T3⟩
 exact fun g e1 e2=>by cases e1
theorem take_7 (b:Nat) (S:ByteArray) (k:Int) (a:Nat) (e:Int) (w:World) (h:RD w b S a e) (hg:HE w) (hgb:1≠b) (hS:S.size≤281474976710656):
  Calls Tryz.prog 223 #[.agg #[.int .i64 0,.string ⟨#[]⟩],.pointer (some ⟨b,0,none⟩)] w fun x w'=>TkOut S k 7 (a,e) b w x w':=by
 have hb:=cell_lt h.st.c0
 obtain⟨w0,hw0⟩: ∃w0,w0=w.alloc (.cells #[.int .i64 0,.string ⟨#[]⟩] 139):=⟨_,rfl⟩
 have t0:Tch (fun _=>False) w w0:=by rw[hw0];exact Tch.alloc _ _ _
 have h0:=RD.no h t0
 have HG:Hid (∀W,Tch (fun i=>i=b) w W→HE W):=fun W t=>hg.tch t hgb
 have T0:Tch (fun i=>i=b) w w0:=t0.mono (fun _ _ h=>h.elim)
 have HW0:Hid (w0=w.alloc (.cells #[.int .i64 0,.string ⟨#[]⟩] 139)):=hw0
 have z0:=T0.size
 obtain⟨A1,hA1⟩: ∃A,A=numR 9 127 S (a,e).1 (a,e).2:=⟨_,rfl⟩
 have HA1:Hid (A1=numR 9 127 S (a,e).1 (a,e).2):=hA1
 obtain⟨A2,hA2⟩: ∃A,A=textR 16 S A1.2.1 A1.2.2:=⟨_,rfl⟩
 have HA2:Hid (A2=textR 16 S A1.2.1 A1.2.2):=hA2
 have HT:Hid (tkC S k 7 (a,e)=({ rc0 k with x:=A1.1,nm:=A2.1 },A2.2)):=by
  show _=_
  rw[hA2,hA1]
  rfl
 clear hA1 hA2 h hg t0 hw0
 go_enter Tryz.func223,Tryz.ntmps223
 have q1:=rvar_any b S (a,e).1 (a,e).2 w0 h0 hS
 rw[←HA1.out] at q1
 rw[HW0.out] at q1
 go_wp2_with fail
 refine q1.mono ?_
 rintro x w1 ⟨rfl,h1,t1⟩
 rw[←HW0.out] at t1
 have T1:=T0.trans' t1
 have z1:=T1.size
 clear q1
 have q2:=rtext_any b S A1.2.1 A1.2.2 16 w1 h1 hS
 rw[←HA2.out] at q2
 go_wp2_with fail
 refine q2.mono ?_
 rintro x w2 ⟨rfl,h2,t2⟩
 have T2:=T1.trans' t2
 have z2:=T2.size
 clear q2
 go_wp2_with fail
 go_ret
 unfold TkOut
 rw[HT.out]
 refine⟨⟨sk0,rfl,World.ownsRow_nil _ _ _ _,World.ownsRow_nil _ _ _ _,World.ownsRow_nil _ _ _ _,to_nil _ _,rfl,?_⟩,h2,T2⟩
 exact fun g e1 e2=>by cases e1
theorem take_8 (b:Nat) (S:ByteArray) (k:Int) (a:Nat) (e:Int) (w:World) (h:RD w b S a e) (hg:HE w) (hgb:1≠b) (hS:S.size≤281474976710656):
  Calls Tryz.prog 226 #[.agg #[.int .i64 0,.int .i64 0,.int .i64 0,.string ⟨#[]⟩,.slice none 0 0,.int .i64 0],.pointer (some ⟨b,0,none⟩)] w fun x w'=>TkOut S k 8 (a,e) b w x w':=by
 have hb:=cell_lt h.st.c0
 obtain⟨w0,hw0⟩: ∃w0,w0=w.alloc (.cells #[.int .i64 0,.int .i64 0,.int .i64 0,.string ⟨#[]⟩,.slice none 0 0,.int .i64 0] 141):=⟨_,rfl⟩
 have t0:Tch (fun _=>False) w w0:=by rw[hw0];exact Tch.alloc _ _ _
 have h0:=RD.no h t0
 have HG:Hid (∀W,Tch (fun i=>i=b) w W→HE W):=fun W t=>hg.tch t hgb
 have T0:Tch (fun i=>i=b) w w0:=t0.mono (fun _ _ h=>h.elim)
 have HW0:Hid (w0=w.alloc (.cells #[.int .i64 0,.int .i64 0,.int .i64 0,.string ⟨#[]⟩,.slice none 0 0,.int .i64 0] 141)):=hw0
 have z0:=T0.size
 obtain⟨A1,hA1⟩: ∃A,A=numR 9 127 S (a,e).1 (a,e).2:=⟨_,rfl⟩
 have HA1:Hid (A1=numR 9 127 S (a,e).1 (a,e).2):=hA1
 obtain⟨A2,hA2⟩: ∃A,A=tkTab S A1.2:=⟨_,rfl⟩
 have HA2:Hid (A2=tkTab S A1.2):=hA2
 have HT:Hid (tkC S k 8 (a,e)=({ rc0 k with x:=A1.1,tb:=A2.1 },A2.2)):=by
  show _=_
  rw[hA2,hA1]
  rfl
 clear hA1 hA2 h hg t0 hw0
 go_enter Tryz.func226,Tryz.ntmps226
 have q1:=rvar_any b S (a,e).1 (a,e).2 w0 h0 hS
 rw[←HA1.out] at q1
 rw[HW0.out] at q1
 go_wp2_with fail
 refine q1.mono ?_
 rintro x w1 ⟨rfl,h1,t1⟩
 rw[←HW0.out] at t1
 have T1:=T0.trans' t1
 have z1:=T1.size
 clear q1
 have q2:=takeTable_any b S A1.2.1 A1.2.2 w1 h1 hS
 rw[show(A1.2.1,A1.2.2)=A1.2 from rfl, ←HA2.out] at q2
 go_wp2_with fail
 refine q2.mono ?_
 rintro x w2 ⟨⟨v2,rfl,hv2⟩,h2,t2⟩
 obtain⟨vo2,vc2,e2⟩:=row_slice hv2
 subst e2
 have T2:=T1.trans' t2
 have z2:=T2.size
 clear q2
 have HV2:Hid _:=hv2
 clear hv2
 go_wp2_with fail
 go_ret
 unfold TkOut
 rw[HT.out]
 refine⟨⟨{ sk0 with co:=vo2,cc:=vc2 },rfl,World.ownsRow_nil _ _ _ _,World.ownsRow_nil _ _ _ _,own_low HV2.out (by omega),to_nil _ _,rfl,?_⟩,h2,T2⟩
 exact fun g e1 e2=>by cases e1
theorem take_9 (b:Nat) (S:ByteArray) (k:Int) (a:Nat) (e:Int) (w:World) (h:RD w b S a e) (hg:HE w) (hgb:1≠b) (hS:S.size≤281474976710656):
  Calls Tryz.prog 233 #[.agg #[.int .i64 0,.int .i64 0],.pointer (some ⟨b,0,none⟩)] w fun x w'=>TkOut S k 9 (a,e) b w x w':=by
 have hb:=cell_lt h.st.c0
 obtain⟨w0,hw0⟩: ∃w0,w0=w.alloc (.cells #[.int .i64 0,.int .i64 0] 143):=⟨_,rfl⟩
 have t0:Tch (fun _=>False) w w0:=by rw[hw0];exact Tch.alloc _ _ _
 have h0:=RD.no h t0
 have HG:Hid (∀W,Tch (fun i=>i=b) w W→HE W):=fun W t=>hg.tch t hgb
 have T0:Tch (fun i=>i=b) w w0:=t0.mono (fun _ _ h=>h.elim)
 have HW0:Hid (w0=w.alloc (.cells #[.int .i64 0,.int .i64 0] 143)):=hw0
 have z0:=T0.size
 obtain⟨A1,hA1⟩: ∃A,A=numR 9 127 S (a,e).1 (a,e).2:=⟨_,rfl⟩
 have HA1:Hid (A1=numR 9 127 S (a,e).1 (a,e).2):=hA1
 obtain⟨A2,hA2⟩: ∃A,A=numR 9 127 S A1.2.1 A1.2.2:=⟨_,rfl⟩
 have HA2:Hid (A2=numR 9 127 S A1.2.1 A1.2.2):=hA2
 have HT:Hid (tkC S k 9 (a,e)=({ rc0 k with x:=A1.1,t:=A2.1 },A2.2)):=by
  show _=_
  rw[hA2,hA1]
  rfl
 clear hA1 hA2 h hg t0 hw0
 go_enter Tryz.func233,Tryz.ntmps233
 have q1:=rvar_any b S (a,e).1 (a,e).2 w0 h0 hS
 rw[←HA1.out] at q1
 rw[HW0.out] at q1
 go_wp2_with fail
 refine q1.mono ?_
 rintro x w1 ⟨rfl,h1,t1⟩
 rw[←HW0.out] at t1
 have T1:=T0.trans' t1
 have z1:=T1.size
 clear q1
 have q2:=rvar_any b S A1.2.1 A1.2.2 w1 h1 hS
 rw[←HA2.out] at q2
 go_wp2_with fail
 refine q2.mono ?_
 rintro x w2 ⟨rfl,h2,t2⟩
 have T2:=T1.trans' t2
 have z2:=T2.size
 clear q2
 go_wp2_with fail
 go_ret
 unfold TkOut
 rw[HT.out]
 refine⟨⟨sk0,rfl,World.ownsRow_nil _ _ _ _,World.ownsRow_nil _ _ _ _,World.ownsRow_nil _ _ _ _,to_nil _ _,rfl,?_⟩,h2,T2⟩
 exact fun g e1 e2=>by cases e1
theorem take_10 (b:Nat) (S:ByteArray) (k:Int) (a:Nat) (e:Int) (w:World) (h:RD w b S a e) (hg:HE w) (hgb:1≠b) (hS:S.size≤281474976710656):
  Calls Tryz.prog 236 #[.agg #[.int .i64 0,.int .i64 0,.slice none 0 0],.pointer (some ⟨b,0,none⟩)] w fun x w'=>TkOut S k 10 (a,e) b w x w':=by
 have hb:=cell_lt h.st.c0
 obtain⟨w0,hw0⟩: ∃w0,w0=w.alloc (.cells #[.int .i64 0,.int .i64 0,.slice none 0 0] 145):=⟨_,rfl⟩
 have t0:Tch (fun _=>False) w w0:=by rw[hw0];exact Tch.alloc _ _ _
 have h0:=RD.no h t0
 have HG:Hid (∀W,Tch (fun i=>i=b) w W→HE W):=fun W t=>hg.tch t hgb
 have T0:Tch (fun i=>i=b) w w0:=t0.mono (fun _ _ h=>h.elim)
 have HW0:Hid (w0=w.alloc (.cells #[.int .i64 0,.int .i64 0,.slice none 0 0] 145)):=hw0
 have z0:=T0.size
 obtain⟨A1,hA1⟩: ∃A,A=numR 9 127 S (a,e).1 (a,e).2:=⟨_,rfl⟩
 have HA1:Hid (A1=numR 9 127 S (a,e).1 (a,e).2):=hA1
 obtain⟨A2,hA2⟩: ∃A,A=numR 9 127 S A1.2.1 A1.2.2:=⟨_,rfl⟩
 have HA2:Hid (A2=numR 9 127 S A1.2.1 A1.2.2):=hA2
 obtain⟨A3,hA3⟩: ∃A,A=tkTabs S (byteR S A2.2.1 A2.2.2).1 (byteR S A2.2.1 A2.2.2).2 []:=⟨_,rfl⟩
 have HA3:Hid (A3=tkTabs S (byteR S A2.2.1 A2.2.2).1 (byteR S A2.2.1 A2.2.2).2 []):=hA3
 have HT:Hid (tkC S k 10 (a,e)=({ rc0 k with x:=A1.1,t:=A2.1,tbs:=A3.1 },A3.2)):=by
  show _=_
  rw[hA3,hA2,hA1]
  rfl
 clear hA1 hA2 hA3 h hg t0 hw0
 go_enter Tryz.func236,Tryz.ntmps236
 have q1:=rvar_any b S (a,e).1 (a,e).2 w0 h0 hS
 rw[←HA1.out] at q1
 rw[HW0.out] at q1
 go_wp2_with fail
 refine q1.mono ?_
 rintro x w1 ⟨rfl,h1,t1⟩
 rw[←HW0.out] at t1
 have T1:=T0.trans' t1
 have z1:=T1.size
 clear q1
 have q2:=rvar_any b S A1.2.1 A1.2.2 w1 h1 hS
 rw[←HA2.out] at q2
 go_wp2_with fail
 refine q2.mono ?_
 rintro x w2 ⟨rfl,h2,t2⟩
 have T2:=T1.trans' t2
 have z2:=T2.size
 clear q2
 have q3:=takeTables_any b S A2.2.1 A2.2.2 w2 h2 hS
 rw[←HA3.out] at q3
 go_wp2_with fail
 refine q3.mono ?_
 rintro x w3 ⟨⟨v3,P3,rfl,hm3,hv3⟩,h3,t3⟩
 obtain⟨vo3,vc3,e3⟩:=row_slice hv3.own
 subst e3
 have T3:=T2.trans' t3
 have z3:=T3.size
 clear q3
 have HV3:Hid _:=hv3
 clear hv3
 go_wp2_with fail
 go_ret
 unfold TkOut
 rw[HT.out]
 refine⟨⟨{ sk0 with P:=P3,«to»:=vo3,tc:=vc3 },rfl,World.ownsRow_nil _ _ _ _,World.ownsRow_nil _ _ _ _,World.ownsRow_nil _ _ _ _,to_low HV3.out (by omega),hm3,?_⟩,h3,T3⟩
 exact fun g e1 e2=>by cases e1
open Go Go.Sort
theorem own_lenB {W:World} {base sz n:Nat} {t:TypeId} {v:Value} {xs:List Value} (h:W.ownsRow base t sz v n xs):n≤9223372036854775807:=by
 rcases h.2 with⟨_,h1⟩|⟨g,cap,cur,_,_,_,h1,h2,_⟩
 ·omega
 ·have:maxLen=9223372036854775807:=rfl
  omega
theorem RN.rw {W:World} {base:Nat} {r:Rc} {s:Sk} (h:RN W base r s) (ho: ∀v∈r.o,v.i64) (hn: ∀v∈r.n,v.i64):RW W (fun i=>i<base) r s:=by
 obtain⟨co,cc,hck⟩:=own_ck (p:=(r.tb,.slice s.co r.tb.cols.length s.cc)) h.tb
 have e:=hck.eq
 simp only[Value.slice.injEq] at e
 obtain⟨e1,_,e2⟩:=e
 subst e1 e2
 refine⟨own_sl h.o,own_sl h.n,hck,h.tbs.toTL,h.eq,fun _ g o e=>?_,fun _ g o e=>?_,ho,hn,own_lenB h.o,own_lenB h.n,own_lenB h.tb,own_lenB h.tbs.own,fun i hi=>own_lenB (h.tbs.col i hi)⟩
 ·have:=row_ge h.o (k:=g) (by rw[e];rfl);omega
 ·have:=row_ge h.n (k:=g) (by rw[e];rfl);omega
theorem RN.cut {W:World} {base:Nat} {r:Rc} {s:Sk} (h:RN W base r s) (c:Nat):RN W base (cutC c r) (cutS c s):=by
 have hc:c=3∨c=4∨c=5∨c=8∨c=10∨c=1∨c=2∨c=6∨c=7∨c=9∨c=0∨10<c:=by omega
 have nv:W.ownsRow base 58 3 (.slice none 0 0) 0 (vcl []):=World.ownsRow_nil _ _ _ _
 have nc:W.ownsRow base 43 3 (.slice none 0 0) 0 (ccl []):=World.ownsRow_nil _ _ _ _
 have q0: ∀k,RN W base (rc0 k) sk0:=fun k=>⟨nv,nv,nc,to_nil _ _,rfl,fun g e=>by cases e⟩
 rcases hc with rfl|rfl|rfl|rfl|rfl|rfl|rfl|rfl|rfl|rfl|rfl|hc
 ·exact⟨nv,h.n,nc,to_nil _ _,rfl,fun g e=>by cases e⟩
 ·exact⟨h.o,h.n,nc,to_nil _ _,rfl,h.on⟩
 ·exact⟨h.o,nv,nc,to_nil _ _,rfl,fun g _ e=>by cases e⟩
 ·exact⟨nv,nv,h.tb,to_nil _ _,rfl,fun g e=>by cases e⟩
 ·exact⟨nv,nv,nc,h.tbs,h.eq,fun g e=>by cases e⟩
 ·exact⟨nv,nv,nc,to_nil _ _,rfl,fun g e=>by cases e⟩
 ·exact⟨nv,nv,nc,to_nil _ _,rfl,fun g e=>by cases e⟩
 ·exact⟨nv,nv,nc,to_nil _ _,rfl,fun g e=>by cases e⟩
 ·exact⟨nv,nv,nc,to_nil _ _,rfl,fun g e=>by cases e⟩
 ·exact⟨nv,nv,nc,to_nil _ _,rfl,fun g e=>by cases e⟩
 ·exact q0 r.k
 ·have e1:cutC c r=rc0 r.k:=by unfold cutC;split<;>first|omega|rfl
  have e2:cutS c s=sk0:=by unfold cutS;split<;>first|omega|rfl
  rw[e1,e2];exact q0 r.k
theorem RN.tch {S:Nat→Prop} {W W':World} {base:Nat} {r:Rc} {s:Sk} (h:RN W base r s) (t:Tch S W W') (hS: ∀i,base≤i→i<W.heap.size→ ¬S i):RN W' base r s:=
 ⟨own_tch h.o t (fun g e=>hS g (h.o.lt g e).1 (h.o.lt g e).2),own_tch h.n t (fun g e=>hS g (h.n.lt g e).1 (h.n.lt g e).2),own_tch h.tb t (fun g e=>hS g (h.tb.lt g e).1 (h.tb.lt g e).2),h.tbs.tch t hS,h.eq,h.on⟩
theorem RN.low {W:World} {base base':Nat} {r:Rc} {s:Sk} (h:RN W base r s) (hb:base'≤base):RN W base' r s:=
 ⟨own_low h.o hb,own_low h.n hb,own_low h.tb hb,to_low h.tbs hb,h.eq,h.on⟩
def DcOut (r:Rc) (w:World) (x:Ending) (w':World):Prop:= ∃s,x= .returned (.tuple #[rV r s,.int .i64 0])∧RN w' w.heap.size r s∧Tch (fun _=>False) w w'∧(s.co=none∨s.P=[])
theorem recL_byte {r:Rc} (h:1≤r.k∧r.k≤15):byteR ⟨(recL r).toArray⟩ 0 0=(r.k.toNat,1,0):=by
 have h0:=here_zero (recL r)
 have:=thr_byte (b:=UInt8.ofNat r.k.toNat) (r:=bodyL (cls r.k) r) h0
 rw[this]
 have e:(UInt8.ofNat r.k.toNat).toNat=r.k.toNat:=by rw[UInt8.toNat_ofNat'];omega
 rw[e]
theorem recL_take {r:Rc} (hr:rightC (cls r.k) r) (hc:cutC (cls r.k) r=r) (ho: ∀v∈r.o,v.i64) (hn: ∀v∈r.n,v.i64):(tkC ⟨(recL r).toArray⟩ r.k (cls r.k) (1,0)).1=r:=
 thr_rec (Here.one (b:=UInt8.ofNat r.k.toNat) (here_zero (recL r))) hr hc ho hn
end Go.Proofs.YtaiadknglhemaaaGreatDoor.C
