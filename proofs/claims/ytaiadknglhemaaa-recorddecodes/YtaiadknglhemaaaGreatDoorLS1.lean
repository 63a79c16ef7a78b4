import Derived.Test.YtaiadknglhemaaaGreatDoorDRf
import Derived.Test.YtaiadknglhemaaaGreatDoorDRs2
import Derived.Test.YtaiadknglhemaaaGreatDoorDRs6
import Derived.Test.YtaiadknglhemaaaGreatDoorDRs10
import Derived.Test.YtaiadknglhemaaaGreatDoorRVd0
import Derived.Test.YtaiadknglhemaaaGreatDoorKeeps
set_option maxHeartbeats 16000000
set_option maxRecDepth 100000
namespace Go.Proofs.YtaiadknglhemaaaGreatDoor.C
open Go.RowKit Go Go.Sort
structure RI (r:Rc):Prop where
 x: -9223372036854775808≤r.x∧r.x≤9223372036854775807
 p: -9223372036854775808≤r.p∧r.p≤9223372036854775807
 t: -9223372036854775808≤r.t∧r.t≤9223372036854775807
 nm:r.nm.size≤140737488351232
theorem spare_any (c:Nat) (h1:1≤c) (h2:c≤10) (r:Rc) (s:Sk) (w:World) (he:s.P.map Prod.fst=r.tbs):Calls Tryz.prog 46 #[rV r s,.string (wordC c)] w fun x w'=>EqT (¬r=cutC c r) w x w':=by
 have hc0:c=1∨c=2∨c=3∨c=4∨c=5∨c=6∨c=7∨c=8∨c=9∨c=10:=by omega
 rcases hc0 with rfl|rfl|rfl|rfl|rfl|rfl|rfl|rfl|rfl|rfl
 ·exact spare_1 r s w he
 ·exact spare_2 r s w he
 ·exact spare_3 r s w he
 ·exact spare_4 r s w he
 ·exact spare_5 r s w he
 ·exact spare_6 r s w he
 ·exact spare_7 r s w he
 ·exact spare_8 r s w he
 ·exact spare_9 r s w he
 ·exact spare_10 r s w he
theorem field_l (r:Rc) (s:Sk) (F:Nat→Prop) (w:World) (h:RW w F r s) (d:Bool) (hd:d=true ↔ okF r 108):Calls Tryz.prog 47 #[rV r s,.int .u8 108] w fun x w'=>x= .returned (.tuple #[.string (fldB r 108),.bool d])∧Tch (fun _=>False) w w':=by
 have HQ1:Hid (∀W,Tch (fun _=>False) w W→Calls Tryz.prog 84 #[.slice s.to s.P.length s.tc,.int .i64 r.t] W fun x w'=>x= .returned (.tuple #[.string (fldB r 108),.bool d])∧Tch (fun _=>False) W w'):=fun W t=>by
  have:=rtables6 s.P s.to s.tc F r.t W (h.tbs.no t) d (by rw[h.eq];exact hd)
  rw[h.eq] at this
  exact this
 obtain⟨b,hb⟩: ∃b,b=fldB r 108:=⟨_,rfl⟩
 rw[←hb] at HQ1 ⊢
 clear hd h hb
 go_enter Tryz.func47,Tryz.ntmps47
 go_wp2_with fail
 refine(HQ1.out _ (Tch.alloc _ _ _)).mono ?_
 rintro x w1 ⟨rfl,t1⟩
 go_wp2_with fail
 go_ret2
 exact⟨rfl,(Tch.alloc _ _ _).trans' t1⟩
theorem field_any (r:Rc) (s:Sk) (F:Nat→Prop) (w:World) (hi:RI r) (h:RW w F r s) (c:Nat) (h1:1≤c) (h2:c≤10) (x:Nat) (hx:x∈wordN c) (d:Bool) (hd:d=true ↔ okF r x):Calls Tryz.prog 47 #[rV r s,.int .u8 (x:Int)] w fun y w'=>y= .returned (.tuple #[.string (fldB r x),.bool d])∧Tch (fun _=>False) w w':=by
 have hl:x=120∨x=110∨x=112∨x=116∨x=117∨x=111∨x=119∨x=99∨x=109∨x=97∨x=108:=by
  have hc0:c=1∨c=2∨c=3∨c=4∨c=5∨c=6∨c=7∨c=8∨c=9∨c=10:=by omega
  rcases hc0 with rfl|rfl|rfl|rfl|rfl|rfl|rfl|rfl|rfl|rfl
  all_goals
   simp[wordN,wordC,bl] at hx
   omega
 rcases hl with rfl|rfl|rfl|rfl|rfl|rfl|rfl|rfl|rfl|rfl|rfl
 ·exact field_x r s w hi.x d hd
 ·exact field_n r s w hi.x d hd
 ·exact field_p r s w hi.p d hd
 ·exact field_t r s w hi.t d hd
 ·exact field_u r s w hi.t d hd
 ·exact field_o r s F w h d hd
 ·exact field_w r s F w h d hd
 ·exact field_c r s w d hd
 ·exact field_m r s w hi.nm d hd
 ·exact field_a r s F w h d hd
 ·exact field_l r s F w h d hd
theorem renc_0 (r:Rc) (s:Sk) (w:World) (hk:cls r.k=0):Calls Tryz.prog 18 #[rV r s] w fun x w'=>x= .returned (.tuple #[.string ⟨#[]⟩,.int .i64 60])∧Tch (fun _=>False) w w':=by
 have q:=fun W=>rfields_any r.k W
 rw[hk] at q
 have HQ:Hid (∀W,Calls Tryz.prog 44 #[.int .i64 r.k] W fun x w'=>x= .returned (.string ⟨#[]⟩)∧w'=W):=q
 clear q hk
 go_enter Tryz.func18,Tryz.ntmps18
 go_wp2_with fail
 refine(HQ.out _).mono ?_
 rintro x w1 ⟨rfl,hw1⟩
 obtain rfl:=hw1.symm
 clear hw1
 go_wp2_with fail
 go_ret2
 exact⟨rfl,Tch.alloc _ _ _⟩
theorem renc_c (r:Rc) (s:Sk) (F:Nat→Prop) (w:World) (hi:RI r) (h:RW w F r s) (c:Nat) (hcc:cls r.k=c) (h1:1≤c) (h2:c≤10) (B:ByteArray) (E:Int) (hy:RR r→B=bB (recL r)∧E=0) (hn: ¬RR r→B=⟨#[]⟩∧E=61):Calls Tryz.prog 18 #[rV r s] w fun x w'=>x= .returned (.tuple #[.string B,.int .i64 E])∧Tch (fun _=>False) w w':=by
 classical
 have hk15:1≤r.k∧r.k≤15:=by
  rcases cls_rng r.k with h0|h0
  ·omega
  ·exact⟨h0.1,h0.2.1⟩
 have q1:=fun W=>rfields_any r.k W
 rw[hcc] at q1
 have HQ2:Hid (∀W,Calls Tryz.prog 45 #[.int .i64 r.k] W fun x w'=>x= .returned (.string (bB (bytesL [r.k])))∧Tch (fun _=>False) W w'):=fun W=>rnum_ok r.k (by omega) (by omega) W
 have HQ3:Hid (∀W,Calls Tryz.prog 46 #[rV r s,.string (wordC c)] W fun x w'=>EqT (¬r=cutC c r) W x w'):=fun W=>spare_any c h1 h2 r s W h.eq
 have HQ4:Hid (∀W,Tch (fun _=>False) w W→ ∀x∈wordN c,Calls Tryz.prog 47 #[rV r s,.int .u8 (x:Int)] W fun y w'=>y= .returned (.tuple #[.string (fldB r x),.bool (decide (okF r x))])∧Tch (fun _=>False) W w'):=fun W t x hx=>field_any r s F W hi (h.no t) c h1 h2 x hx _ decide_eq_true_iff
 have HRR:Hid (RR r ↔ (∀x∈wordN c,okF r x)∧r=cutC c r):=by
  show RR r ↔ _
  unfold RR
  rw[hcc,right_word r c h1 h2]
 have HRL:Hid (recL r=bytesL [r.k]++(wordN c).flatMap (fldL r)):=by
  show _=_
  rw[body_word r c h1 h2];unfold recL;rw[hcc];rfl
 obtain⟨wd,hwd⟩: ∃wd,wd=wordC c:=⟨_,rfl⟩
 have hws:1≤wd.size∧wd.size≤4:=by
  rw[hwd]
  have hc0:c=1∨c=2∨c=3∨c=4∨c=5∨c=6∨c=7∨c=8∨c=9∨c=10:=by omega
  rcases hc0 with rfl|rfl|rfl|rfl|rfl|rfl|rfl|rfl|rfl|rfl<;>exact⟨by decide,by decide⟩
 have hwe:wd.toList.isEmpty=false:=nonempty_of_size (r:=wd) (by omega)
 have HWN:Hid (∀k (hk:k<wd.size), ∃hk':k<(wordN c).length,(wordN c)[k]=wd[k].toNat):=fun k hk=>by
  have hl:(wordN c).length=wd.size:=by unfold wordN;rw[List.length_map,bl_size,hwd]
  refine⟨by omega,?_⟩
  unfold wordN
  rw[List.getElem_map]
  subst hwd
  rfl
 have HWL:Hid ((wordN c).length=wd.size):=by show _=_;unfold wordN;rw[List.length_map,bl_size,hwd]
 rw[←hwd] at q1 HQ3
 have HY:Hid _:=hy
 have HNO:Hid _:=hn
 have HK15:Hid (1≤r.k∧r.k≤15):=hk15
 have HQ1:Hid _:=q1
 obtain⟨w0,hw0⟩: ∃w0,w0=w.alloc (.cells #[.int .i64 r.k,.int .i64 r.x,.int .i64 r.p,.int .i64 r.t,.slice s.oo r.o.length s.oc,.slice s.no r.n.length s.nc,.string r.nm,.int .i64 r.org,.int .i64 r.tb.id,.int .i64 r.tb.ver,.string r.tb.nm,.slice s.co r.tb.cols.length s.cc,.int .i64 r.tb.key,.slice s.to s.P.length s.tc] 37):=⟨_,rfl⟩
 have b0:w0.heap[w.heap.size]? =some (.cells #[.int .i64 r.k,.int .i64 r.x,.int .i64 r.p,.int .i64 r.t,.slice s.oo r.o.length s.oc,.slice s.no r.n.length s.nc,.string r.nm,.int .i64 r.org,.int .i64 r.tb.id,.int .i64 r.tb.ver,.string r.tb.nm,.slice s.co r.tb.cols.length s.cc,.int .i64 r.tb.key,.slice s.to s.P.length s.tc] 37 (0,0)):=by rw[hw0];exact heap_new w _
 have HT0:Hid (Tch (fun _=>False) w w0):=by show Tch _ _ _;rw[hw0];exact Tch.alloc _ _ _
 have HK:Hid (∀W,Tch (fun _=>False) w0 W→W.heap[w.heap.size]? =some (.cells #[.int .i64 r.k,.int .i64 r.x,.int .i64 r.p,.int .i64 r.t,.slice s.oo r.o.length s.oc,.slice s.no r.n.length s.nc,.string r.nm,.int .i64 r.org,.int .i64 r.tb.id,.int .i64 r.tb.ver,.string r.tb.nm,.slice s.co r.tb.cols.length s.cc,.int .i64 r.tb.key,.slice s.to s.P.length s.tc] 37 (0,0))):=fun W t=>(t.block _ (blk_lt b0) (fun h=>h)).trans b0
 have HW0:Hid (w0=w.alloc (.cells #[.int .i64 r.k,.int .i64 r.x,.int .i64 r.p,.int .i64 r.t,.slice s.oo r.o.length s.oc,.slice s.no r.n.length s.nc,.string r.nm,.int .i64 r.org,.int .i64 r.tb.id,.int .i64 r.tb.ver,.string r.tb.nm,.slice s.co r.tb.cols.length s.cc,.int .i64 r.tb.key,.slice s.to s.P.length s.tc] 37)):=hw0
 have q1:=HQ1.out w0
 rw[hw0] at q1
 clear hy hn hk15 hwd b0 hw0 hcc h hi HQ1 h1 h2
 go_enter Tryz.func18,Tryz.ntmps18
 go_wp2_with fail
 refine q1.mono ?_
 rintro x w1 ⟨rfl,hw1⟩
 obtain rfl:=hw1.symm
 clear hw1 q1
 go_wp2_with fail
 rw[←HW0.out]
 refine(HQ2.out _).mono ?_
 rintro x w2 ⟨rfl,t2⟩
 obtain⟨NM,hNM⟩: ∃NM,NM=bB (bytesL [r.k]):=⟨_,rfl⟩
 rw[←hNM]
 have HNM:Hid (bl NM=bytesL [r.k]∧NM.size=1):=⟨by rw[hNM,bl_bB],by rw[hNM,size_bB];rfl⟩
 have b2:=HK.out w2 t2
 have y0:=blk_cell b2 0
 have y1:=blk_cell b2 1
 have y2:=blk_cell b2 2
 have y3:=blk_cell b2 3
 have y4:=blk_cell b2 4
 have y5:=blk_cell b2 5
 have y6:=blk_cell b2 6
 have y7:=blk_cell b2 7
 have y8:=blk_cell b2 8
 have y9:=blk_cell b2 9
 have y10:=blk_cell b2 10
 have y11:=blk_cell b2 11
 have y12:=blk_cell b2 12
 have y13:=blk_cell b2 13
 simp only[List.getElem?_toArray,List.getElem?_cons_succ,List.getElem?_cons_zero] at y0 y1 y2 y3 y4 y5 y6 y7 y8 y9 y10 y11 y12 y13
 clear b2 hNM HQ2
 go_wp2_with fail
 refine(HQ3.out _).mono ?_
 rintro x w3 ⟨bad,rfl,hbad,t3⟩
 have HBAD:Hid (bad=true ↔¬r=cutC c r):=hbad
 have HT3:Hid (Tch (fun _=>False) w0 w3):=t2.trans' t3
 clear y0 y1 y2 y3 y4 y5 y6 y7 y8 y9 y10 y11 y12 y13 hbad t2 t3 HQ3
 cases bad
 ·have HCUT:Hid (r=cutC c r):=Classical.byContradiction fun h=>by have:=HBAD.out.2 h;simp at this
  clear HBAD
  go_wp2_with fail
  go_loopw [5,7] (fun v i wr=> ∃(S:ByteArray) (k:Nat),v= .string S∧i= .int .i64 k∧k≤wd.size∧Hid (bl S=bytesL [r.k]++((wordN c).take k).flatMap (fldL r))∧S.size≤1+10000*k∧Hid (∀y∈(wordN c).take k,okF r y)∧Hid (Tch (fun _=>False) w0 wr)) (fun _ i _=>wd.size - (intOf i).toNat)
  case atStart=>exact⟨NM,0,rfl,rfl,Nat.zero_le _,by show bl NM=_;rw[HNM.out.1];simp,by rw[HNM.out.2];omega,fun y hy=>by simp at hy,HT3⟩
  case round=>
   obtain⟨S,k,rfl,rfl,hk,HS,hsz,HOK,HT⟩:=hrel
   clear HNM HT3
   by_cases hlt:k<wd.size
   ·have hlt':(k:Int)<wd.size:=by omega
    obtain⟨hkn,hkw⟩:=HWN.out k hlt
    obtain⟨lt,hlet⟩: ∃lt,lt=(wordN c)[k]:=⟨_,rfl⟩
    have HMEM:Hid (lt∈wordN c):=by show lt∈_;rw[hlet];exact List.getElem_mem hkn
    have HTK:Hid ((wordN c).take (k+1)=(wordN c).take k++[lt]):=by show _=_;rw[hlet];exact(List.take_append_getElem hkn).symm
    rw[←hlet] at hkw
    have q4:=fun W (t:Tch (fun _=>False) wr W)=>HQ4.out W ((HT0.out.trans' HT.out).trans' t) lt HMEM.out
    obtain⟨ok,hok⟩: ∃ok,ok=decide (okF r lt):=⟨_,rfl⟩
    obtain⟨fb,hfb⟩: ∃fb,fb=fldB r lt:=⟨_,rfl⟩
    rw[←hok, ←hfb] at q4
    rw[hkw] at q4
    have HF:Hid (ok=true→fb=bB (fldL r lt)∧okF r lt∧fb.size≤10000):=fun h=>by
     rw[hok,decide_eq_true_iff] at h
     rw[hfb,fldB_ok h,size_bB]
     exact⟨rfl,h,fldL_len h⟩
    have HFN:Hid (ok=false→ ¬okF r lt):=fun h=>by
     rw[hok,decide_eq_false_iff_not] at h
     exact h
    have b2:=HK.out wr HT.out
    have y0:=blk_cell b2 0
    have y1:=blk_cell b2 1
    have y2:=blk_cell b2 2
    have y3:=blk_cell b2 3
    have y4:=blk_cell b2 4
    have y5:=blk_cell b2 5
    have y6:=blk_cell b2 6
    have y7:=blk_cell b2 7
    have y8:=blk_cell b2 8
    have y9:=blk_cell b2 9
    have y10:=blk_cell b2 10
    have y11:=blk_cell b2 11
    have y12:=blk_cell b2 12
    have y13:=blk_cell b2 13
    simp only[List.getElem?_toArray,List.getElem?_cons_succ,List.getElem?_cons_zero] at y0 y1 y2 y3 y4 y5 y6 y7 y8 y9 y10 y11 y12 y13
    have k0:=cell_regrown y0
    have k1:=cell_regrown y1
    have k2:=cell_regrown y2
    have k3:=cell_regrown y3
    have k4:=cell_regrown y4
    have k5:=cell_regrown y5
    have k6:=cell_regrown y6
    have k7:=cell_regrown y7
    have k8:=cell_regrown y8
    have k9:=cell_regrown y9
    have k10:=cell_regrown y10
    have k11:=cell_regrown y11
    have k12:=cell_regrown y12
    have k13:=cell_regrown y13
    have c1:=fun(dd:Nat) (os:Array Obj)=>regrown_calls (w:=wr) (fun W t=>q4 W t) dd os
    clear b2 q4 hok hfb hkw hlet
    go_wp2_with fail
    refine wp_region_quiet_below (by kernel_rfl) (by kernel_rfl) ?_
    repeat (quiet_step ((go_at_call 47;exact c1 _ _)))
    refine wpQuiet_nil ?_
    rintro w4 ⟨p,rfl⟩
    have HT4:Hid (Tch (fun _=>False) w0 (grow (redrawn wr p.d) p.os)):=HT.out.trans' (Tch.regrown wr p.d p.os)
    obtain⟨W4,hW4⟩: ∃W4,W4=grow (redrawn wr p.d) p.os:=⟨_,rfl⟩
    rw[←hW4] at HT4 ⊢
    clear hW4 y0 y1 y2 y3 y4 y5 y6 y7 y8 y9 y10 y11 y12 y13 k0 k1 k2 k3 k4 k5 k6 k7 k8 k9 k10 k11 k12 k13 c1
    cases ok
    ·obtain⟨rfl,rfl⟩:=HNO.out (fun hr=>HFN.out rfl ((HRR.out.1 hr).1 _ HMEM.out))
     clear HNO HY HF HFN
     go_wp2_with fail
     go_ret2
     exact⟨rfl,HT0.out.trans' HT4.out⟩
    ·obtain⟨f1,f2,f3⟩:=HF.out rfl
     have HF1:Hid (fb=bB (fldL r lt)):=f1
     have HF2:Hid (okF r lt):=f2
     have HSB:Hid (bl (S++fb)=bytesL [r.k]++((wordN c).take (k+1)).flatMap (fldL r)):=by
      show bl _=_
      rw[bl_app,HS.out,HF1.out,bl_bB,HTK.out,List.flatMap_append,List.append_assoc]
      simp
     have HOK2:Hid (∀y∈(wordN c).take (k+1),okF r y):=fun y hy=>by
      rw[HTK.out] at hy
      rcases List.mem_append.1 hy with hy|hy
      ·exact HOK.out y hy
      ·rw[List.mem_singleton.1 hy];exact HF2.out
     clear f1 f2 HF HFN HS HOK HF1 HF2
     go_wp2_with fail
     go_roundw
     case rel=>exact⟨_,k+1,rfl,by go_num,by omega,HSB,by rw[size_app];omega,HOK2,HT4⟩
     case measure=>simp[intOf];omega
   ·have hlt': ¬(k:Int)<wd.size:=by omega
    have HR:Hid (RR r):=HRR.out.2 ⟨fun x hx=>by
     refine HOK.out x ?_
     rw[List.take_of_length_le (by have:=HWL.out;omega)]
     exact hx,HCUT.out⟩
    obtain⟨HB,rfl⟩:=HY.out HR.out
    have HSB:Hid (S=B):=by
     show S=B
     rw[HB,HRL.out]
     apply bB_of
     rw[HS.out,List.take_of_length_le]
     have:=HWL.out;omega
    clear HB HS HOK HNO HY
    go_wp2_with fail
    go_ret2
    exact⟨by rw[←HSB.out];rfl,HT0.out.trans' HT.out⟩
 ·obtain⟨rfl,rfl⟩:=HNO.out (fun hr=>HBAD.out.1 rfl (HRR.out.1 hr).2)
  clear HNO HY
  go_wp2_with fail
  go_ret2
  exact⟨rfl,HT0.out.trans' HT3.out⟩
theorem renc_ok (r:Rc) (s:Sk) (F:Nat→Prop) (w:World) (hi:RI r) (h:RW w F r s) (hr:RR r):Calls Tryz.prog 18 #[rV r s] w fun x w'=>x= .returned (.tuple #[.string (bB (recL r)),.int .i64 0])∧Tch (fun _=>False) w w':=by
 rcases cls_rng r.k with h0|⟨_,_,h1,h2⟩
 ·have:=hr.1;rw[h0] at this;exact this.elim
 ·exact renc_c r s F w hi h _ rfl h1 h2 _ _ (fun _=>⟨rfl,rfl⟩) (fun hn=>absurd hr hn)
theorem renc_no (r:Rc) (s:Sk) (F:Nat→Prop) (w:World) (hi:RI r) (h:RW w F r s) (hr: ¬RR r):Calls Tryz.prog 18 #[rV r s] w fun x w'=>x= .returned (.tuple #[.string ⟨#[]⟩,.int .i64 (errR r)])∧Tch (fun _=>False) w w':=by
 unfold errR
 rcases cls_rng r.k with h0|⟨_,_,h1,h2⟩
 ·rw[if_pos h0];exact renc_0 r s w h0
 ·rw[if_neg (by omega)]
  exact renc_c r s F w hi h _ rfl h1 h2 _ _ (fun hn=>absurd hn hr) (fun _=>⟨rfl,rfl⟩)
open Classical in
noncomputable def encS (r:Rc):ByteArray:=if RR r then bB (recL r) else⟨#[]⟩
open Classical in
noncomputable def encI (r:Rc):Int:=if RR r then 0 else errR r
theorem encode_all (r:Rc) (s:Sk) (F:Nat→Prop) (w:World) (hg:HE w) (h:RW w F r s):Calls Tryz.prog 13 #[rV r s] w fun x w'=>x= .returned (.tuple #[.string (encS r),.int .i64 (encI r)])∧Tch (fun _=>False) w w':=by
 unfold encS encI
 by_cases hr:RR r
 ·rw[if_pos hr,if_pos hr];exact encode_ok r s F w hg h hr.1 hr.2.symm
 ·rw[if_neg hr,if_neg hr];exact encode_no r s F w hg h hr
theorem renc_all (r:Rc) (s:Sk) (F:Nat→Prop) (w:World) (hi:RI r) (h:RW w F r s):Calls Tryz.prog 18 #[rV r s] w fun x w'=>x= .returned (.tuple #[.string (encS r),.int .i64 (encI r)])∧Tch (fun _=>False) w w':=by
 unfold encS encI
 by_cases hr:RR r
 ·rw[if_pos hr,if_pos hr];exact renc_ok r s F w hi h hr
 ·rw[if_neg hr,if_neg hr];exact renc_no r s F w hi h hr
theorem lsameTabG (t:Tbl) (ao bo:Option Addr) (ac bc:Nat) (w:World) (hA:SL w ao (ccl t.cols)) (hB:SL w bo (ccl t.cols)) (hl:t.cols.length≤4398046511104):
  Calls Tryz.prog 38 #[tA t.id t.ver t.nm (.slice ao t.cols.length ac) t.key,tA t.id t.ver t.nm (.slice bo t.cols.length bc) t.key] w fun x w'=>x= .returned (.bool true)∧Tch (fun _=>False) w w':=by
 obtain⟨n,hn⟩: ∃n,n=t.cols.length:=⟨_,rfl⟩
 obtain⟨N,hN⟩: ∃N,N=w.heap.size:=⟨_,rfl⟩
 obtain⟨w0,hw0⟩: ∃w0,w0=(w.alloc (.cells #[.int .i64 t.id,.int .i64 t.ver,.string t.nm,.slice ao n ac,.int .i64 t.key] 29)).alloc (.cells #[.int .i64 t.id,.int .i64 t.ver,.string t.nm,.slice bo n bc,.int .i64 t.key] 29):=⟨_,rfl⟩
 have t0:Tch (fun _=>False) w w0:=by rw[hw0];exact(Tch.alloc _ _ _).allocR _
 have hX:w0.heap[N]? =some (.cells #[.int .i64 t.id,.int .i64 t.ver,.string t.nm,.slice ao n ac,.int .i64 t.key] 29 (0,0)):=by
  rw[hw0,hN];exact(Tch.alloc (fun _=>False) _ _).block _ (by simp) (fun h=>h)|>.trans (alloc_new _ _)
 have hY:w0.heap[N+1]? =some (.cells #[.int .i64 t.id,.int .i64 t.ver,.string t.nm,.slice bo n bc,.int .i64 t.key] 29 (0,0)):=by
  rw[hw0,hN, ←World.size_alloc];exact alloc_new _ _
 have HB:Hid (∀W,Tch (fun _=>False) w0 W→W.cell? ⟨N,3,none⟩=some (.slice ao n ac)∧W.cell? ⟨N+1,3,none⟩=some (.slice bo n bc)∧SL W ao (ccl t.cols)∧SL W bo (ccl t.cols)):=fun W tW=>by
  have h1:W.heap[N]? =_:=(tW.block N (blk_lt hX) (fun h=>h)).trans hX
  have h2:W.heap[N+1]? =_:=(tW.block (N+1) (blk_lt hY) (fun h=>h)).trans hY
  exact⟨by rw[blk_cell h1];rfl,by rw[blk_cell h2];rfl,hA.no (t0.trans' tW),hB.no (t0.trans' tW)⟩
 have HT0:Hid (Tch (fun _=>False) w w0):=t0
 have Hw0:Hid _:=hw0
 have HN:Hid (N=w.heap.size):=hN
 have Hn:Hid (n=t.cols.length):=hn
 have hn8:n≤4398046511104:=by omega
 rw[←hn]
 clear hA hB hw0 hN hX hY t0 hn
 go_enter Tryz.func38,Tryz.ntmps38
 go_wp2_with fail
 have hw0:=Hw0.out
 rw[←hw0]
 rw[←HN.out]
 clear hw0
 go_loopw [5] (fun i wr=> ∃k:Nat,i= .int .i64 k∧k≤n∧Hid (Tch (fun _=>False) w0 wr)) (fun i _=>n - (intOf i).toNat)
 case atStart=>exact⟨0,rfl,by omega,Tch.refl _ _⟩
 case round=>
  obtain⟨k,rfl,hk,HT⟩:=hrel
  obtain⟨wV,hwV⟩: ∃wV,wV=wr:=⟨_,rfl⟩
  subst hwV
  obtain⟨b3,b4,s1,s2⟩:=HB.out wV HT.out
  by_cases hlt:(k:Int)<n
  ·have hkl:k<t.cols.length:=by have:=Hn.out;omega
   obtain⟨ga,oa,rfl,ha⟩:=s1.col hkl
   obtain⟨gb,ob,rfl,hb⟩:=s2.col hkl
   obtain⟨c0,c1,c2⟩:=ha.col k hkl
   obtain⟨d0,d1,d2⟩:=hb.col k hkl
   obtain⟨x,hx⟩: ∃x,x=t.cols[k]:=⟨_,rfl⟩
   rw[←hx] at c0 c1 c2 d0 d1 d2
   obtain⟨dd,hdd,hnd⟩:=ne_col x x
   obtain rfl:dd=false:=by cases dd with
    |false=>rfl
    |true=>exact absurd rfl (hdd.1 rfl)
   have HTQ:Hid (∀nq,Tch (fun _=>False) w0 (wV.drewN nq)):=fun nq=>HT.out.drewN _
   clear hdd ha hb hx s1 s2 hkl
   go_wp2_with fail
   go_quiet (fail)
   clear c0 c1 c2 d0 d1 d2 hnd b3 b4
   have HTq:=HTQ.out nq
   go_wp2_with fail
   go_roundw
   case rel=>exact⟨k+1,by go_num,by omega,HTq⟩
   case measure=>simp[intOf];omega
  ·go_wp2_with fail
   go_ret
   exact⟨rfl,HT0.out.trans' HT.out⟩
theorem lsameRowG (xs:List Val) (ao bo:Option Addr) (ca cb:Nat) (w:World) (ha:RowOf w ao xs) (hb:RowOf w bo xs) (h1:xs.length≤9223372036854775807):
  Calls Tryz.prog 39 #[.slice ao xs.length ca,.slice bo xs.length cb] w fun x w'=>x= .returned (.bool true)∧Tch (fun _=>False) w w':=by
 have HA:Hid (∀W,Tch (fun _=>False) w W→RowOf W ao xs):=fun W t=>ha.no t
 have HB:Hid (∀W,Tch (fun _=>False) w W→RowOf W bo xs):=fun W t=>hb.no t
 obtain⟨n,hn⟩: ∃n,n=xs.length:=⟨_,rfl⟩
 rw[←hn] at h1 ⊢
 have HN:Hid (n=xs.length):=hn
 clear ha hb hn
 go_enter Tryz.func39,Tryz.ntmps39
 go_wp2_with fail
 go_loopw [5] (fun i wr=> ∃(k:Nat),i= .int .i64 k∧k≤n∧Hid (Tch (fun _=>False) w wr)) (fun i _=>n - (intOf i).toNat)
 case atStart=>exact⟨0,rfl,by omega,Tch.refl _ _⟩
 case round=>
  obtain⟨k,rfl,hk,HT⟩:=hrel
  obtain⟨wV,hwV⟩: ∃wV,wV=wr:=⟨_,rfl⟩
  subst hwV
  by_cases hlt:(k:Int)<n
  ·have hx:k<xs.length:=by have:=HN.out;omega
   have hne:xs≠[]:=by intro e;rw[e] at hx;simp at hx
   obtain⟨ga,oa,rfl,hra⟩:=HA.out wV HT.out hne
   obtain⟨gb,ob,rfl,hrb⟩:=HB.out wV HT.out hne
   obtain⟨a0,a1,a2⟩:=hra k hx
   obtain⟨b0,b1,b2⟩:=hrb k hx
   obtain⟨u,hu⟩: ∃u,u=xs[k]:=⟨_,rfl⟩
   rw[←hu] at a0 a1 a2 b0 b1 b2
   obtain⟨dd,hdd,hnd⟩:=ne_val u u
   obtain rfl:dd=false:=by cases dd with
    |false=>rfl
    |true=>exact absurd rfl (hdd.1 rfl)
   have HTQ:Hid (∀nq,Tch (fun _=>False) w (wV.drewN nq)):=fun nq=>HT.out.drewN _
   clear hra hrb hu hdd hne
   go_wp2_with fail
   go_quiet (fail)
   clear a0 a1 a2 b0 b1 b2 hnd
   have HTq:=HTQ.out nq
   go_wp2_with fail
   go_roundw
   case rel=>exact⟨k+1,by go_num,by omega,HTq⟩
   case measure=>simp[intOf];omega
  ·go_wp2_with fail
   go_ret
   exact⟨rfl,HT.out⟩
theorem lsameG (r:Rc) (s u:Sk) (F G:Nat→Prop) (w:World) (h1:RW w F r s) (h2:RW w G r u) (h8:r.tb.cols.length≤4398046511104) (h16:r.tbs.length≤4398046511104) (hp8: ∀t∈r.tbs,t.cols.length≤4398046511104):
  Calls Tryz.prog 15 #[rV r s,rV r u] w fun x w'=>x= .returned (.bool true)∧Tch (fun _=>False) w w':=by
 obtain⟨n,hn⟩: ∃n,n=s.P.length:=⟨_,rfl⟩
 have hnr:n=r.tbs.length:=by rw[hn, ←h1.eq,List.length_map]
 have hnu:n=u.P.length:=by rw[hnr, ←h2.eq,List.length_map]
 have hn16:n≤4398046511104:=by omega
 obtain⟨w0,hw0⟩: ∃w0,w0=(w.alloc (.cells #[.int .i64 r.k,.int .i64 r.x,.int .i64 r.p,.int .i64 r.t,.slice s.oo r.o.length s.oc,.slice s.no r.n.length s.nc,.string r.nm,.int .i64 r.org,.int .i64 r.tb.id,.int .i64 r.tb.ver,.string r.tb.nm,.slice s.co r.tb.cols.length s.cc,.int .i64 r.tb.key,.slice s.to n s.tc] 37)).alloc (.cells #[.int .i64 r.k,.int .i64 r.x,.int .i64 r.p,.int .i64 r.t,.slice u.oo r.o.length u.oc,.slice u.no r.n.length u.nc,.string r.nm,.int .i64 r.org,.int .i64 r.tb.id,.int .i64 r.tb.ver,.string r.tb.nm,.slice u.co r.tb.cols.length u.cc,.int .i64 r.tb.key,.slice u.to n u.tc] 37):=⟨_,rfl⟩
 have t0:Tch (fun _=>False) w w0:=by rw[hw0];exact(Tch.alloc _ _ _).allocR _
 have bA:w0.heap[w.heap.size]? =some (.cells #[.int .i64 r.k,.int .i64 r.x,.int .i64 r.p,.int .i64 r.t,.slice s.oo r.o.length s.oc,.slice s.no r.n.length s.nc,.string r.nm,.int .i64 r.org,.int .i64 r.tb.id,.int .i64 r.tb.ver,.string r.tb.nm,.slice s.co r.tb.cols.length s.cc,.int .i64 r.tb.key,.slice s.to n s.tc] 37 (0,0)):=by
  rw[hw0];exact((Tch.alloc (fun _=>False) _ _).block _ (by simp) (fun h=>h)).trans (heap_new w _)
 have bB:w0.heap[w.heap.size+1]? =some (.cells #[.int .i64 r.k,.int .i64 r.x,.int .i64 r.p,.int .i64 r.t,.slice u.oo r.o.length u.oc,.slice u.no r.n.length u.nc,.string r.nm,.int .i64 r.org,.int .i64 r.tb.id,.int .i64 r.tb.ver,.string r.tb.nm,.slice u.co r.tb.cols.length u.cc,.int .i64 r.tb.key,.slice u.to n u.tc] 37 (0,0)):=by
  rw[hw0, ←World.size_alloc];exact heap_new _ _
 have HK:Hid (∀W,Tch (fun _=>False) w0 W→W.heap[w.heap.size]? =some (.cells #[.int .i64 r.k,.int .i64 r.x,.int .i64 r.p,.int .i64 r.t,.slice s.oo r.o.length s.oc,.slice s.no r.n.length s.nc,.string r.nm,.int .i64 r.org,.int .i64 r.tb.id,.int .i64 r.tb.ver,.string r.tb.nm,.slice s.co r.tb.cols.length s.cc,.int .i64 r.tb.key,.slice s.to n s.tc] 37 (0,0))∧W.heap[w.heap.size+1]? =some (.cells #[.int .i64 r.k,.int .i64 r.x,.int .i64 r.p,.int .i64 r.t,.slice u.oo r.o.length u.oc,.slice u.no r.n.length u.nc,.string r.nm,.int .i64 r.org,.int .i64 r.tb.id,.int .i64 r.tb.ver,.string r.tb.nm,.slice u.co r.tb.cols.length u.cc,.int .i64 r.tb.key,.slice u.to n u.tc] 37 (0,0))):=fun W t=>
  ⟨(t.block _ (blk_lt bA) (fun h=>h)).trans bA,(t.block _ (blk_lt bB) (fun h=>h)).trans bB⟩
 have HTL:Hid (∀W,Tch (fun _=>False) w W→TL W F s.to s.P∧TL W G u.to u.P):=fun W t=>⟨(h1.no t).tbs,(h2.no t).tbs⟩
 have HO:Hid (∀W,Tch (fun _=>False) w W→Calls Tryz.prog 39 #[.slice s.oo r.o.length s.oc,.slice u.oo r.o.length u.oc] W fun x w'=>x= .returned (.bool true)∧Tch (fun _=>False) W w'):=fun W t=>lsameRowG r.o s.oo u.oo s.oc u.oc W (h1.no t).o.row (h2.no t).o.row h1.ol
 have HN:Hid (∀W,Tch (fun _=>False) w W→Calls Tryz.prog 39 #[.slice s.no r.n.length s.nc,.slice u.no r.n.length u.nc] W fun x w'=>x= .returned (.bool true)∧Tch (fun _=>False) W w'):=fun W t=>lsameRowG r.n s.no u.no s.nc u.nc W (h1.no t).n.row (h2.no t).n.row h1.nl
 have HT:Hid (∀W,Tch (fun _=>False) w W→Calls Tryz.prog 38 #[tA r.tb.id r.tb.ver r.tb.nm (.slice s.co r.tb.cols.length s.cc) r.tb.key,tA r.tb.id r.tb.ver r.tb.nm (.slice u.co r.tb.cols.length u.cc) r.tb.key] W fun x w'=>x= .returned (.bool true)∧Tch (fun _=>False) W w'):=fun W t=>lsameTabG r.tb s.co u.co s.cc u.cc W (h1.no t).tb.sl (h2.no t).tb.sl h8
 have HPQ:Hid (∀k (hs:k<s.P.length) (hu:k<u.P.length),s.P[k].1=u.P[k].1∧s.P[k].1.cols.length≤4398046511104):=fun k hs hu=>by
  have e1:(s.P.map Prod.fst)[k]? =r.tbs[k]? :=by rw[h1.eq]
  have e2:(u.P.map Prod.fst)[k]? =r.tbs[k]? :=by rw[h2.eq]
  have hk:k<r.tbs.length:=by rw[←h1.eq,List.length_map];exact hs
  rw[List.getElem?_map,List.getElem?_eq_getElem hs,List.getElem?_eq_getElem hk] at e1
  rw[List.getElem?_map,List.getElem?_eq_getElem hu,List.getElem?_eq_getElem hk] at e2
  have e1':s.P[k].1=r.tbs[k]:=by simpa using e1
  have e2':u.P[k].1=r.tbs[k]:=by simpa using e2
  exact⟨e1'.trans e2'.symm,by rw[e1'];exact hp8 _ (List.getElem_mem hk)⟩
 have HNN:Hid (n=s.P.length∧n=u.P.length):=⟨hn,hnu⟩
 have HT0:Hid (Tch (fun _=>False) w w0):=t0
 have HW0:Hid (w0=(w.alloc (.cells #[.int .i64 r.k,.int .i64 r.x,.int .i64 r.p,.int .i64 r.t,.slice s.oo r.o.length s.oc,.slice s.no r.n.length s.nc,.string r.nm,.int .i64 r.org,.int .i64 r.tb.id,.int .i64 r.tb.ver,.string r.tb.nm,.slice s.co r.tb.cols.length s.cc,.int .i64 r.tb.key,.slice s.to n s.tc] 37)).alloc (.cells #[.int .i64 r.k,.int .i64 r.x,.int .i64 r.p,.int .i64 r.t,.slice u.oo r.o.length u.oc,.slice u.no r.n.length u.nc,.string r.nm,.int .i64 r.org,.int .i64 r.tb.id,.int .i64 r.tb.ver,.string r.tb.nm,.slice u.co r.tb.cols.length u.cc,.int .i64 r.tb.key,.slice u.to n u.tc] 37)):=hw0
 rw[rV,rV, ←hn, ←hnu]
 clear h1 h2 bA bB t0 hw0 hn hnr hnu h8 h16 hp8
 go_enter Tryz.func15,Tryz.ntmps15
 go_wp2_with fail
 have hw0:=HW0.out
 rw[←hw0]
 clear hw0
 go_loopw [5] (fun i wr=> ∃k:Nat,i= .int .i64 k∧k≤n∧Hid (Tch (fun _=>False) w0 wr)) (fun i _=>n - (intOf i).toNat)
 case atStart=>exact⟨0,rfl,by omega,Tch.refl _ _⟩
 case round=>
  obtain⟨k,rfl,hk,HTr⟩:=hrel
  obtain⟨wV,hwV⟩: ∃wV,wV=wr:=⟨_,rfl⟩
  subst hwV
  obtain⟨bA,bB⟩:=HK.out wV HTr.out
  have HTw:Hid (Tch (fun _=>False) w wV):=HT0.out.trans' HTr.out
  by_cases hlt:(k:Int)<n
  ·have hks:k<s.P.length:=by have:=HNN.out.1;omega
   have hku:k<u.P.length:=by have:=HNN.out.2;omega
   obtain⟨hA,hB⟩:=HTL.out wV HTw.out
   obtain⟨ga,oa,ea,a0,a1,a2,a3,a4⟩:=hA.at k hks
   obtain⟨gb,ob,eb,b0,b1,b2,b3,b4⟩:=hB.at k hku
   obtain⟨co,cc,hc⟩:=hA.col k hks
   obtain⟨do',dc,hd⟩:=hB.col k hku
   obtain⟨p,hp⟩: ∃p,p=s.P[k]:=⟨_,rfl⟩
   obtain⟨q,hq⟩: ∃q,q=u.P[k]:=⟨_,rfl⟩
   obtain⟨hpq,hp8⟩:=HPQ.out k hks hku
   rw[←hp] at a0 a1 a2 a3 a4 hc hpq hp8
   rw[←hq] at b0 b1 b2 b3 b4 hd hpq
   rw[hc.eq] at a3
   rw[hd.eq] at b3
   have hcs:=hc.sl
   have hds:=hd.sl
   rw[←hpq] at b0 b1 b2 b3 b4 hds
   have cS: ∀d os,Calls Tryz.prog 38 #[tA p.1.id p.1.ver p.1.nm (.slice co p.1.cols.length cc) p.1.key,tA p.1.id p.1.ver p.1.nm (.slice do' p.1.cols.length dc) p.1.key] (grow (redrawn wV d) os) fun e w''=>e= .returned (.bool true)∧ ∃p:Regrown,w''=grow (redrawn wV p.d) p.os:=regrown_calls (fun W t=>lsameTabG p.1 co do' cc dc W (hcs.no t) (hds.no t) hp8)
   have x13:wV.cell? ⟨w.heap.size,13,none⟩=some (.slice s.to n s.tc):=blk_cell bA 13
   have y13:wV.cell? ⟨w.heap.size+1,13,none⟩=some (.slice u.to n u.tc):=blk_cell bB 13
   rw[ea] at x13
   rw[eb] at y13
   have k0:=cell_regrown a0;have k1:=cell_regrown a1;have k2:=cell_regrown a2;have k3:=cell_regrown a3;have k4:=cell_regrown a4
   have l0:=cell_regrown b0;have l1:=cell_regrown b1;have l2:=cell_regrown b2;have l3:=cell_regrown b3;have l4:=cell_regrown b4
   have k13:=cell_regrown x13;have l13:=cell_regrown y13
   clear hA hB hc hd hp hq hpq hcs hds bA bB hp8 ea eb
   go_wp2_with fail
   refine wp_region_quiet_below (by kernel_rfl) (by kernel_rfl) ?_
   repeat (quiet_step ((go_at_call 38;exact cS _ _)))
   refine wpQuiet_nil ?_
   rintro w2 ⟨p',rfl⟩
   have HTq:Hid (Tch (fun _=>False) w0 (grow (redrawn wV p'.d) p'.os)):=HTr.out.trans' (Tch.regrown wV p'.d p'.os)
   obtain⟨W2,hW2⟩: ∃W2,W2=grow (redrawn wV p'.d) p'.os:=⟨_,rfl⟩
   rw[←hW2] at HTq ⊢
   clear hW2 a0 a1 a2 a3 a4 b0 b1 b2 b3 b4 k0 k1 k2 k3 k4 l0 l1 l2 l3 l4 k13 l13 x13 y13 cS
   go_wp2_with fail
   go_roundw
   case rel=>exact⟨k+1,by go_num,by omega,HTq⟩
   case measure=>simp[intOf];omega
  ·have x13:wV.cell? ⟨w.heap.size,13,none⟩=some (.slice s.to n s.tc):=blk_cell bA 13
   have x4:wV.cell? ⟨w.heap.size,4,none⟩=some (.slice s.oo r.o.length s.oc):=blk_cell bA 4
   have y4:wV.cell? ⟨w.heap.size+1,4,none⟩=some (.slice u.oo r.o.length u.oc):=blk_cell bB 4
   clear bA bB
   go_wp2_with fail
   refine(HO.out wV HTw.out).mono ?_
   rintro x w1 ⟨rfl,t1⟩
   have U1:=HTr.out.trans' t1
   have T1:=HTw.out.trans' t1
   obtain⟨bA,bB⟩:=HK.out w1 U1
   have x5:w1.cell? ⟨w.heap.size,5,none⟩=some (.slice s.no r.n.length s.nc):=blk_cell bA 5
   have y5:w1.cell? ⟨w.heap.size+1,5,none⟩=some (.slice u.no r.n.length u.nc):=blk_cell bB 5
   clear bA bB x4 y4 x13 t1
   go_wp2_with fail
   refine(HN.out w1 T1).mono ?_
   rintro x w2 ⟨rfl,t2⟩
   have U2:=U1.trans' t2
   have T2:=T1.trans' t2
   obtain⟨bA,bB⟩:=HK.out w2 U2
   have x8:w2.cell? ⟨w.heap.size,8,none⟩=some (.int .i64 r.tb.id):=blk_cell bA 8
   have y8:w2.cell? ⟨w.heap.size+1,8,none⟩=some (.int .i64 r.tb.id):=blk_cell bB 8
   have x9:w2.cell? ⟨w.heap.size,9,none⟩=some (.int .i64 r.tb.ver):=blk_cell bA 9
   have y9:w2.cell? ⟨w.heap.size+1,9,none⟩=some (.int .i64 r.tb.ver):=blk_cell bB 9
   have x10:w2.cell? ⟨w.heap.size,10,none⟩=some (.string r.tb.nm):=blk_cell bA 10
   have y10:w2.cell? ⟨w.heap.size+1,10,none⟩=some (.string r.tb.nm):=blk_cell bB 10
   have x11:w2.cell? ⟨w.heap.size,11,none⟩=some (.slice s.co r.tb.cols.length s.cc):=blk_cell bA 11
   have y11:w2.cell? ⟨w.heap.size+1,11,none⟩=some (.slice u.co r.tb.cols.length u.cc):=blk_cell bB 11
   have x12:w2.cell? ⟨w.heap.size,12,none⟩=some (.int .i64 r.tb.key):=blk_cell bA 12
   have y12:w2.cell? ⟨w.heap.size+1,12,none⟩=some (.int .i64 r.tb.key):=blk_cell bB 12
   clear bA bB x5 y5 t2
   go_wp2_with fail
   refine(HT.out w2 T2).mono ?_
   rintro x w3 ⟨rfl,t3⟩
   have T3:=T2.trans' t3
   clear x8 y8 x9 y9 x10 y10 x11 y11 x12 y12 t3
   go_wp2_with fail
   go_ret
   exact⟨rfl,T3⟩
end Go.Proofs.YtaiadknglhemaaaGreatDoor.C
