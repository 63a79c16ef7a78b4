import Derived.Test.YtaiadknglhemaaaGreatDoorRV3
import Derived.Test.YtaiadknglhemaaaGreatDoorKeeps
import Derived.Test.YtaiadknglhemaaaGreatDoorRV0
set_option maxHeartbeats 8000000
set_option maxRecDepth 100000
namespace Go.Proofs.YtaiadknglhemaaaGreatDoor.C
open Go.RowKit
theorem tabL_len {t:Tbl} (h:RT t):(tabL t).length≤400:=by
 have h1:=fol_dg_len t.id.toNat
 have h2:=fol_dg_len t.ver.toNat
 have h3:=textL_len (nm_size h.nm)
 have h4:=colsL_len h.cols
 have h5:=h.len
 have e1: ∀n:Int,(bytesL [n]).length=1:=fun _=>rfl
 unfold tabL
 simp only[List.length_append,e1]
 omega
theorem tabsL_len: ∀ {l:List Tbl},(∀t∈l,RT t)→(tabsL l).length≤l.length*400
 |[],_=>by simp[tabsL]
 |c::l,h=>by
  have e:tabsL (c::l)=tabL c++tabsL l:=List.flatMap_cons
  have h1:=tabL_len (h c (by simp))
  have h2:=tabsL_len (l:=l) (fun x hx=>h x (by simp[hx]))
  rw[e,List.length_append,List.length_cons];omega
theorem tabsL_succ (l:List Tbl) (k:Nat) (hk:k<l.length):tabsL (l.take (k+1))=tabsL (l.take k)++tabL l[k]:=by
 have h:l.take (k+1)=l.take k++[l[k]]:=(List.take_append_getElem hk).symm
 unfold tabsL
 rw[h,List.flatMap_append,List.flatMap_cons,List.flatMap_nil,List.append_nil]
theorem lay_10 (b:Nat) (bs:List UInt8) (r:Rc) (s:Sk) (w:World) (h:WS w b bs 0) (_hg:HE w) (_hgb:1<b) (hw:RW w (fun i=>b≤i) r s) (hr:rightC 10 r) (hlen:bs.length+100000≤140737488355328):
  Calls Tryz.prog 235 #[.agg #[.int .i64 r.x,.int .i64 r.t,.slice s.to s.P.length s.tc],.pointer (some ⟨b,0,none⟩)] w fun x w'=>x= .returned (.tuple #[])∧WS w' b (bs++bodyL 10 r) 0∧Tch (WT b w) w w':=by
 obtain⟨g1,g2,g3⟩:(1≤r.x∧r.x≤2147483648)∧(1≤r.t∧r.t≤2147483648)∧LDp r.tbs r.t:=hr
 have hlt:=h.lt
 have HRT:Hid (∀t∈r.tbs,RT t):=g3.rt
 obtain⟨n,hn⟩: ∃n,n=s.P.length:=⟨_,rfl⟩
 have hnt:n=r.tbs.length:=by rw[hn, ←hw.eq,List.length_map]
 have hn16:n≤16:=by have:=g3.len;omega
 have HEQ:Hid (s.P.map Prod.fst=r.tbs∧n=s.P.length∧n=r.tbs.length):=⟨hw.eq,hn,hnt⟩
 rw[←hn]
 obtain⟨w0,hw0⟩: ∃w0,w0=w.alloc (.cells #[.int .i64 r.x,.int .i64 r.t,.slice s.to n s.tc] 145):=⟨_,rfl⟩
 have t0:Tch (fun _=>False) w w0:=by rw[hw0];exact Tch.alloc _ _ _
 have b0:w0.heap[w.heap.size]? =some (.cells #[.int .i64 r.x,.int .i64 r.t,.slice s.to n s.tc] 145 (0,0)):=by rw[hw0];exact heap_new w _
 have HK:Hid (∀W,Tch (WT b w0) w0 W→(W.cell? ⟨w.heap.size,0,none⟩=some (.int .i64 r.x)∧W.cell? ⟨w.heap.size,1,none⟩=some (.int .i64 r.t)∧W.cell? ⟨w.heap.size,2,none⟩=some (.slice s.to n s.tc))∧TL W (fun i=>b≤i) s.to s.P):=fun W t=>by
  have hb:=wt_keep t b0 (by decide) (by omega)
  exact⟨⟨blk_cell hb 0,blk_cell hb 1,blk_cell hb 2⟩,((hw.no t0).tch t (fun i _ h=>wt_ge h)).tbs⟩
 have h0:WS w0 b bs 0:=h.tch t0 (fun _ _ _ h=>h)
 have HT0:Hid (Tch (fun _=>False) w w0):=t0
 have HW0:Hid (w0=w.alloc (.cells #[.int .i64 r.x,.int .i64 r.t,.slice s.to n s.tc] 145)):=hw0
 clear h hw t0 b0 hw0 hn hnt g3
 go_enter Tryz.func235,Tryz.ntmps235
 go_wp2_with fail
 have q1:=wvar_ok b _ r.x w0 h0 (by omega) (by omega) (by omega)
 rw[HW0.out] at q1
 refine q1.mono ?_
 rintro x w1 ⟨rfl,h1,t1⟩
 rw[←HW0.out] at t1
 clear q1 h0
 have l1:=fol_dg_len r.x.toNat
 obtain⟨⟨y0,y1,y2⟩, -⟩:=HK.out w1 t1
 go_wp2_with fail
 refine(wvar_ok b _ r.t w1 h1 (by omega) (by omega) (by simp only[List.length_append];omega)).mono ?_
 rintro x w2 ⟨rfl,h2,t2⟩
 have T2:=wt_trans t1 t2
 have l2:=fol_dg_len r.t.toNat
 clear y0 y1 y2 h1 t1 t2
 obtain⟨⟨y0,y1,y2⟩, -⟩:=HK.out w2 T2
 go_wp2_with fail
 refine(wbyte1' b _ n _ w2 h2 (by simp) (by omega) (by omega) (by simp only[List.length_append];omega)).mono ?_
 rintro x w3 ⟨rfl,h3,t3⟩
 have T3:=wt_trans T2 t3
 clear y0 y1 y2 h2 T2 t3
 obtain⟨⟨y0,y1,y2⟩, -⟩:=HK.out w3 T3
 obtain⟨B,hB⟩: ∃B,B=bs++dg r.x.toNat++dg r.t.toNat++bytesL [(n:Int)]:=⟨_,rfl⟩
 have lB:B.length≤bs.length+21:=by
  have:(bytesL [(n:Int)]).length=1:=rfl
  rw[hB];simp only[List.length_append];omega
 rw[←hB] at h3
 have HB:Hid (B=bs++dg r.x.toNat++dg r.t.toNat++bytesL [(n:Int)]):=hB
 clear hB l1 l2
 go_wp2_with fail
 go_loopw [23] (fun i wr=> ∃k:Nat,i= .int .i64 k∧k≤n∧WS wr b (B++tabsL (r.tbs.take k)) 0∧Tch (WT b w0) w0 wr) (fun i _=>n - (intOf i).toNat)
 case atStart=>exact⟨0,rfl,Nat.zero_le _,by simpa[tabsL] using h3,T3⟩
 case round=>
  obtain⟨k,rfl,hk,hW,hT⟩:=hrel
  clear h3 T3 y0 y1 y2
  have HCt:Hid (∀c∈r.tbs.take k,RT c):=fun c hc=>HRT.out c (List.mem_of_mem_take hc)
  have lc:=tabsL_len HCt.out
  have lk:(r.tbs.take k).length≤16:=by rw[List.length_take];omega
  obtain⟨-,hs⟩:=HK.out _ hT
  have hwl:=hW.lt
  by_cases hkn:k<n
  ·have hkn':(k:Int)<n:=by omega
   have hkP:k<s.P.length:=by have:=HEQ.out.2.1;omega
   have hkt:k<r.tbs.length:=by have:=HEQ.out.2.2;omega
   obtain⟨g,o,e,c0,c1,c2,c3,c4⟩:=hs.at k hkP
   obtain⟨co,cc,hck⟩:=hs.col k hkP
   obtain⟨p,hp⟩: ∃p,p=s.P[k]:=⟨_,rfl⟩
   have hpt:p.1=r.tbs[k]:=by
    have h1:(s.P.map Prod.fst)[k]? =r.tbs[k]? :=by rw[HEQ.out.1]
    rw[List.getElem?_map,List.getElem?_eq_getElem hkP,List.getElem?_eq_getElem hkt] at h1
    rw[hp];simpa using h1
   have hrt:=HRT.out p.1 (by rw[hpt];exact List.getElem_mem hkt)
   have HS:Hid (tabsL (r.tbs.take (k+1))=tabsL (r.tbs.take k)++tabL p.1):=by show _=_;rw[hpt];exact tabsL_succ _ _ hkt
   rw[←hp] at c0 c1 c2 c3 c4 hck
   rw[hck.eq] at c3
   obtain⟨to',hto⟩: ∃to',to'=s.to:=⟨_,rfl⟩
   rw[←hto] at e ⊢
   subst e
   obtain⟨wb,hwb⟩: ∃wb,wb=wr.alloc (.cells #[.int .i64 p.1.id,.int .i64 p.1.ver,.string p.1.nm,.slice co p.1.cols.length cc,.int .i64 p.1.key] 29):=⟨_,rfl⟩
   have tb:Tch (fun _=>False) wr wb:=by rw[hwb];exact Tch.alloc _ _ _
   have hne:p.1.cols≠[]:=fun e0=>by have h1:=hrt.len;rw[e0] at h1;simp at h1
   have q:=layTable_any b _ p.1 co cc wb (hW.tch tb (fun _ _ _ h=>h)) hrt (hck.sl.no tb) (fun g o e=>by have:=(hck.nf hne g o e).1;omega) (by rw[List.length_append];omega)
   have HTB:Hid (Tch (WT b w0) w0 wb):=wt_trans hT (wt_new tb (Tch.refl _ _))
   rw[hwb] at q
   have HWB:Hid (wb=wr.alloc (.cells #[.int .i64 p.1.id,.int .i64 p.1.ver,.string p.1.nm,.slice co p.1.cols.length cc,.int .i64 p.1.key] 29)):=hwb
   clear hwb tb hW hT hs hck hrt hpt hp hne hto
   go_wp2_with fail
   refine q.mono ?_
   rintro x w5 ⟨rfl,h5,t5⟩
   rw[←HWB.out] at t5
   have T5:=wt_trans HTB.out t5
   clear q t5 c0 c1 c2 c3 c4
   go_wp2_with fail
   go_roundw
   case rel=>
    refine⟨k+1,by go_num,by omega,?_,T5⟩
    show WS _ _ _ _
    rw[HS.out]
    simpa only[List.append_assoc] using h5
   case measure=>simp[intOf];omega
  ·have hkn': ¬(k:Int)<n:=by omega
   have HTk:Hid (r.tbs.take k=r.tbs):=by
    show _=_
    rw[List.take_of_length_le];have:=HEQ.out.2.2;omega
   clear hs
   go_wp2_with fail
   go_end0
   refine⟨rfl,?_,wt_new HT0.out hT⟩
   rw[HTk.out,HB.out] at hW
   unfold bodyL
   simp only
   rw[←HEQ.out.2.2]
   simpa only[List.append_assoc] using hW
open Go Go.Sort
theorem RW.low {W:World} {F:Nat→Prop} {r:Rc} {s:Sk} (h:RW W F r s) {b:Nat} (hb:W.heap.size≤b):RW W (fun i=>b≤i) r s:=by
 refine⟨h.o,h.n,⟨h.tb.eq,h.tb.sl,h.tb.no,h.tb.cap,fun hne g o e=>?_⟩,⟨h.tbs.sl,fun hne g o e=>?_,fun i hi=>?_⟩,h.eq,fun hne g o e=>?_,fun hne g o e=>?_,h.oi,h.ni,h.ol,h.nl,h.cl,h.tl,h.pl⟩
 ·have:=(h.tb.nf hne g o e).2;exact⟨by omega,this⟩
 ·obtain⟨g',o',e',ha⟩:=h.tbs.sl (tcl_nil hne)
  rw[e] at e';injection e' with e';injection e' with e1 e2
  have:=ha.lt (tcl_nil hne);omega
 ·obtain⟨co,cc,hc⟩:=h.tbs.col i hi
  exact⟨co,cc,hc.eq,hc.sl,hc.no,hc.cap,fun hne g o e=>by have:=(hc.nf hne g o e).2;exact⟨by omega,this⟩⟩
 ·obtain⟨g',o',e',ha⟩:=h.o (f3_nil _ _ _ hne)
  rw[e] at e';injection e' with e';injection e' with e1 e2
  have:=ha.lt (f3_nil _ _ _ hne);omega
 ·obtain⟨g',o',e',ha⟩:=h.n (f3_nil _ _ _ hne)
  rw[e] at e';injection e' with e';injection e' with e1 e2
  have:=ha.lt (f3_nil _ _ _ hne);omega
end Go.Proofs.YtaiadknglhemaaaGreatDoor.C
namespace Go.Proofs.YtaiadknglhemaaaGreatDoor.C
open Go.RowKit
theorem recordOf_1 (r:Rc) (s:Sk) (w:World):Calls Tryz.prog 37 #[.int .i64 r.k,bV 1 r s] w fun x w'=>x= .returned (rV (cutC 1 r) (cutS 1 s))∧Tch (fun _=>False) w w':=by
 have a1: ∀v W,(Instr.typeAssert (.iface 128 v) 71 128 true).run Tryz.prog W= .ok (.tuple #[v,.bool true]) W:=fun v W=>by kernel_rfl
 unfold bV
 go_enter Tryz.func37,Tryz.ntmps37
 go_wp2_with fail
 have hrs:Tryz.f37.results=#[.cell 4 37]:=by kernel_rfl
 refine bodyPost_ret (v:=rV (cutC 1 r) (cutS 1 s)) (by simp only[results,hrs];go_simp;(repeat' apply And.intro)<;>rfl) rfl ⟨rfl,?_⟩
 exact(((Tch.alloc _ _ _).allocR _).allocR _)
open Go Go.Sort
theorem rightB_1 (r:Rc) (s:Sk) (F:Nat→Prop) (w:World) (hg:HE w) (h:RW w F r s) (hk:cls r.k=1) (d1 d2:Bool) (hd1:d1=true ↔ rightC 1 r) (hd2:d2=true ↔ r=cutC 1 r):Calls Tryz.prog 30 #[rV r s] w fun x w'=>x= .returned (.tuple #[if d1 && d2 then bV 1 r s else .nilIface,.int .i64 (if d1 && d2 then 0 else 61)])∧Tch (fun _=>False) w w':=by
 obtain⟨w0,hw0⟩: ∃w0,w0=w.alloc (.cells #[.int .i64 r.k,.int .i64 r.x,.int .i64 r.p,.int .i64 r.t,.slice s.oo r.o.length s.oc,.slice s.no r.n.length s.nc,.string r.nm,.int .i64 r.org,.int .i64 r.tb.id,.int .i64 r.tb.ver,.string r.tb.nm,.slice s.co r.tb.cols.length s.cc,.int .i64 r.tb.key,.slice s.to s.P.length s.tc] 37):=⟨_,rfl⟩
 have t0:Tch (fun _=>False) w w0:=by rw[hw0];exact Tch.alloc _ _ _
 have b0:w0.heap[w.heap.size]? =some (.cells #[.int .i64 r.k,.int .i64 r.x,.int .i64 r.p,.int .i64 r.t,.slice s.oo r.o.length s.oc,.slice s.no r.n.length s.nc,.string r.nm,.int .i64 r.org,.int .i64 r.tb.id,.int .i64 r.tb.ver,.string r.tb.nm,.slice s.co r.tb.cols.length s.cc,.int .i64 r.tb.key,.slice s.to s.P.length s.tc] 37 (0,0)):=by rw[hw0];exact heap_new w _
 have q1:=bodyOf_any r s w0
 rw[hk] at q1
 have q1:Calls Tryz.prog 36 #[rV r s] w0 fun x w'=>x= .returned (.iface 128 (.agg #[.int .i64 r.x]))∧Tch (fun _=>False) w0 w':=q1
 have HQ1:Hid (∀W,Tch (fun _=>False) w W→Calls Tryz.prog 185 #[.agg #[.int .i64 r.x]] W fun x w'=>x= .returned (.bool d1)∧Tch (fun _=>False) W w'):=fun W t=>eqT_d (right_1 r s F W (hg.tch t (fun h=>h)) (h.no t)) hd1
 have HQ2:Hid (∀W,Calls Tryz.prog 37 #[.int .i64 r.k,.iface 128 (.agg #[.int .i64 r.x])] W fun x w'=>x= .returned (rV (cutC 1 r) (cutS 1 s))∧Tch (fun _=>False) W w'):=fun W=>recordOf_1 r s W
 have HQ3:Hid (∀W,Tch (fun _=>False) w W→Calls Tryz.prog 66 #[rV r s,rV (cutC 1 r) (cutS 1 s)] W fun x w'=>x= .returned (.bool d2)∧Tch (fun _=>False) W w'):=fun W t=>eqT_d (same_r r (cutC 1 r) s (cutS 1 s) F F W (h.no t) ((h.no t).cut 1)) hd2
 have m1: ∀(v:Array Value) (W:World),(method 381 128 (.agg v) "confluence/record.isRight").run Tryz.prog W= .ok (185,.agg v) W:=fun v W=>by kernel_rfl
 obtain⟨V,hV⟩: ∃V,V=rV (cutC 1 r) (cutS 1 s):=⟨_,rfl⟩
 rw[←hV] at HQ2 HQ3
 rw[hw0] at q1
 have HW0:Hid (w0=w.alloc (.cells #[.int .i64 r.k,.int .i64 r.x,.int .i64 r.p,.int .i64 r.t,.slice s.oo r.o.length s.oc,.slice s.no r.n.length s.nc,.string r.nm,.int .i64 r.org,.int .i64 r.tb.id,.int .i64 r.tb.ver,.string r.tb.nm,.slice s.co r.tb.cols.length s.cc,.int .i64 r.tb.key,.slice s.to s.P.length s.tc] 37)):=hw0
 clear h hg hk hd1 hd2 hV hw0
 cases d1<;>cases d2
 all_goals
  go_enter Tryz.func30,Tryz.ntmps30
  go_wp2_with fail
  refine q1.mono ?_
  rintro x w1 ⟨rfl,t1⟩
  rw[←HW0.out] at t1
  have T1:Tch (fun _=>False) w w1:=t0.trans' t1
  have b1:w1.heap[w.heap.size]? =some (.cells #[.int .i64 r.k,.int .i64 r.x,.int .i64 r.p,.int .i64 r.t,.slice s.oo r.o.length s.oc,.slice s.no r.n.length s.nc,.string r.nm,.int .i64 r.org,.int .i64 r.tb.id,.int .i64 r.tb.ver,.string r.tb.nm,.slice s.co r.tb.cols.length s.cc,.int .i64 r.tb.key,.slice s.to s.P.length s.tc] 37 (0,0)):=(t1.block _ (blk_lt b0) (fun h=>h)).trans b0
  have y0:=blk_cell b1 0
  have y1:=blk_cell b1 1
  have y2:=blk_cell b1 2
  have y3:=blk_cell b1 3
  have y4:=blk_cell b1 4
  have y5:=blk_cell b1 5
  have y6:=blk_cell b1 6
  have y7:=blk_cell b1 7
  have y8:=blk_cell b1 8
  have y9:=blk_cell b1 9
  have y10:=blk_cell b1 10
  have y11:=blk_cell b1 11
  have y12:=blk_cell b1 12
  have y13:=blk_cell b1 13
  simp only[List.getElem?_toArray,List.getElem?_cons_succ,List.getElem?_cons_zero] at y0 y1 y2 y3 y4 y5 y6 y7 y8 y9 y10 y11 y12 y13
  have k0:=cell_regrown y0
  have k1:=cell_regrown y1
  have k2:=cell_regrown y2
  have k3:=cell_regrown y3
  have k4:=cell_regrown y4
  have k5:=cell_regrown y5
  have k6:=cell_regrown y6
  have k7:=cell_regrown y7
  have k8:=cell_regrown y8
  have k9:=cell_regrown y9
  have k10:=cell_regrown y10
  have k11:=cell_regrown y11
  have k12:=cell_regrown y12
  have k13:=cell_regrown y13
  have c1:=fun(d:Nat) (os:Array Obj)=>regrown_calls (w:=w1) (fun W t=>HQ1.out W (T1.trans' t)) d os
  have c2: ∀d os,Calls Tryz.prog 37 #[.int .i64 r.k,.iface 128 (.agg #[.int .i64 r.x])] (grow (redrawn w1 d) os) fun e w''=>e= .returned V∧ ∃p:Regrown,w''=grow (redrawn w1 p.d) p.os:=regrown_calls (fun W _=>HQ2.out W)
  have c3:=fun(d:Nat) (os:Array Obj)=>regrown_calls (w:=w1) (fun W t=>HQ3.out W (T1.trans' t)) d os
  have HT1:Hid (Tch (fun _=>False) w w1):=T1
  clear b0 b1 t0 t1 T1 q1 HW0 HQ1 HQ2 HQ3
  go_wp2_with fail
  refine wp_region_quiet_below (by kernel_rfl) (by kernel_rfl) ?_
  repeat (quiet_step (first|(go_at_call 185;exact c1 _ _)|(go_at_call 37;exact c2 _ _)|(go_at_call 66;exact c3 _ _)))
  refine wpQuiet_nil ?_
  rintro w2 ⟨p,rfl⟩
  have HE:=HT1.out.trans' (Tch.regrown w1 p.d p.os)
  have HE2:Hid _:=HE
  clear HE
  obtain⟨W2,hW2⟩: ∃W2,W2=grow (redrawn w1 p.d) p.os:=⟨_,rfl⟩
  rw[←hW2] at HE2 ⊢
  clear hW2 k0 k1 k2 k3 k4 k5 k6 k7 k8 k9 k10 k11 k12 k13 y0 y1 y2 y3 y4 y5 y6 y7 y8 y9 y10 y11 y12 y13 c1 c2 c3
  go_wp2_with fail
  go_ret2
  exact⟨rfl,HE2.out⟩
theorem rightBody_1 (r:Rc) (s:Sk) (F:Nat→Prop) (w:World) (hg:HE w) (h:RW w F r s) (hk:cls r.k=1) (hr:rightC 1 r) (hc:cutC 1 r=r):Calls Tryz.prog 30 #[rV r s] w fun x w'=>x= .returned (.tuple #[bV 1 r s,.int .i64 0])∧Tch (fun _=>False) w w':=rightB_1 r s F w hg h hk true true ⟨fun _=>hr,fun _=>rfl⟩ ⟨fun _=>hc.symm,fun _=>rfl⟩
theorem encode_1 (r:Rc) (s:Sk) (F:Nat→Prop) (w:World) (hg:HE w) (h:RW w F r s) (hk:cls r.k=1) (hr:rightC 1 r) (hc:cutC 1 r=r):Calls Tryz.prog 13 #[rV r s] w fun x w'=>x= .returned (.tuple #[.string ⟨(recL r).toArray⟩,.int .i64 0])∧Tch (fun _=>False) w w':=by
 obtain⟨w0,hw0⟩: ∃w0,w0=w.alloc (.cells #[.int .i64 r.k,.int .i64 r.x,.int .i64 r.p,.int .i64 r.t,.slice s.oo r.o.length s.oc,.slice s.no r.n.length s.nc,.string r.nm,.int .i64 r.org,.int .i64 r.tb.id,.int .i64 r.tb.ver,.string r.tb.nm,.slice s.co r.tb.cols.length s.cc,.int .i64 r.tb.key,.slice s.to s.P.length s.tc] 37):=⟨_,rfl⟩
 have t0:Tch (fun _=>False) w w0:=by rw[hw0];exact Tch.alloc _ _ _
 have b0:w0.heap[w.heap.size]? =some (.cells #[.int .i64 r.k,.int .i64 r.x,.int .i64 r.p,.int .i64 r.t,.slice s.oo r.o.length s.oc,.slice s.no r.n.length s.nc,.string r.nm,.int .i64 r.org,.int .i64 r.tb.id,.int .i64 r.tb.ver,.string r.tb.nm,.slice s.co r.tb.cols.length s.cc,.int .i64 r.tb.key,.slice s.to s.P.length s.tc] 37 (0,0)):=by rw[hw0];exact heap_new w _
 have q1:=rightBody_1 r s F w0 (hg.tch t0 (fun h=>h)) (h.no t0) hk hr hc
 have q1:Calls Tryz.prog 30 #[rV r s] w0 fun x w'=>x= .returned (.tuple #[.iface 128 (.agg #[.int .i64 r.x]),.int .i64 0])∧Tch (fun _=>False) w0 w':=q1
 rw[hw0] at q1
 have HW0:Hid (w0=w.alloc (.cells #[.int .i64 r.k,.int .i64 r.x,.int .i64 r.p,.int .i64 r.t,.slice s.oo r.o.length s.oc,.slice s.no r.n.length s.nc,.string r.nm,.int .i64 r.org,.int .i64 r.tb.id,.int .i64 r.tb.ver,.string r.tb.nm,.slice s.co r.tb.cols.length s.cc,.int .i64 r.tb.key,.slice s.to s.P.length s.tc] 37)):=hw0
 have hkr:1≤r.k∧r.k≤15:=by
  rcases cls_rng r.k with h1|h1
  ·rw[hk] at h1;cases h1
  ·exact⟨h1.1,h1.2.1⟩
 have m1: ∀(v:Array Value) (W:World),(method 381 128 (.agg v) "confluence/record.lay").run Tryz.prog W= .ok (186,.agg v) W:=fun v W=>by kernel_rfl
 have hgl:1<w.heap.size:=cell_lt hg
 have HR:Hid (∀W,Tch (fun _=>False) w W→RW W F r s∧HE W):=fun W t=>⟨h.no t,hg.tch t (fun h=>h)⟩
 have HRC:Hid (rightC 1 r):=hr
 have HRL:Hid (recL r=bytesL [r.k]++bodyL 1 r):=by show _=_;unfold recL;rw[hk];rfl
 clear h hg hk hr hc hw0
 go_enter Tryz.func13,Tryz.ntmps13
 go_wp2_with fail
 refine q1.mono ?_
 rintro x w1 ⟨rfl,t1⟩
 rw[←HW0.out] at t1
 have T1:Tch (fun _=>False) w w1:=t0.trans' t1
 have b1:w1.heap[w.heap.size]? =some (.cells #[.int .i64 r.k,.int .i64 r.x,.int .i64 r.p,.int .i64 r.t,.slice s.oo r.o.length s.oc,.slice s.no r.n.length s.nc,.string r.nm,.int .i64 r.org,.int .i64 r.tb.id,.int .i64 r.tb.ver,.string r.tb.nm,.slice s.co r.tb.cols.length s.cc,.int .i64 r.tb.key,.slice s.to s.P.length s.tc] 37 (0,0)):=(t1.block _ (blk_lt b0) (fun h=>h)).trans b0
 clear q1 t1 t0 b0 HW0
 go_wp2_with fail
 refine(newWriter_any w1).mono ?_
 rintro x w2 ⟨rfl,h2,t2,z2⟩
 have b2:w2.heap[w.heap.size]? =some (.cells #[.int .i64 r.k,.int .i64 r.x,.int .i64 r.p,.int .i64 r.t,.slice s.oo r.o.length s.oc,.slice s.no r.n.length s.nc,.string r.nm,.int .i64 r.org,.int .i64 r.tb.id,.int .i64 r.tb.ver,.string r.tb.nm,.slice s.co r.tb.cols.length s.cc,.int .i64 r.tb.key,.slice s.to s.P.length s.tc] 37 (0,0)):=(t2.block _ (blk_lt b1) (fun h=>h)).trans b1
 have y0:w2.cell? ⟨w.heap.size,0,none⟩=some (.int .i64 r.k):=blk_cell b2 0
 have T2:=T1.trans' t2
 have HT12:Hid (Tch (fun _=>False) w1 w2):=t2
 clear b1 b2 t2
 go_wp2_with fail
 refine(wbyte1' _ [] r.k _ w2 h2 (by first|rfl|exact z2|simp) (by omega) (by omega) (by simp)).mono ?_
 rintro x w3 ⟨rfl,h3,t3⟩
 have hz1:=T1.size
 have hrw:RW w3 (fun i=>w1.heap.size≤i) r s:=(((HR.out w1 T1).1.low (Nat.le_refl _)).tch (show Tch (fun i=>w1.heap.size≤i) w1 w3 from by
  have t12:Tch (fun _=>False) w1 w2:=HT12.out
  exact(t12.mono (fun _ _ h=>h.elim)).trans' (wt_le t3)) (fun i _ h=>h))
 have hhe:HE w3:=(HR.out w2 T2).2.tch (wt_le t3) (by omega)
 have q4:=lay_1 w1.heap.size _ r s w3 h3 hhe (by omega) hrw HRC.out (by simp[bytesL])
 have T3:Tch (fun i=>w.heap.size≤i) w w3:=(T2.mono (fun _ _ h=>h.elim)).trans (wt_le t3) (fun i _ h=>by omega)
 clear hrw hhe y0 h2
 go_wp2_with fail
 refine q4.mono ?_
 rintro x w4 ⟨rfl,h4,t4⟩
 clear q4
 have T4:Tch (fun i=>w.heap.size≤i) w w4:=T3.trans' ((wt_le t4).mono (fun i _ h=>by omega))
 have hhe:HE w4:=by
  have h5:=(HR.out w2 T2).2.tch (wt_le t3) (by omega)
  exact h5.tch (wt_le t4) (by omega)
 have q5:=wdone_ok w1.heap.size _ w4 h4 hhe
 rw[List.nil_append, ←HRL.out] at q5
 go_wp2_with fail
 refine q5.mono ?_
 rintro x w5 ⟨rfl,t5⟩
 go_wp2_with fail
 go_ret2
 exact⟨rfl,(T4.mono (fun i hi h=>by omega)).trans' t5⟩
end Go.Proofs.YtaiadknglhemaaaGreatDoor.C
namespace Go.Proofs.YtaiadknglhemaaaGreatDoor.C
open Go.RowKit
theorem recordOf_2 (r:Rc) (s:Sk) (w:World):Calls Tryz.prog 37 #[.int .i64 r.k,bV 2 r s] w fun x w'=>x= .returned (rV (cutC 2 r) (cutS 2 s))∧Tch (fun _=>False) w w':=by
 have a1: ∀v W,(Instr.typeAssert (.iface 130 v) 71 128 true).run Tryz.prog W= .ok (.tuple #[.agg #[.int .i64 0],.bool false]) W:=fun v W=>by kernel_rfl
 have a2: ∀v W,(Instr.typeAssert (.iface 130 v) 71 130 true).run Tryz.prog W= .ok (.tuple #[v,.bool true]) W:=fun v W=>by kernel_rfl
 unfold bV
 go_enter Tryz.func37,Tryz.ntmps37
 go_wp2_with fail
 go_region
 go_wp2_with fail
 have hrs:Tryz.f37.results=#[.cell 4 37]:=by kernel_rfl
 refine bodyPost_ret (v:=rV (cutC 2 r) (cutS 2 s)) (by simp only[results,hrs];go_simp;(repeat' apply And.intro)<;>rfl) rfl ⟨rfl,?_⟩
 exact(((Tch.alloc _ _ _).allocR _).allocR _).drew
open Go Go.Sort
theorem rightB_2 (r:Rc) (s:Sk) (F:Nat→Prop) (w:World) (hg:HE w) (h:RW w F r s) (hk:cls r.k=2) (d1 d2:Bool) (hd1:d1=true ↔ rightC 2 r) (hd2:d2=true ↔ r=cutC 2 r):Calls Tryz.prog 30 #[rV r s] w fun x w'=>x= .returned (.tuple #[if d1 && d2 then bV 2 r s else .nilIface,.int .i64 (if d1 && d2 then 0 else 61)])∧Tch (fun _=>False) w w':=by
 obtain⟨w0,hw0⟩: ∃w0,w0=w.alloc (.cells #[.int .i64 r.k,.int .i64 r.x,.int .i64 r.p,.int .i64 r.t,.slice s.oo r.o.length s.oc,.slice s.no r.n.length s.nc,.string r.nm,.int .i64 r.org,.int .i64 r.tb.id,.int .i64 r.tb.ver,.string r.tb.nm,.slice s.co r.tb.cols.length s.cc,.int .i64 r.tb.key,.slice s.to s.P.length s.tc] 37):=⟨_,rfl⟩
 have t0:Tch (fun _=>False) w w0:=by rw[hw0];exact Tch.alloc _ _ _
 have b0:w0.heap[w.heap.size]? =some (.cells #[.int .i64 r.k,.int .i64 r.x,.int .i64 r.p,.int .i64 r.t,.slice s.oo r.o.length s.oc,.slice s.no r.n.length s.nc,.string r.nm,.int .i64 r.org,.int .i64 r.tb.id,.int .i64 r.tb.ver,.string r.tb.nm,.slice s.co r.tb.cols.length s.cc,.int .i64 r.tb.key,.slice s.to s.P.length s.tc] 37 (0,0)):=by rw[hw0];exact heap_new w _
 have q1:=bodyOf_any r s w0
 rw[hk] at q1
 have q1:Calls Tryz.prog 36 #[rV r s] w0 fun x w'=>x= .returned (.iface 130 (.agg #[.int .i64 r.x,.int .i64 r.p]))∧Tch (fun _=>False) w0 w':=q1
 have HQ1:Hid (∀W,Tch (fun _=>False) w W→Calls Tryz.prog 192 #[.agg #[.int .i64 r.x,.int .i64 r.p]] W fun x w'=>x= .returned (.bool d1)∧Tch (fun _=>False) W w'):=fun W t=>eqT_d (right_2 r s F W (hg.tch t (fun h=>h)) (h.no t)) hd1
 have HQ2:Hid (∀W,Calls Tryz.prog 37 #[.int .i64 r.k,.iface 130 (.agg #[.int .i64 r.x,.int .i64 r.p])] W fun x w'=>x= .returned (rV (cutC 2 r) (cutS 2 s))∧Tch (fun _=>False) W w'):=fun W=>recordOf_2 r s W
 have HQ3:Hid (∀W,Tch (fun _=>False) w W→Calls Tryz.prog 66 #[rV r s,rV (cutC 2 r) (cutS 2 s)] W fun x w'=>x= .returned (.bool d2)∧Tch (fun _=>False) W w'):=fun W t=>eqT_d (same_r r (cutC 2 r) s (cutS 2 s) F F W (h.no t) ((h.no t).cut 2)) hd2
 have m1: ∀(v:Array Value) (W:World),(method 381 130 (.agg v) "confluence/record.isRight").run Tryz.prog W= .ok (192,.agg v) W:=fun v W=>by kernel_rfl
 obtain⟨V,hV⟩: ∃V,V=rV (cutC 2 r) (cutS 2 s):=⟨_,rfl⟩
 rw[←hV] at HQ2 HQ3
 rw[hw0] at q1
 have HW0:Hid (w0=w.alloc (.cells #[.int .i64 r.k,.int .i64 r.x,.int .i64 r.p,.int .i64 r.t,.slice s.oo r.o.length s.oc,.slice s.no r.n.length s.nc,.string r.nm,.int .i64 r.org,.int .i64 r.tb.id,.int .i64 r.tb.ver,.string r.tb.nm,.slice s.co r.tb.cols.length s.cc,.int .i64 r.tb.key,.slice s.to s.P.length s.tc] 37)):=hw0
 clear h hg hk hd1 hd2 hV hw0
 cases d1<;>cases d2
 all_goals
  go_enter Tryz.func30,Tryz.ntmps30
  go_wp2_with fail
  refine q1.mono ?_
  rintro x w1 ⟨rfl,t1⟩
  rw[←HW0.out] at t1
  have T1:Tch (fun _=>False) w w1:=t0.trans' t1
  have b1:w1.heap[w.heap.size]? =some (.cells #[.int .i64 r.k,.int .i64 r.x,.int .i64 r.p,.int .i64 r.t,.slice s.oo r.o.length s.oc,.slice s.no r.n.length s.nc,.string r.nm,.int .i64 r.org,.int .i64 r.tb.id,.int .i64 r.tb.ver,.string r.tb.nm,.slice s.co r.tb.cols.length s.cc,.int .i64 r.tb.key,.slice s.to s.P.length s.tc] 37 (0,0)):=(t1.block _ (blk_lt b0) (fun h=>h)).trans b0
  have y0:=blk_cell b1 0
  have y1:=blk_cell b1 1
  have y2:=blk_cell b1 2
  have y3:=blk_cell b1 3
  have y4:=blk_cell b1 4
  have y5:=blk_cell b1 5
  have y6:=blk_cell b1 6
  have y7:=blk_cell b1 7
  have y8:=blk_cell b1 8
  have y9:=blk_cell b1 9
  have y10:=blk_cell b1 10
  have y11:=blk_cell b1 11
  have y12:=blk_cell b1 12
  have y13:=blk_cell b1 13
  simp only[List.getElem?_toArray,List.getElem?_cons_succ,List.getElem?_cons_zero] at y0 y1 y2 y3 y4 y5 y6 y7 y8 y9 y10 y11 y12 y13
  have k0:=cell_regrown y0
  have k1:=cell_regrown y1
  have k2:=cell_regrown y2
  have k3:=cell_regrown y3
  have k4:=cell_regrown y4
  have k5:=cell_regrown y5
  have k6:=cell_regrown y6
  have k7:=cell_regrown y7
  have k8:=cell_regrown y8
  have k9:=cell_regrown y9
  have k10:=cell_regrown y10
  have k11:=cell_regrown y11
  have k12:=cell_regrown y12
  have k13:=cell_regrown y13
  have c1:=fun(d:Nat) (os:Array Obj)=>regrown_calls (w:=w1) (fun W t=>HQ1.out W (T1.trans' t)) d os
  have c2: ∀d os,Calls Tryz.prog 37 #[.int .i64 r.k,.iface 130 (.agg #[.int .i64 r.x,.int .i64 r.p])] (grow (redrawn w1 d) os) fun e w''=>e= .returned V∧ ∃p:Regrown,w''=grow (redrawn w1 p.d) p.os:=regrown_calls (fun W _=>HQ2.out W)
  have c3:=fun(d:Nat) (os:Array Obj)=>regrown_calls (w:=w1) (fun W t=>HQ3.out W (T1.trans' t)) d os
  have HT1:Hid (Tch (fun _=>False) w w1):=T1
  clear b0 b1 t0 t1 T1 q1 HW0 HQ1 HQ2 HQ3
  go_wp2_with fail
  refine wp_region_quiet_below (by kernel_rfl) (by kernel_rfl) ?_
  repeat (quiet_step (first|(go_at_call 192;exact c1 _ _)|(go_at_call 37;exact c2 _ _)|(go_at_call 66;exact c3 _ _)))
  refine wpQuiet_nil ?_
  rintro w2 ⟨p,rfl⟩
  have HE:=HT1.out.trans' (Tch.regrown w1 p.d p.os)
  have HE2:Hid _:=HE
  clear HE
  obtain⟨W2,hW2⟩: ∃W2,W2=grow (redrawn w1 p.d) p.os:=⟨_,rfl⟩
  rw[←hW2] at HE2 ⊢
  clear hW2 k0 k1 k2 k3 k4 k5 k6 k7 k8 k9 k10 k11 k12 k13 y0 y1 y2 y3 y4 y5 y6 y7 y8 y9 y10 y11 y12 y13 c1 c2 c3
  go_wp2_with fail
  go_ret2
  exact⟨rfl,HE2.out⟩
theorem rightBody_2 (r:Rc) (s:Sk) (F:Nat→Prop) (w:World) (hg:HE w) (h:RW w F r s) (hk:cls r.k=2) (hr:rightC 2 r) (hc:cutC 2 r=r):Calls Tryz.prog 30 #[rV r s] w fun x w'=>x= .returned (.tuple #[bV 2 r s,.int .i64 0])∧Tch (fun _=>False) w w':=rightB_2 r s F w hg h hk true true ⟨fun _=>hr,fun _=>rfl⟩ ⟨fun _=>hc.symm,fun _=>rfl⟩
theorem encode_2 (r:Rc) (s:Sk) (F:Nat→Prop) (w:World) (hg:HE w) (h:RW w F r s) (hk:cls r.k=2) (hr:rightC 2 r) (hc:cutC 2 r=r):Calls Tryz.prog 13 #[rV r s] w fun x w'=>x= .returned (.tuple #[.string ⟨(recL r).toArray⟩,.int .i64 0])∧Tch (fun _=>False) w w':=by
 obtain⟨w0,hw0⟩: ∃w0,w0=w.alloc (.cells #[.int .i64 r.k,.int .i64 r.x,.int .i64 r.p,.int .i64 r.t,.slice s.oo r.o.length s.oc,.slice s.no r.n.length s.nc,.string r.nm,.int .i64 r.org,.int .i64 r.tb.id,.int .i64 r.tb.ver,.string r.tb.nm,.slice s.co r.tb.cols.length s.cc,.int .i64 r.tb.key,.slice s.to s.P.length s.tc] 37):=⟨_,rfl⟩
 have t0:Tch (fun _=>False) w w0:=by rw[hw0];exact Tch.alloc _ _ _
 have b0:w0.heap[w.heap.size]? =some (.cells #[.int .i64 r.k,.int .i64 r.x,.int .i64 r.p,.int .i64 r.t,.slice s.oo r.o.length s.oc,.slice s.no r.n.length s.nc,.string r.nm,.int .i64 r.org,.int .i64 r.tb.id,.int .i64 r.tb.ver,.string r.tb.nm,.slice s.co r.tb.cols.length s.cc,.int .i64 r.tb.key,.slice s.to s.P.length s.tc] 37 (0,0)):=by rw[hw0];exact heap_new w _
 have q1:=rightBody_2 r s F w0 (hg.tch t0 (fun h=>h)) (h.no t0) hk hr hc
 have q1:Calls Tryz.prog 30 #[rV r s] w0 fun x w'=>x= .returned (.tuple #[.iface 130 (.agg #[.int .i64 r.x,.int .i64 r.p]),.int .i64 0])∧Tch (fun _=>False) w0 w':=q1
 rw[hw0] at q1
 have HW0:Hid (w0=w.alloc (.cells #[.int .i64 r.k,.int .i64 r.x,.int .i64 r.p,.int .i64 r.t,.slice s.oo r.o.length s.oc,.slice s.no r.n.length s.nc,.string r.nm,.int .i64 r.org,.int .i64 r.tb.id,.int .i64 r.tb.ver,.string r.tb.nm,.slice s.co r.tb.cols.length s.cc,.int .i64 r.tb.key,.slice s.to s.P.length s.tc] 37)):=hw0
 have hkr:1≤r.k∧r.k≤15:=by
  rcases cls_rng r.k with h1|h1
  ·rw[hk] at h1;cases h1
  ·exact⟨h1.1,h1.2.1⟩
 have m1: ∀(v:Array Value) (W:World),(method 381 130 (.agg v) "confluence/record.lay").run Tryz.prog W= .ok (193,.agg v) W:=fun v W=>by kernel_rfl
 have hgl:1<w.heap.size:=cell_lt hg
 have HR:Hid (∀W,Tch (fun _=>False) w W→RW W F r s∧HE W):=fun W t=>⟨h.no t,hg.tch t (fun h=>h)⟩
 have HRC:Hid (rightC 2 r):=hr
 have HRL:Hid (recL r=bytesL [r.k]++bodyL 2 r):=by show _=_;unfold recL;rw[hk];rfl
 clear h hg hk hr hc hw0
 go_enter Tryz.func13,Tryz.ntmps13
 go_wp2_with fail
 refine q1.mono ?_
 rintro x w1 ⟨rfl,t1⟩
 rw[←HW0.out] at t1
 have T1:Tch (fun _=>False) w w1:=t0.trans' t1
 have b1:w1.heap[w.heap.size]? =some (.cells #[.int .i64 r.k,.int .i64 r.x,.int .i64 r.p,.int .i64 r.t,.slice s.oo r.o.length s.oc,.slice s.no r.n.length s.nc,.string r.nm,.int .i64 r.org,.int .i64 r.tb.id,.int .i64 r.tb.ver,.string r.tb.nm,.slice s.co r.tb.cols.length s.cc,.int .i64 r.tb.key,.slice s.to s.P.length s.tc] 37 (0,0)):=(t1.block _ (blk_lt b0) (fun h=>h)).trans b0
 clear q1 t1 t0 b0 HW0
 go_wp2_with fail
 refine(newWriter_any w1).mono ?_
 rintro x w2 ⟨rfl,h2,t2,z2⟩
 have b2:w2.heap[w.heap.size]? =some (.cells #[.int .i64 r.k,.int .i64 r.x,.int .i64 r.p,.int .i64 r.t,.slice s.oo r.o.length s.oc,.slice s.no r.n.length s.nc,.string r.nm,.int .i64 r.org,.int .i64 r.tb.id,.int .i64 r.tb.ver,.string r.tb.nm,.slice s.co r.tb.cols.length s.cc,.int .i64 r.tb.key,.slice s.to s.P.length s.tc] 37 (0,0)):=(t2.block _ (blk_lt b1) (fun h=>h)).trans b1
 have y0:w2.cell? ⟨w.heap.size,0,none⟩=some (.int .i64 r.k):=blk_cell b2 0
 have T2:=T1.trans' t2
 have HT12:Hid (Tch (fun _=>False) w1 w2):=t2
 clear b1 b2 t2
 go_wp2_with fail
 refine(wbyte1' _ [] r.k _ w2 h2 (by first|rfl|exact z2|simp) (by omega) (by omega) (by simp)).mono ?_
 rintro x w3 ⟨rfl,h3,t3⟩
 have hz1:=T1.size
 have hrw:RW w3 (fun i=>w1.heap.size≤i) r s:=(((HR.out w1 T1).1.low (Nat.le_refl _)).tch (show Tch (fun i=>w1.heap.size≤i) w1 w3 from by
  have t12:Tch (fun _=>False) w1 w2:=HT12.out
  exact(t12.mono (fun _ _ h=>h.elim)).trans' (wt_le t3)) (fun i _ h=>h))
 have hhe:HE w3:=(HR.out w2 T2).2.tch (wt_le t3) (by omega)
 have q4:=lay_2 w1.heap.size _ r s w3 h3 hhe (by omega) hrw HRC.out (by simp[bytesL])
 have T3:Tch (fun i=>w.heap.size≤i) w w3:=(T2.mono (fun _ _ h=>h.elim)).trans (wt_le t3) (fun i _ h=>by omega)
 clear hrw hhe y0 h2
 go_wp2_with fail
 refine q4.mono ?_
 rintro x w4 ⟨rfl,h4,t4⟩
 clear q4
 have T4:Tch (fun i=>w.heap.size≤i) w w4:=T3.trans' ((wt_le t4).mono (fun i _ h=>by omega))
 have hhe:HE w4:=by
  have h5:=(HR.out w2 T2).2.tch (wt_le t3) (by omega)
  exact h5.tch (wt_le t4) (by omega)
 have q5:=wdone_ok w1.heap.size _ w4 h4 hhe
 rw[List.nil_append, ←HRL.out] at q5
 go_wp2_with fail
 refine q5.mono ?_
 rintro x w5 ⟨rfl,t5⟩
 go_wp2_with fail
 go_ret2
 exact⟨rfl,(T4.mono (fun i hi h=>by omega)).trans' t5⟩
end Go.Proofs.YtaiadknglhemaaaGreatDoor.C
