import Derived.Test.YtppokgdofgigfaaGreatVC3
import Derived.Test.YtppokgdofgigfaaGreatMGet
import Derived.Test.YtppokgdofgigfaaGreatMUnd
set_option maxHeartbeats 4000000
set_option maxRecDepth 100000
namespace Go.Proofs.YtppokgdofgigfaaGreat
open Go.RowKit Go Go.Sort
structure NE (w W:World) (cbx nbx rb:Nat) (co:Option Addr) (cc:Nat) (zs:List VV) (f:Nat→Bool) (vo:Option Addr) (vc:Nat) (ys:List VV):Prop where
 nd:ND w W cbx nbx rb co cc zs f
 ow:W.ownsRow w.heap.size 69 3 (.slice vo ys.length vc) ys.length (vrl ys)
section
variable {w W W':World} {cbx nbx rb:Nat} {co:Option Addr} {cc:Nat} {zs:List VV} {f:Nat→Bool} {vo vo':Option Addr} {vc vc':Nat} {ys:List VV}
theorem NE.no (h:NE w W cbx nbx rb co cc zs f vo vc ys) (t:Tch (fun _=>False) W W'):NE w W' cbx nbx rb co cc zs f vo vc ys:=⟨h.nd.no t,own_tch h.ow t (fun _ _ h=>h)⟩
theorem NE.app (h:NE w W cbx nbx rb co cc zs f vo vc ys) (z:VV) (t:Tch (fun i=>(Value.slice vo ys.length vc).ownBlock=some i) W W') (ho:W'.ownsRow w.heap.size 69 3 (.slice vo' (ys.length+1) vc') (ys.length+1) (vrl ys++[.int .i64 z.1.wr,.bool z.1.th,.slice z.2.1 z.1.n z.2.2])):NE w W' cbx nbx rb co cc zs f vo' vc' (ys++[z]):=by
 refine⟨⟨h.nd.t.trans t (fun i hi e=>?_),(t.block _ (blk_lt h.nd.cb) (fun e=>row_ne h.ow h.nd.cb (by decide) e rfl)).trans h.nd.cb,(t.block _ (blk_lt h.nd.nb) (fun e=>row_ne h.ow h.nd.nb (by decide) e rfl)).trans h.nd.nb,(t.block _ (blk_lt h.nd.r) (fun e=>row_ne h.ow h.nd.r (by decide) e rfl)).trans h.nd.r,h.nd.lo⟩,?_⟩
 ·have:=row_ge h.ow e;omega
 ·rw[List.length_append,List.length_singleton,vrl_snoc];exact ho
end
theorem enters_settled: ∀args w,(callFunc 81 args).run Tryz.prog w= .ok (.enter 81 args) w:=enters_of Tryz.func81 (by kernel_rfl) rfl
theorem needed_any (hb mb:Nat) (m:Mg) (w:World) (F0:Nat→Prop) (hM:MF w mb m F0) (c0:w.cell? ⟨hb,0,none⟩=some (.pointer (some ⟨mb,0,none⟩))) (co:Option Addr) (cc:Nat) (zs:List VV) (hreach:zs.length≤1000000) (hc:VRd w.heap.size w co zs) (hwr: ∀z∈zs, -9223372036854775808≤z.1.wr∧z.1.wr≤9223372036854775807)
  (lo:Option Addr) (lc:Nat) (ss:List SS) (hs:SpR w lo ss) (hl:ss.length≤1000) (hon: ∀z∈ss,z.1.on.length≤9223372036854775807):
  Calls Tryz.prog 53 #[.pointer (some ⟨hb,0,none⟩),.slice co zs.length cc,.slice lo ss.length lc] w fun x w'=>(∃vo vc,x= .returned (.slice vo (needVV m (ss.map (·.1)) zs).length vc)∧w'.ownsRow w.heap.size 69 3 (.slice vo (needVV m (ss.map (·.1)) zs).length vc) (needVV m (ss.map (·.1)) zs).length (vrl (needVV m (ss.map (·.1)) zs)))∧Tch (fun _=>False) w w':=by
 obtain⟨cbx,hcbx⟩: ∃cbx,cbx=w.heap.size:=⟨_,rfl⟩
 obtain⟨w1,hw1⟩: ∃w1,w1=w.alloc (.cells #[.slice co zs.length cc] 72):=⟨_,rfl⟩
 obtain⟨rb,hrb⟩: ∃rb,rb=w1.heap.size:=⟨_,rfl⟩
 obtain⟨w2,hw2⟩: ∃w2,w2=w1.alloc (.cells (bl (fun _=>false) zs.length).toArray 4):=⟨_,rfl⟩
 obtain⟨nbx,hnbx⟩: ∃nbx,nbx=w2.heap.size:=⟨_,rfl⟩
 obtain⟨w3,hw3⟩: ∃w3,w3=w2.alloc (.cells #[.slice (some ⟨rb,0,none⟩) zs.length zs.length] 138):=⟨_,rfl⟩
 have t1:Tch (fun _=>False) w w1:=by rw[hw1];exact Tch.alloc _ _ _
 have t2:Tch (fun _=>False) w1 w2:=by rw[hw2];exact Tch.alloc _ _ _
 have t3:Tch (fun _=>False) w2 w3:=by rw[hw3];exact Tch.alloc _ _ _
 have hnd:ND w w3 cbx nbx rb co cc zs (fun _=>false):=
  ⟨(t1.trans' t2).trans' t3,((t2.trans' t3).block _ (by rw[hcbx,hw1];simp) (fun h=>h)).trans (by rw[hw1,hcbx];exact alloc_new _ _),by rw[hw3,hnbx];exact alloc_new _ _,(t3.block _ (by rw[hrb,hw2];simp) (fun h=>h)).trans (by rw[hw2,hrb];exact alloc_new _ _),by rw[hrb];exact t1.size⟩
 obtain⟨ln,hln⟩: ∃ln,ln=zs.length:=⟨_,rfl⟩
 obtain⟨sn,hsn⟩: ∃sn,sn=ss.length:=⟨_,rfl⟩
 have Hln:Hid (ln=zs.length∧sn=ss.length):=⟨hln,hsn⟩
 have HND0:Hid (ND w w3 cbx nbx rb co cc zs (fun _=>false)):=hnd
 have HM:Hid (∀W,Tch (fun _=>False) w W→MF W mb m F0):=fun W t=>hM.no t
 have HC:Hid (∀W,Tch (fun _=>False) w W→W.cell? ⟨hb,0,none⟩=some (.pointer (some ⟨mb,0,none⟩))):=fun W t=>(t.cell (p:=⟨hb,0,none⟩) (cell_lt c0) (fun h=>h)).trans c0
 have HS:Hid (∀W,Tch (fun _=>False) w W→SpR W lo ss):=fun W t=>hs.no t
 have HV:Hid (∀W,Tch (fun _=>False) w W→VRd W.heap.size W co zs):=fun W t=>hc.tch t
 have HB:Hid ((∀z∈zs, -9223372036854775808≤z.1.wr∧z.1.wr≤9223372036854775807)∧ ∀z∈ss,z.1.on.length≤9223372036854775807):=⟨hwr,hon⟩
 have hmk: ∀W:World,(Instr.makeSlice 138 (.int .i64 (zs.length:Nat)) (.int .i64 (zs.length:Nat))).run Tryz.prog W= .ok (.slice (some ⟨W.heap.size,0,none⟩) zs.length zs.length) (W.alloc (.cells (bl (fun _=>false) zs.length).toArray 4)):=fun W=>mk_bools _ hreach W
 have Hrb:Hid (rb=w.heap.size+1):=by show _=_;rw[hrb,hw1];simp
 have Hnb:Hid (nbx=w.heap.size+1+1):=by show _=_;rw[hnbx,hw2,hw1];simp
 have Hw3:Hid (((w.alloc (.cells #[.slice co ln cc] 72)).alloc (.cells (bl (fun _=>false) ln).toArray 4)).alloc (.cells #[.slice (some ⟨w.heap.size+1,0,none⟩) ln ln] 138)=w3):=by show _=_;rw[hw3,hw2,hw1,hln,Hrb.out]
 have Hcb:Hid (cbx=w.heap.size):=hcbx
 rw[←hln] at hmk hreach ⊢
 rw[←hsn] at hl ⊢
 clear hw1 hw2 hw3 hcbx hrb hnbx t1 t2 t3 hnd hln hsn hM c0 hs hc hwr hon
 go_enter Tryz.func53,Tryz.ntmps53
 go_upto_region 3 with(fail)
 rw[Hw3.out, ←Hnb.out, ←Hrb.out, ←Hcb.out]
 clear hmk
 go_loopw [21] (fun v wr=> ∃i:Nat,v= .int .i64 i∧i≤ln∧Hid (ND w wr cbx nbx rb co cc zs (fun j=>if j<i then onI m zs j else false))) (fun v _=>(ln - intOf v).toNat)
 case atStart=>exact⟨0,rfl,by omega,HND0.out⟩
 case round=>
  obtain⟨i,rfl,hi,HN⟩:=hrel
  obtain⟨wV,hwV⟩: ∃wV,wV=wr:=⟨_,rfl⟩
  subst hwV
  by_cases hlt:(i:Int)<(ln:Int)
  ·obtain⟨z,hz⟩: ∃z,zs[i]? =some z:=⟨_,List.getElem?_eq_getElem (by have:=Hln.out.1;omega)⟩
   obtain⟨g,rfl,e0,e1,e2⟩: ∃g,co=some ⟨g,0,none⟩∧wV.cell? ⟨g,i*3,none⟩=some (.int .i64 z.1.wr)∧wV.cell? ⟨g,i*3+1,none⟩=some (.bool z.1.th)∧wV.cell? ⟨g,i*3+2,none⟩=some (.slice z.2.1 z.1.n z.2.2):=by
    rcases HV.out wV HN.out.t with⟨e,_⟩|⟨g,e,_,hcs⟩
    ·rw[e] at hz;cases hz
    ·exact⟨g,e,hcs i z hz⟩
   obtain⟨b1,b2⟩:=HB.out.1 z (List.mem_of_getElem? hz)
   have hio:onI m zs i=decide (m.state z.1.wr=1∨m.state z.1.wr=2):=by unfold onI;rw[hz];rfl
   obtain⟨wA,hwA⟩: ∃wA,wA=wV.alloc (.cells #[.int .i64 z.1.wr,.bool z.1.th,.slice z.2.1 z.1.n z.2.2] 69):=⟨_,rfl⟩
   obtain⟨N2,hN2⟩: ∃N2,N2=wV.heap.size:=⟨_,rfl⟩
   have tA:Tch (fun _=>False) wV wA:=by rw[hwA];exact Tch.alloc _ _ _
   have bA:wA.heap[N2]? =some (.cells #[.int .i64 z.1.wr,.bool z.1.th,.slice z.2.1 z.1.n z.2.2] 69 (0,0)):=by rw[hwA,hN2];exact alloc_new _ _
   have HNA:=HN.out.no tA
   have cS: ∀d os,Calls Tryz.prog 79 #[.pointer (some ⟨hb,0,none⟩),.agg #[.int .i64 z.1.wr,.bool z.1.th,.slice z.2.1 z.1.n z.2.2]] (grow (redrawn wA d) os) fun e w''=>e= .returned (.bool (onI m zs i))∧ ∃p:Regrown,w''=grow (redrawn wA p.d) p.os:=fun d os=>by
    have tt:=(HNA.no (tch_regrown wA ⟨d,os⟩)).t
    rw[hio]
    exact Calls.tch_regrown_of (ongoing_any hb mb m _ F0 (HM.out _ tt) (HC.out _ tt) z.1.wr b1 b2 z.1.th z.2.1 z.1.n z.2.2)
   obtain⟨bv,hbv⟩: ∃bv,bv=onI m zs i:=⟨_,rfl⟩
   have Hbv:Hid (bv=onI m zs i):=hbv
   rw[←hbv] at cS
   have f0:=cell_regrown (show wA.cell? ⟨N2,0,none⟩=some (.int .i64 z.1.wr) by rw[blk_cell bA];rfl)
   have f1:=cell_regrown (show wA.cell? ⟨N2,1,none⟩=some (.bool z.1.th) by rw[blk_cell bA];rfl)
   have f2:=cell_regrown (show wA.cell? ⟨N2,2,none⟩=some (.slice z.2.1 z.1.n z.2.2) by rw[blk_cell bA];rfl)
   have f3:=cell_regrown (show wA.cell? ⟨nbx,0,none⟩=some (.slice (some ⟨rb,0,none⟩) ln ln) by rw[Hln.out.1];exact HNA.n0)
   have HNP:Hid (∀p:Regrown,ND w (grow (redrawn wA p.d) p.os) cbx nbx rb (some ⟨g,0,none⟩) cc zs (fun j=>if j<i then onI m zs j else false)):=fun p=>HNA.no (tch_regrown wA p)
   have HwA:Hid (wA=wV.alloc (.cells #[.int .i64 z.1.wr,.bool z.1.th,.slice z.2.1 z.1.n z.2.2] 69)∧N2=wV.heap.size):=⟨hwA,hN2⟩
   clear hwA hN2 tA bA HNA b1 b2 hio hz hbv
   go_wp2_with fail
   rw[←HwA.out.1, ←HwA.out.2]
   clear e0 e1 e2
   refine wp_region_below_tail 6 (by kernel_rfl) (by kernel_rfl) ?_
   simp only[List.take_succ_cons,List.take_zero,List.drop_succ_cons,List.drop_zero]
   repeat (quiet_step ((go_at_call 79;exact cS _ _)))
   refine wpQuiet_nil ?_
   rintro w7 ⟨pp,rfl⟩
   obtain⟨W,hW⟩: ∃W,W=grow (redrawn wA pp.d) pp.os:=⟨_,rfl⟩
   have HNW:Hid (ND w W cbx nbx rb (some ⟨g,0,none⟩) cc zs (fun j=>if j<i then onI m zs j else false)):=by rw[hW];exact HNP.out pp
   rw[←hW]
   clear hW cS f0 f1 f2 f3 HNP
   have d1:=HNW.out.r.cell (i:=i) (by have:=Hln.out.1;omega)
   have fz:=fun i=>blk_frozen HNW.out.r i
   go_wp2_with fail
   go_roundw
   case rel=>
    refine⟨i+1,by go_num,by omega,?_⟩
    have h9:=HNW.out.mark (HNW.out.r.set i bv) (Tch.setCell (fun j=>j=rb) W ⟨rb,i,none⟩ (.bool bv) rfl)
    have e9:(fun j=>if j<i+1 then onI m zs j else false)=fun j=>if j=i then bv else if j<i then onI m zs j else false:=funext fun j=>by
     by_cases e:j=i
     ·rw[if_pos (by omega),if_pos e,e,Hbv.out]
     ·rw[if_neg e]
      by_cases e2:j<i
      ·rw[if_pos e2,if_pos (by omega)]
      ·rw[if_neg e2,if_neg (by omega)]
    show ND _ _ _ _ _ _ _ _ _
    rw[e9]
    exact h9
   case measure=>(simp[intOf]<;>omega)
  ·have hii:i=ln:=by omega
   subst hii
   have HN1:Hid (ND w wV cbx nbx rb co cc zs (onI m zs)):=by
    have e:(fun j=>if j<i then onI m zs j else false)=onI m zs:=funext fun j=>by
     by_cases e:j<i
     ·rw[if_pos e]
     ·rw[if_neg e]
      unfold onI
      rw[List.getElem?_eq_none (by have:=Hln.out.1;omega)]
    have h9:=HN.out
    rw[e] at h9
    exact h9
   clear hi hlt HN HND0
   have hmf: ∀(fn:Fn) (first cap:Array Value) (w:World),(Instr.makeFunc fn first cap).run Tryz.prog w= .ok (.func fn first cap) w:=fun _ _ _ _=>rfl
   go_wp2_with fail
   refine(mark_any wV cbx nbx rb co cc zs (by have:=Hln.out.1;omega) (HV.out wV HN1.out.t) (pK m none) 81 #[.pointer (some ⟨hb,0,none⟩)] #[] ⟨enters_settled,fun z' W hz' tW=>?_⟩ (onI m zs) HN1.out.c0 HN1.out.n0 HN1.out.r).mono ?_
   ·obtain⟨b1,b2⟩:=HB.out.1 z' hz'
    have tt:=HN1.out.t.trans' tW
    exact settled_any hb mb m W F0 (HM.out _ tt) (HC.out _ tt) z'.1.wr b1 b2 z'.1.th z'.2.1 z'.1.n z'.2.2
   rintro x w4 ⟨rfl,hr4,t4⟩
   have HN2:Hid (ND w w4 cbx nbx rb co cc zs (fun j=>onI m zs j||lastIs (pK m none) zs j)):=HN1.out.mark hr4 t4
   clear hr4 t4 HN1
   go_wp2_with fail
   go_loopw [40] (fun v wr=> ∃j:Nat,v= .int .i64 j∧j≤sn∧Hid (ND w wr cbx nbx rb co cc zs (fun a=>(onI m zs a||lastIs (pK m none) zs a)||(ss.take j).any (fun z=>lastIs (pK m (some z.1)) zs a)))) (fun v _=>(sn - intOf v).toNat)
   case atStart=>
    refine⟨0,rfl,by omega,?_⟩
    have h9:=HN2.out
    have e:(fun a=>(onI m zs a||lastIs (pK m none) zs a)||(ss.take 0).any (fun z=>lastIs (pK m (some z.1)) zs a))=fun j=>onI m zs j||lastIs (pK m none) zs j:=funext fun j=>Bool.or_false _
    show ND _ _ _ _ _ _ _ _ _
    rw[e];exact h9
   case round=>
    obtain⟨j,rfl,hj,HN3⟩:=hrel
    obtain⟨wU,hwU⟩: ∃wU,wU=wr:=⟨_,rfl⟩
    subst hwU
    clear HN2
    by_cases hlt:(j:Int)<(sn:Int)
    ·obtain⟨z,hz⟩: ∃z,ss[j]? =some z:=⟨_,List.getElem?_eq_getElem (by have:=Hln.out.2;omega)⟩
     obtain⟨g,o,rfl,hg,a0,a1,a2,hir⟩:=HS.out wU HN3.out.t j z hz
     have Hz:Hid (ss[j]? =some z∧IR wU z.2.1 z.1.on):=⟨hz,hir⟩
     have g3:=HB.out.2 z (List.mem_of_getElem? hz)
     clear hz hir
     obtain⟨⟨⟨mn,mx,on⟩,so,sc⟩,hze⟩: ∃z':SS,z'=z:=⟨z,rfl⟩
     subst hze
     simp only at a0 a1 a2 g3
     obtain⟨wA,hwA⟩: ∃wA,wA=wU.alloc (.cells #[.int .i64 mn,.int .i64 mx,.slice so on.length sc] 38):=⟨_,rfl⟩
     obtain⟨N2,hN2⟩: ∃N2,N2=wU.heap.size:=⟨_,rfl⟩
     have tA:Tch (fun _=>False) wU wA:=by rw[hwA];exact Tch.alloc _ _ _
     have bA:wA.heap[N2]? =some (.cells #[.int .i64 mn,.int .i64 mx,.slice so on.length sc] 38 (0,0)):=by rw[hwA,hN2];exact alloc_new _ _
     have f0:wA.cell? ⟨N2,0,none⟩=some (.int .i64 mn):=by rw[blk_cell bA];rfl
     have f1:wA.cell? ⟨N2,1,none⟩=some (.int .i64 mx):=by rw[blk_cell bA];rfl
     have f2:wA.cell? ⟨N2,2,none⟩=some (.slice so on.length sc):=by rw[blk_cell bA];rfl
     have HwA:Hid (wA=wU.alloc (.cells #[.int .i64 mn,.int .i64 mx,.slice so on.length sc] 38)∧N2=wU.heap.size):=⟨hwA,hN2⟩
     have HtA:Hid (Tch (fun _=>False) wU wA):=tA
     have Hg3:Hid (on.length≤9223372036854775807):=g3
     clear hwA hN2 tA bA g3
     go_wp2_with fail
     rw[←HwA.out.1, ←HwA.out.2]
     clear a0 a1 a2
     go_wp2_with fail
     refine(seenBy_any hb mn mx so on.length sc 0 wA).mono ?_
     rintro x wB ⟨rfl,hwB⟩
     have tB:Tch (fun _=>False) wA wB:=by rw[hwB];exact((Tch.alloc _ _ _).allocR _).allocR _
     have HNB:Hid (ND w wB cbx nbx rb co cc zs _):=HN3.out.no (HtA.out.trans' tB)
     obtain⟨bh,hbh⟩: ∃bh,bh=wA.heap.size:=⟨_,rfl⟩
     have Hsb:Hid (SB wB hb bh (bh+1) (bh+1+1) mn mx on so sc 0):=by
      refine⟨?_,?_,?_,Hz.out.2.no (HtA.out.trans' tB)⟩
      ·rw[hwB,hbh,((Tch.alloc (fun _=>False) (wA.alloc (.cells #[.pointer (some ⟨hb,0,none⟩)] 36)) _).allocR _).block _ (by simp) (fun h=>h)];exact alloc_new _ _
      ·rw[hwB,hbh,(Tch.alloc (fun _=>False) ((wA.alloc (.cells #[.pointer (some ⟨hb,0,none⟩)] 36)).alloc (.cells #[.int .i64 mn,.int .i64 mx,.slice so on.length sc] 38)) _).block _ (by simp) (fun h=>h)]
       have:=alloc_new (wA.alloc (.cells #[.pointer (some ⟨hb,0,none⟩)] 36)) (.cells #[.int .i64 mn,.int .i64 mx,.slice so on.length sc] 38)
       rwa [World.size_alloc] at this
      ·rw[hwB,hbh]
       have:=alloc_new ((wA.alloc (.cells #[.pointer (some ⟨hb,0,none⟩)] 36)).alloc (.cells #[.int .i64 mn,.int .i64 mx,.slice so on.length sc] 38)) (.cells #[.int .i64 0] 3)
       simp only[World.size_alloc] at this
       exact this
     rw[←hbh]
     clear hwB tB hbh f0 f1 f2
     go_wp2_with fail
     refine(mark_any wB cbx nbx rb co cc zs (by have:=Hln.out.1;omega) (HV.out wB HNB.out.t) (pK m (some ⟨mn,mx,on⟩)) 57 #[] #[.pointer (some ⟨bh,0,none⟩),.pointer (some ⟨bh+1,0,none⟩),.pointer (some ⟨bh+1+1,0,none⟩)] ⟨enters_seen,fun z' W hz' tW=>?_⟩ _ HNB.out.c0 HNB.out.n0 HNB.out.r).mono ?_
     ·obtain⟨b1,b2⟩:=HB.out.1 z' hz'
      have tt:=HNB.out.t.trans' tW
      exact seen1_any hb mb m W F0 (HM.out _ tt) (HC.out _ tt) z'.1.wr b1 b2 z'.1.th z'.2.1 z'.1.n z'.2.2 bh (bh+1) (bh+1+1) mn mx on so sc 0 (by omega) (by omega) Hg3.out (Hsb.out.no tW)
     rintro x wC ⟨rfl,hr5,t5⟩
     have HN4:Hid (ND w wC cbx nbx rb co cc zs _):=HNB.out.mark hr5 t5
     clear hr5 t5 HNB Hsb
     go_wp2_with fail
     go_roundw
     case rel=>
      refine⟨j+1,by go_num,by omega,?_⟩
      have h9:=HN4.out
      have e:(fun a=>(onI m zs a||lastIs (pK m none) zs a)||(ss.take (j+1)).any (fun z=>lastIs (pK m (some z.1)) zs a))=fun a=>((onI m zs a||lastIs (pK m none) zs a)||(ss.take j).any (fun z=>lastIs (pK m (some z.1)) zs a))||lastIs (pK m (some ⟨mn,mx,on⟩)) zs a:=funext fun a=>by
       rw[List.take_add_one,Hz.out.1,Option.toList_some,List.any_append,List.any_cons,List.any_nil,Bool.or_false,Bool.or_assoc,Bool.or_assoc,Bool.or_assoc]
      show ND _ _ _ _ _ _ _ _ _
      rw[e];exact h9
     case measure=>(simp[intOf]<;>omega)
    ·have hjj:j=sn:=by omega
     subst hjj
     have HN5:Hid (ND w wU cbx nbx rb co cc zs (ndAll m (ss.map (·.1)) zs)):=by
      have h9:=HN3.out
      have e1:ss.take j=ss:=List.take_of_length_le (by have:=Hln.out.2;omega)
      rw[e1] at h9
      have e:ndAll m (ss.map (·.1)) zs=fun a=>(onI m zs a||lastIs (pK m none) zs a)||ss.any (fun z=>lastIs (pK m (some z.1)) zs a):=funext fun a=>by
       unfold ndAll F.kds
       rw[List.any_cons,List.any_map,List.any_map,Bool.or_assoc];rfl
      show ND _ _ _ _ _ _ _ _ _
      rw[e];exact h9
     clear hj hlt HN3
     have hc9:wU.cell? ⟨cbx,0,none⟩=some (.slice co i cc):=by rw[Hln.out.1];exact HN5.out.c0
     go_wp2_with fail
     clear hc9
     go_loopw [13,52] (fun v13 v52 wr=> ∃(ys:List VV) (vo:Option Addr) (vc k:Nat),v13= .slice vo ys.length vc∧v52= .int .i64 k∧k≤i∧Hid (ys=(byI (ndAll m (ss.map (·.1)) zs) 0 (zs.take k)).dropWhile (fun z=>F.gfa m (ss.map (·.1)) z.1))∧Hid (NE w wr cbx nbx rb co cc zs (ndAll m (ss.map (·.1)) zs) vo vc ys)) (fun _ v52 _=>(i - intOf v52).toNat)
     case atStart=>exact⟨[],none,0,0,rfl,rfl,Nat.zero_le _,rfl,HN5.out,World.ownsRow_nil _ _ _ _⟩
     case round=>
      obtain⟨ys,vo,vc,k,rfl,rfl,hk,HY,HE⟩:=hrel
      obtain⟨wX,hwX⟩: ∃wX,wX=wr:=⟨_,rfl⟩
      subst hwX
      have hll6:ys.length≤1000000:=by
       rw[HY.out]
       have h1:=(List.dropWhile_sublist (fun z:VV=>F.gfa m (ss.map (·.1)) z.1) (l:=byI (ndAll m (ss.map (·.1)) zs) 0 (zs.take k))).length_le
       have h2:=(byI_sub (ndAll m (ss.map (·.1)) zs) 0 (zs.take k)).length_le
       rw[List.length_take] at h2
       omega
      obtain⟨ll,hll⟩: ∃ll,ll=ys.length:=⟨_,rfl⟩
      have Hll:Hid (ll=ys.length):=hll
      rw[←hll] at hll6 ⊢
      clear hll HN5
      by_cases hlt:(k:Int)<(i:Int)
      ·obtain⟨z,hz⟩: ∃z,zs[k]? =some z:=⟨_,List.getElem?_eq_getElem (by have:=Hln.out.1;omega)⟩
       obtain⟨g,hco,e0,e1,e2⟩: ∃g,co=some ⟨g,0,none⟩∧wX.cell? ⟨g,k*3,none⟩=some (.int .i64 z.1.wr)∧wX.cell? ⟨g,k*3+1,none⟩=some (.bool z.1.th)∧wX.cell? ⟨g,k*3+2,none⟩=some (.slice z.2.1 z.1.n z.2.2):=by
        rcases HV.out wX HE.out.nd.t with⟨e,_⟩|⟨g,e,_,hcs⟩
        ·rw[e] at hz;cases hz
        ·exact⟨g,e,hcs k z hz⟩
       have HBy:Hid (byI (ndAll m (ss.map (·.1)) zs) 0 (zs.take (k+1))=byI (ndAll m (ss.map (·.1)) zs) 0 (zs.take k)++(if ndAll m (ss.map (·.1)) zs k then[z] else[])):=byI_step _ hz
       obtain⟨b1,b2⟩:=HB.out.1 z (List.mem_of_getElem? hz)
       obtain⟨W,hW⟩: ∃W,W=wX.alloc (.cells #[.int .i64 z.1.wr,.bool z.1.th,.slice z.2.1 z.1.n z.2.2] 69):=⟨_,rfl⟩
       obtain⟨N2,hN2⟩: ∃N2,N2=wX.heap.size:=⟨_,rfl⟩
       have tA:Tch (fun _=>False) wX W:=by rw[hW];exact Tch.alloc _ _ _
       have bA:W.heap[N2]? =some (.cells #[.int .i64 z.1.wr,.bool z.1.th,.slice z.2.1 z.1.n z.2.2] 69 (0,0)):=by rw[hW,hN2];exact alloc_new _ _
       have HW:Hid (NE w W cbx nbx rb co cc zs (ndAll m (ss.map (·.1)) zs) vo vc ys):=HE.out.no tA
       have f0:W.cell? ⟨N2,0,none⟩=some (.int .i64 z.1.wr):=by rw[blk_cell bA];rfl
       have f1:W.cell? ⟨N2,1,none⟩=some (.bool z.1.th):=by rw[blk_cell bA];rfl
       have f2:W.cell? ⟨N2,2,none⟩=some (.slice z.2.1 z.1.n z.2.2):=by rw[blk_cell bA];rfl
       have f3:W.cell? ⟨nbx,0,none⟩=some (.slice (some ⟨rb,0,none⟩) i i):=by rw[Hln.out.1];exact HW.out.nd.n0
       have f4:=HW.out.nd.r.cell (i:=k) (by have:=Hln.out.1;omega)
       have qg:=gfa_any hb mb m W F0 (HM.out W HW.out.nd.t) (HC.out W HW.out.nd.t) z.1.wr b1 b2 z.1.th z.2.1 z.1.n z.2.2 lo lc ss (HS.out W HW.out.nd.t) (by have:=Hln.out.2;omega) HB.out.2
       rw[←Hln.out.2, ←gfaB_eq] at qg
       have HWe:Hid (W=wX.alloc (.cells #[.int .i64 z.1.wr,.bool z.1.th,.slice z.2.1 z.1.n z.2.2] 69)∧N2=wX.heap.size):=⟨hW,hN2⟩
       have Hb2:Hid (W.heap[N2]? =some (.cells #[.int .i64 z.1.wr,.bool z.1.th,.slice z.2.1 z.1.n z.2.2] 69 (0,0))):=bA
       subst hco
       obtain⟨co,hco⟩: ∃co:Option Addr,co=some ⟨g,0,none⟩:=⟨_,rfl⟩
       clear hW hN2 tA bA b1 b2 hz
       go_upto_region 18 with(fail)
       rw[←HWe.out.1, ←HWe.out.2]
       clear e0 e1 e2
       cases hnd:ndAll m (ss.map (·.1)) zs k with
       |false=>
        rw[hnd] at f4
        have HYs:Hid (ys=(byI (ndAll m (ss.map (·.1)) zs) 0 (zs.take (k+1))).dropWhile (fun z=>F.gfa m (ss.map (·.1)) z.1)):=by
         show _=_
         rw[HBy.out,hnd,if_neg (by simp),List.append_nil];exact HY.out
        clear hnd HBy qg f0 f1 f2
        go_wp2_with fail
        go_roundw
        case rel=>exact⟨ys,vo,vc,k+1,by rw[Hll.out],by go_num,by omega,HYs,HW⟩
        case measure=>(simp[intOf]<;>omega)
       |true=>
        rw[hnd] at f4
        have HG:Hid (∀A:List VV,A.dropWhile (fun z=>F.gfa m (ss.map (·.1)) z.1)=ys→(A++[z]).dropWhile (fun z=>F.gfa m (ss.map (·.1)) z.1)=if ys=[] then(if F.gfa m (ss.map (·.1)) z.1 then[] else[z]) else ys++[z]):=fun A hA=>by
         rw[drop_snoc,hA]
        have HYn:Hid ((byI (ndAll m (ss.map (·.1)) zs) 0 (zs.take (k+1))).dropWhile (fun z=>F.gfa m (ss.map (·.1)) z.1)=if ys=[] then(if F.gfa m (ss.map (·.1)) z.1 then[] else[z]) else ys++[z]):=by
         show _=_
         rw[HBy.out,hnd,if_pos rfl]
         exact HG.out _ HY.out.symm
        clear hnd HBy HG
        rcases Nat.eq_zero_or_pos ll with hl0|hl0
        ·subst hl0
         have Hys:Hid (ys=[]):=List.length_eq_zero_iff.1 Hll.out.symm
         generalize F.gfa m (ss.map (·.1)) z.1=gv at*
         clear f0 f1 f2
         have f0:W.cell? ⟨N2,0,none⟩=some (.int .i64 z.1.wr):=by rw[blk_cell Hb2.out];rfl
         have f1:W.cell? ⟨N2,1,none⟩=some (.bool z.1.th):=by rw[blk_cell Hb2.out];rfl
         have f2:W.cell? ⟨N2,2,none⟩=some (.slice z.2.1 z.1.n z.2.2):=by rw[blk_cell Hb2.out];rfl
         go_wp2_with fail
         refine qg.mono ?_
         rintro x w5 ⟨rfl,t5⟩
         have HW5:Hid (NE w w5 cbx nbx rb (some ⟨g,0,none⟩) cc zs (ndAll m (ss.map (·.1)) zs) vo vc ys):=HW.out.no t5
         have b5:=(t5.block _ (blk_lt Hb2.out) (fun h=>h)).trans Hb2.out
         clear qg t5 f0 f1 f2 f3 f4
         cases gv with
         |true=>
          have HYs:Hid (ys=(byI (ndAll m (ss.map (·.1)) zs) 0 (zs.take (k+1))).dropWhile (fun z=>F.gfa m (ss.map (·.1)) z.1)):=by
           show _=_
           rw[HYn.out,if_pos Hys.out,if_pos rfl];exact Hys.out
          clear b5
          go_wp2_with fail
          go_roundw
          case rel=>exact⟨ys,vo,vc,k+1,by rw[←Hll.out],by go_num,by omega,HYs,HW5⟩
          case measure=>(simp[intOf]<;>omega)
         |false=>
          have HYs:Hid (ys++[z]=(byI (ndAll m (ss.map (·.1)) zs) 0 (zs.take (k+1))).dropWhile (fun z=>F.gfa m (ss.map (·.1)) z.1)):=by
           show _=_
           rw[HYn.out,if_pos Hys.out,if_neg (by simp),Hys.out];rfl
          obtain⟨ll,hll⟩: ∃ll:Nat,ll=0:=⟨_,rfl⟩
          rw[←hll] at Hll
          have f0:w5.cell? ⟨N2,0,none⟩=some (.int .i64 z.1.wr):=by rw[blk_cell b5];rfl
          have f1:w5.cell? ⟨N2,1,none⟩=some (.bool z.1.th):=by rw[blk_cell b5];rfl
          have f2:w5.cell? ⟨N2,2,none⟩=some (.slice z.2.1 z.1.n z.2.2):=by rw[blk_cell b5];rfl
          obtain⟨wB,hwB⟩: ∃wB,wB=w5.alloc (.cells #[.int .i64 z.1.wr,.bool z.1.th,.slice z.2.1 z.1.n z.2.2] 69):=⟨_,rfl⟩
          obtain⟨N3,hN3⟩: ∃N3,N3=w5.heap.size:=⟨_,rfl⟩
          have HNB:Hid (NE w wB cbx nbx rb (some ⟨g,0,none⟩) cc zs (ndAll m (ss.map (·.1)) zs) vo vc ys):=HW5.out.no (by rw[hwB];exact Tch.alloc _ _ _)
          have Hrow:Hid (wB.ownsRow w.heap.size 69 3 (.slice vo ll vc) ll (vrl ys)):=by rw[Hll.out];exact HNB.out.ow
          have Hcl:Hid (∀j u,([.int .i64 z.1.wr,.bool z.1.th,.slice z.2.1 z.1.n z.2.2]:List Value)[j]? =some u→wB.cell? ((⟨N3,0,none⟩:Addr).add j)=some u):=fun j u hu=>by
           rw[add_plain,Nat.zero_add,hwB,hN3,blk_cell (alloc_new _ _),List.getElem?_toArray];exact hu
          have HWB:Hid (wB=w5.alloc (.cells #[.int .i64 z.1.wr,.bool z.1.th,.slice z.2.1 z.1.n z.2.2] 69)):=hwB
          have HN3:Hid (N3=w5.heap.size):=hN3
          have Hbs:Hid (w.heap.size≤wB.heap.size):=HNB.out.nd.t.size
          obtain⟨i0,hi0,hz0,hz1,hz2⟩:=info_parts info_ver
          clear hwB hN3
          clear b5
          subst hll
          go_wp2_with (at_builtin;have hw0:=HWB.out;rw[←hw0, ←HN3.out];clear hw0;refine wpList_append_keeps _ rfl _ _ 72 rfl w.heap.size 69 i0 (.agg #[.int .i64 0,.bool false,.slice none 0 0]) 3 40 Tryz.underlying72 hi0 hz0 hz1 hz2 rfl (by decide) (.slice vo 0 vc) 0 (vrl ys) rfl Hrow.out ⟨N3,0,none⟩ 1 1 [.int .i64 z.1.wr,.bool z.1.th,.slice z.2.1 z.1.n z.2.2] rfl (by simp) Hcl.out (by simp[Value.oneCell']) (by unfold maxLen;omega) (by omega) Hbs.out ?_;intro v1 w9 hown1 hgr1 hat1 _;have HO:Hid (w9.ownsRow w.heap.size 69 3 v1 (0+1) (vrl ys++[.int .i64 z.1.wr,.bool z.1.th,.slice z.2.1 z.1.n z.2.2])):=hown1;have HT9:Hid (Tch (fun i=>(Value.slice vo 0 vc).ownBlock=some i) wB w9):=(grown_at (Tch.refl (fun _=>False) wB) hgr1);obtain⟨o1,c1,rfl⟩:=row_slice hown1;clear hown1 hgr1 hat1)
          go_roundw
          case rel=>
           refine⟨ys++[z],o1,c1,k+1,by rw[List.length_append,List.length_singleton, ←Hll.out],by go_num,by omega,HYs.out,?_⟩
           have ho:=HO.out
           have ht:=HT9.out
           rw[Hll.out] at ho ht
           exact HNB.out.app z ht ho
          case measure=>(simp[intOf]<;>omega)
        ·have hl1:(0:Int)<(ll:Int):=by omega
         have HYs:Hid (ys++[z]=(byI (ndAll m (ss.map (·.1)) zs) 0 (zs.take (k+1))).dropWhile (fun z=>F.gfa m (ss.map (·.1)) z.1)):=by
          show _=_
          have hne: ¬ys=[]:=fun e=>by
           have h9:=Hll.out
           rw[e] at h9
           simp only[List.length_nil] at h9
           omega
          rw[HYn.out,if_neg hne]
         clear qg
         obtain⟨wB,hwB⟩: ∃wB,wB=W.alloc (.cells #[.int .i64 z.1.wr,.bool z.1.th,.slice z.2.1 z.1.n z.2.2] 69):=⟨_,rfl⟩
         obtain⟨N3,hN3⟩: ∃N3,N3=W.heap.size:=⟨_,rfl⟩
         have HNB:Hid (NE w wB cbx nbx rb (some ⟨g,0,none⟩) cc zs (ndAll m (ss.map (·.1)) zs) vo vc ys):=HW.out.no (by rw[hwB];exact Tch.alloc _ _ _)
         have Hrow:Hid (wB.ownsRow w.heap.size 69 3 (.slice vo ll vc) ll (vrl ys)):=by rw[Hll.out];exact HNB.out.ow
         have Hcl:Hid (∀j u,([.int .i64 z.1.wr,.bool z.1.th,.slice z.2.1 z.1.n z.2.2]:List Value)[j]? =some u→wB.cell? ((⟨N3,0,none⟩:Addr).add j)=some u):=fun j u hu=>by
          rw[add_plain,Nat.zero_add,hwB,hN3,blk_cell (alloc_new _ _),List.getElem?_toArray];exact hu
         have HWB:Hid (wB=W.alloc (.cells #[.int .i64 z.1.wr,.bool z.1.th,.slice z.2.1 z.1.n z.2.2] 69)):=hwB
         have HN3:Hid (N3=W.heap.size):=hN3
         have Hbs:Hid (w.heap.size≤wB.heap.size):=HNB.out.nd.t.size
         obtain⟨i0,hi0,hz0,hz1,hz2⟩:=info_parts info_ver
         clear hwB hN3
         go_wp2_with (at_builtin;have hw0:=HWB.out;rw[←hw0, ←HN3.out];clear hw0;refine wpList_append_keeps _ rfl _ _ 72 rfl w.heap.size 69 i0 (.agg #[.int .i64 0,.bool false,.slice none 0 0]) 3 40 Tryz.underlying72 hi0 hz0 hz1 hz2 rfl (by decide) (.slice vo ll vc) ll (vrl ys) rfl Hrow.out ⟨N3,0,none⟩ 1 1 [.int .i64 z.1.wr,.bool z.1.th,.slice z.2.1 z.1.n z.2.2] rfl (by simp) Hcl.out (by simp[Value.oneCell']) (by unfold maxLen;omega) (by omega) Hbs.out ?_;intro v1 w9 hown1 hgr1 hat1 _;have HO:Hid (w9.ownsRow w.heap.size 69 3 v1 (ll+1) (vrl ys++[.int .i64 z.1.wr,.bool z.1.th,.slice z.2.1 z.1.n z.2.2])):=hown1;have HT9:Hid (Tch (fun i=>(Value.slice vo ll vc).ownBlock=some i) wB w9):=(grown_at (Tch.refl (fun _=>False) wB) hgr1);obtain⟨o1,c1,rfl⟩:=row_slice hown1;clear hown1 hgr1 hat1)
         go_roundw
         case rel=>
          refine⟨ys++[z],o1,c1,k+1,by rw[List.length_append,List.length_singleton,Hll.out],by go_num,by omega,HYs.out,?_⟩
          have ho:=HO.out
          have ht:=HT9.out
          rw[Hll.out] at ho ht
          exact HNB.out.app z ht ho
         case measure=>(simp[intOf]<;>omega)
      ·have hkk:k=i:=by omega
       subst hkk
       clear hk hlt
       have HYs:Hid (ys=needVV m (ss.map (·.1)) zs):=by
        have h9:=HY.out
        rw[List.take_of_length_le (by have:=Hln.out.1;omega),needVV_eq] at h9
        exact h9
       go_wp2_with fail
       go_ret
       refine⟨⟨vo,vc,by rw[←HYs.out, ←Hll.out];rfl,by rw[←HYs.out];exact HE.out.ow⟩,HE.out.nd.t⟩
end Go.Proofs.YtppokgdofgigfaaGreat
namespace Go.Proofs.YtppokgdofgigfaaGreat
open Go.RowKit Go Go.Sort Go.Maps
theorem owns_uniq {w:World} {P:Program} {k:TypeId} {R:Value→Option (DataW Unit×List MemPlace)} {b n n':Nat} {D D':DataW Unit} (h:w.ownsMap P k R b n D) (h':w.ownsMap P k R b n' D'):D=D':=by
 obtain⟨es,cl,hb,_,_,rfl⟩:=h
 obtain⟨es',cl',hb',_,_,rfl⟩:=h'
 rw[hb] at hb'
 injection hb' with hb'
 injection hb' with e1 _
 rw[e1]
theorem ranges_tch {S:Nat→Prop} {w w':World} {k:TypeId} {R:Value→Option (DataW Unit×List MemPlace)} {b r n cnt:Nat} {D:DataW Unit} {left:Lit→Bool} (h:w.ranges Tryz.prog k R b r n D left cnt) (t:Tch S w w') (hb: ¬S b) (hr: ¬S r):w'.ranges Tryz.prog k R b r n D left cnt:=by
 have h1:=h.owns.lt
 have h2:=h.lt
 obtain⟨es,clock,since,seen,c0,hb',F,hs,hD,hr',rest⟩:=h
 exact⟨es,clock,since,seen,c0,(t.block b h1 hb).trans hb',F,hs,hD,(t.block r h2 hr).trans hr',rest⟩
theorem ranges_ne {w:World} {k k':TypeId} {R R':Value→Option (DataW Unit×List MemPlace)} {b r n cnt b' n':Nat} {D D':DataW Unit} {left:Lit→Bool} (h:w.ranges Tryz.prog k R b r n D left cnt) (h':w.ownsMap Tryz.prog k' R' b' n' D'):r≠b':=fun e=>by
 obtain⟨es,clock,since,seen,c0,_,_,_,_,hr,_⟩:=h
 obtain⟨es',cl',hb',_⟩:=h'
 rw[e,hb'] at hr
 cases hr
theorem left_same {left:Lit→Bool} {kl:Lit} (h:left kl=false):(fun z=>left z && !z.sameKey kl)=left:=funext fun z=>by
 cases e:z.sameKey kl with
 |false=>simp
 |true=>rw[WideAt.sameKey_eq e,h];rfl
def TdO (w w':World) (hb mb tb:Nat) (T:List (Int×Nat)) (E':List En) (C:Nat→Ch) (σ:Nat→Option Nat) (q:Nat) (k:Int) (l r1 q1:Nat) (left1:Lit→Bool) (c1 r2 q2:Nat) (left2:Lit→Bool) (c2:Nat):Prop:=
 (∃T',(∀p∈T',p∈T)∧HW w' hb mb tb T' E' C σ q)∧(∃D1 c,w'.ranges Tryz.prog 3 mapElem tb r1 q1 D1 left1 c∧c≤c1)∧(∃D2 c,w'.ranges Tryz.prog 9 ptrElem l r2 q2 D2 left2 c∧c≤c2∧ ∀s zd,D2.atKey (.string s) zd=atB (lkE E' k s) zd)∧Tch (fun i=>σ i≠none) w w'
theorem tidy_r (w:World) (hb mb tb:Nat) (T:List (Int×Nat)) (E:List En) (C:Nat→Ch) (σ:Nat→Option Nat) (q:Nat) (h:HW w hb mb tb T E C σ q) (k:Int) (h1: -9223372036854775808≤k) (h2:k≤9223372036854775807) (S:ByteArray) (hS:S.size≤maxLen) (cb:Nat) (me:(⟨k,S.data.toList,cb⟩:En)∈E) (co:Option Addr) (cc:Nat) (zs:List VV) (hC:C cb=(co,cc,zs))
  (l:Nat) (hlm:(k,l)∈T) (r1 q1:Nat) (D1:DataW Unit) (left1:Lit→Bool) (c1:Nat) (hr1:w.ranges Tryz.prog 3 mapElem tb r1 q1 D1 left1 c1) (hl1:left1 (.int .i64 k)=false) (r2 q2:Nat) (D2:DataW Unit) (left2:Lit→Bool) (c2:Nat) (hr2:w.ranges Tryz.prog 9 ptrElem l r2 q2 D2 left2 c2) (hl2:left2 (.string S.data.toList)=false):
  Calls Tryz.prog 54 #[.pointer (some ⟨hb,0,none⟩),.int .i64 k,.string S] w fun x w'=>x= .returned (.tuple #[])∧TdO w w' hb mb tb T (tidE E k S.data.toList zs) C σ q k l r1 q1 left1 c1 r2 q2 left2 c2:=by
 have hcell1:=h.c1
 have hl:lkT T k=some l:=by
  cases hl:lkT T k with
  |some l'=>
   have:=pw_inj (fun p:Int×Nat=>p.1) h.tk (lkT_mem hl) hlm rfl
   injection this with _ this
   rw[this]
  |none=>exact absurd rfl (lkT_none hl _ hlm)
 have gl:=h.look h1 h2
 rw[hl] at gl
 have gk:=h.look2 hlm hS
 simp only at gk
 rw[lkE_of_mem h.ek me] at gk
 simp only[ptrV,mapV] at gl gk
 obtain⟨hcb,hlq⟩:=h.chs _ me
 simp only[hC] at hcb hlq
 have ec:w.cell? ⟨cb,0,none⟩=some (.slice co zs.length cc):=by rw[blk_cell hcb.blk];rfl
 obtain⟨n,hlen,hn0⟩:=h.len hlm
 have hlab:=(h.inn _ hlm).1
 simp only at hlab
 have hlb':σ l≠none:=by rw[hlab];exact fun h=>by cases h
 have htb':σ tb≠none:=by rw[h.lt];exact fun h=>by cases h
 have hltb:l≠tb:=(h.lne hlm).2.1
 obtain⟨Dt,hDt,_⟩:=h.mp
 obtain⟨_,Dl,hDl,hkl⟩:=h.inn _ hlm
 simp only at hDl hkl
 have r1l:r1≠l:=ranges_ne hr1 hDl
 have r2t:r2≠tb:=ranges_ne hr2 hDt
 by_cases hz:zs=[]
 ·have HE:tidE E k S.data.toList zs=E.filter (fun e=>decide (¬(e.k=k∧e.s=S.data.toList))):=by simp[tidE,hz]
  obtain⟨w1,hd,hw1,t1⟩:=h.delE hlm hS 0
  obtain⟨w1',c2',hd',hr2',hc2,_⟩:=hr2.drop law_str Tryz.underlying109 (WideMaps.keyOf_string_mk Tryz.underlying9 hS) 0
  have e1:w1=w1':=by rw[hd] at hd';injection hd'
  subst e1
  rw[left_same hl2] at hr2'
  have hr1':=ranges_tch hr1 t1 (fun e=>hltb e.symm) r1l
  have c1':=hw1.c1
  obtain⟨n1,hlen1,hn1⟩:=hw1.len hlm
  obtain⟨_,Dl1,hDl1,hkl1⟩:=hw1.inn _ hlm
  simp only at hDl1 hkl1
  have eD:=owns_uniq hr2'.owns hDl1
  rw[eD] at hr2'
  obtain⟨w2,hd2,hw2,t2⟩:=hw1.dropT h1 h2 0
  obtain⟨w2',c1'',hd2',hr1'',hc1,_⟩:=hr1'.drop law_int Tryz.underlying86 (Maps.keyOf_int_mk Tryz.underlying3 (int_wf h1 h2)) 0
  have e2:w2=w2':=by rw[hd2] at hd2';injection hd2'
  subst e2
  rw[left_same hl1] at hr1''
  have hr2'':=ranges_tch hr2' t2 hltb r2t
  rw[hz] at ec
  simp only[List.length_nil] at ec
  have T1:Tch (fun i=>σ i≠none) w w1:=t1.mono (fun i _ e=>by rw[e];exact hlb')
  have T2:Tch (fun i=>σ i≠none) w w2:=T1.trans t2 (fun i _ e=>by rw[e];exact htb')
  have O1:Hid (TdO w w1 hb mb tb T (tidE E k S.data.toList zs) C σ q k l r1 q1 left1 c1 r2 q2 left2 c2):=by
   show TdO _ _ _ _ _ _ _ _ _ _ _ _ _ _ _ _ _ _ _ _
   rw[HE]
   exact⟨⟨T,fun _ h=>h,hw1⟩,⟨_,_,hr1',Nat.le_refl _⟩,⟨_,_,hr2',hc2,hkl1⟩,T1⟩
  have O2:Hid (n1=0→TdO w w2 hb mb tb T (tidE E k S.data.toList zs) C σ q k l r1 q1 left1 c1 r2 q2 left2 c2):=fun h0=>by
   rw[HE]
   have e0:(E.filter (fun e=>decide (¬(e.k=k∧e.s=S.data.toList)))).filter (fun e=>decide (e.k≠k))=E.filter (fun e=>decide (¬(e.k=k∧e.s=S.data.toList))):=List.filter_eq_self.2 (fun e he=>by simpa using hn1 h0 e he)
   rw[e0] at hw2
   exact⟨⟨_,fun p hp=>(List.mem_filter.1 hp).1,hw2⟩,⟨_,_,hr1'',hc1⟩,⟨_,_,hr2'',hc2,hkl1⟩,T2⟩
  clear h hcb hlq hlen hn0 hz me hw1 hw2 t1 t2 hl hlm hn1 hC hr1 hr2 hr1' hr2' hr1'' hr2'' hDt hDl hkl hDl1 hkl1 eD T1 T2 HE hd' hd2' hc1 hc2
  by_cases h0:n1=0
  ·subst h0
   go_enter Tryz.func54,Tryz.ntmps54
   go_wp2
   go_end0
   exact⟨rfl,O2.out trivial⟩
  ·have h0': ¬(n1:Int)=0:=by omega
   have h0b:((n1:Int)==0)=false:=by simpa using h0'
   clear O2
   go_enter Tryz.func54,Tryz.ntmps54
   go_wp2
   go_end0
   exact⟨rfl,O1.out⟩
 ·have HE:tidE E k S.data.toList zs=E:=by simp[tidE,hz]
  have hz0: ¬((zs.length:Nat):Int)=0:=by
   intro e
   exact hz (List.length_eq_zero_iff.1 (by omega))
  have hz0b:(((zs.length:Nat):Int)==0)=false:=by simpa using hz0
  have h0: ¬n=0:=fun e=>hn0 e _ me rfl
  have h0': ¬(n:Int)=0:=by omega
  have h0b:((n:Int)==0)=false:=by simpa using h0'
  have eD:=owns_uniq hr2.owns hDl
  have O1:Hid (TdO w w hb mb tb T (tidE E k S.data.toList zs) C σ q k l r1 q1 left1 c1 r2 q2 left2 c2):=by
   show TdO _ _ _ _ _ _ _ _ _ _ _ _ _ _ _ _ _ _ _ _
   rw[HE]
   rw[eD] at hr2
   exact⟨⟨T,fun _ h=>h,h⟩,⟨_,_,hr1,Nat.le_refl _⟩,⟨_,_,hr2,Nat.le_refl _,hkl⟩,Tch.refl _ _⟩
  obtain⟨ln,hln⟩: ∃ln,ln=zs.length:=⟨_,rfl⟩
  rw[←hln] at ec hz0 hz0b
  clear h hcb hlq hn0 hz me hl hlm hC hln hr1 hr2 hDt hDl hkl eD HE
  go_enter Tryz.func54,Tryz.ntmps54
  go_wp2
  go_end0
  exact⟨rfl,O1.out⟩
end Go.Proofs.YtppokgdofgigfaaGreat
