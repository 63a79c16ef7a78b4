import Derived.Test.YtppokgdofgigfaaGreatFP6
import Derived.Test.YtppokgdofgigfaaGreatXNum2
import Derived.Test.YtppokgdofgigfaaGreatStaged
import Derived.Test.YtppokgdofgigfaaGreatMHs
import Derived.Maps.AppendAt
import Derived.Lib.BufferMore
import Derived.Laws.CopyRow
import Derived.Lib.Bytealg
import Derived.Deep.LoopGhost
set_option maxHeartbeats 4000000
set_option maxRecDepth 1000000
namespace Go.Proofs.YtppokgdofgigfaaGreat.F
open Go.RowKit Go Go.Sort
set_option maxRecDepth 100000
theorem parts_back {w0:Fr} {w:World} {qb hb mb nq:Nat} {m:Mg} {L:HL} {q:Mo} {A:Nat→Sx} {F:Nat→Prop} (h:LW w0 w qb hb mb nq m L q A F) (hwf:Wf m) {k:Nat} {s:Se} (hs:q.l[k]? =some s) {t:Tx} (ht:SesTx m s t) (hpp:s.pp=false) (hl:s.ps.length≤12) {who key n:Int} (hni: -9223372036854775808≤n∧n≤9223372036854775807):
  Calls Tryz.prog 21 #[.pointer (some ⟨qb,0,none⟩),.pointer (some ⟨qb,2+k*15,none⟩),actV 5 who key n] w fun x w'=> ∃b,x= .returned (.bool b)∧b=true∧((∃F',LW w0 w' qb hb mb nq m L q A F')∨ ∃(j:Nat) (F':Nat→Prop),LW w0 w' qb hb mb nq (m.endp t.x j 2) L { q with l:=q.l.set k (endS s j true) } A F'):=by
 obtain⟨N,hN⟩: ∃N,N=w.heap.size:=⟨_,rfl⟩
 obtain⟨w1,hw1⟩: ∃w1,w1=w.alloc (.cells #[.int .i64 5,.int .i64 who,.int .i64 key,.int .i64 n] 29):=⟨_,rfl⟩
 have tw1:Tch (fun _=>False) w w1:=by rw[hw1];exact Tch.alloc _ _ _
 have bN:w1.heap[N]? =some (.cells #[.int .i64 5,.int .i64 who,.int .i64 key,.int .i64 n] 29 (0,0)):=by rw[hw1,hN];exact alloc_new _ _
 have HAc:Hid (∀W,Tch (fun _=>False) w1 W→W.cell? ⟨N,0,none⟩=some (.int .i64 5)∧W.cell? ⟨N,3,none⟩=some (.int .i64 n)):=fun W tt=>by
  have:=(tt.block N (blk_lt bN) (fun e=>e)).trans bN
  rw[blk_cell this,blk_cell this];exact⟨rfl,rfl⟩
 have HBN:Hid (w1.heap[N]? =some (.cells #[.int .i64 5,.int .i64 who,.int .i64 key,.int .i64 n] 29 (0,0))):=bN
 have HL0:Hid (LW w0 w qb hb mb nq m L q A F):=h
 have HL1:Hid (∀W,Tch (fun _=>False) w1 W→LW w0 W qb hb mb nq m L q A F):=fun W tt=>(h.no tw1).no tt
 have HT1:Hid (Tch (fun _=>False) w w1):=tw1
 have HS:Hid (q.l[k]? =some s):=hs
 have HPk:Hid (∀W (c:Nat),0<c→c≤12→Calls Tryz.prog 7 #[.int .i64 n,.int .i64 c] W fun x w'=>x= .returned (.int .i64 (pkN n c))∧w'=W):=fun W c h1 h2=>pick9_any n c W hni.1 hni.2 h1 (by omega)
 have HOk:Hid (∀(j:Nat) (p:Pr),s.ps[j]? =some p→p.live=true→p.bk=false→fnd m.tx (p.x:Int)=some (t,(j:Int))∧may t (j:Int)=true):=fun j p h1 h2 h3=>part_ok hwf ht hpp h1 h2 h3
 have HPx:Hid (∀(j:Nat) (p:Pr),s.ps[j]? =some p→p.x≤1000000):=fun j p h1=>((h.bd k s hs).pr j p h1).2.2
 obtain⟨n9,hn9⟩: ∃n9,n9=s.ps.length:=⟨_,rfl⟩
 have Hn9:Hid (n9=s.ps.length):=hn9
 have hl9:n9≤12:=by omega
 have H13:Hid (∀W,Tch (fun _=>False) w1 W→SR W qb (2+k*15) s (A k)∧W.cell? ⟨qb,2+k*15+13,none⟩=some (.slice (A k).po n9 (A k).pc)):=fun W tt=>by
  have hR:=(HL1.out W tt).mor.se k s hs
  exact⟨hR,by rw[hn9];exact hR.c 13 _ rfl⟩
 have HW1:Hid (w1=_):=hw1
 have HN:Hid (N=w.heap.size):=hN
 have HLV0:Hid (LV w1 w1 s none 0 []):=⟨Tch.refl _ _,World.ownsRow_nil _ _ _ _,fun x hx=>by cases hx⟩
 have x0:=(HAc.out w1 (Tch.refl _ _)).1
 obtain⟨i0,hi0,hz0,hz1,hz2⟩:=info_parts info_int
 unfold actV
 clear h hwf hs ht hpp hl hn9 hw1 hN bN tw1 hni
 go_enter Tryz.func21,Tryz.ntmps21
 go_upto_region 1 with(fail)
 rw[←HW1.out, ←HN.out]
 go_upto_region 8 with(fail)
 clear x0
 go_wp2_with fail
 go_loopw [11,12] (fun i11 i12 wr=> ∃(l:List Nat) (lo:Option Addr) (lc c:Nat),i11= .slice lo l.length lc∧i12= .int .i64 c∧c≤n9∧l.length≤c∧Hid (LV w1 wr s lo lc l)) (fun _ i12 _=>(n9 - intOf i12).toNat)
 case atStart=>exact⟨[],none,0,0,rfl,rfl,Nat.zero_le _,Nat.le_refl _,HLV0⟩
 case round=>
  obtain⟨l,lo,lc,c,rfl,rfl,hc,hlc,HV⟩:=hrel
  obtain⟨wV,hwV⟩: ∃wV,wV=wr:=⟨_,rfl⟩
  subst hwV
  obtain⟨hR,c13⟩:=H13.out wV HV.out.t
  obtain⟨ll,hll⟩: ∃ll,ll=l.length:=⟨_,rfl⟩
  have Hll:Hid (ll=l.length):=hll
  rw[←hll] at hlc ⊢
  clear hll
  rcases Nat.lt_or_ge c n9 with hcn|hcn
  ·obtain⟨p,hp⟩: ∃p,s.ps[c]? =some p:=⟨_,List.getElem?_eq_getElem (by have:=Hn9.out;omega)⟩
   obtain⟨g,e,k0,k1,k2,k3⟩:=hR.part hp
   rw[e] at c13
   have HAl:Hid (p.live=true→p.bk=false→ ∀x∈l++[c], ∃p,s.ps[x]? =some p∧p.live=true∧p.bk=false):=fun h1 h2 x hx=>by
    rcases List.mem_append.1 hx with hx|hx
    ·exact HV.out.al x hx
    ·rw[List.mem_singleton.1 hx];exact⟨p,hp,h1,h2⟩
   generalize p.live=lv at*
   generalize p.bk=bk at*
   clear hp e hR k0 k1
   cases lv with
   |true=>
    cases bk with
    |false=>
     obtain⟨wB,hwB⟩: ∃wB,wB=wV.alloc (.cells #[.int .i64 c] 3):=⟨_,rfl⟩
     have hB:LV w1 wB s lo lc l:=HV.out.no (by rw[hwB];exact Tch.alloc _ _ _)
     have Hrow:Hid (wB.ownsRow w1.heap.size 3 1 (.slice lo ll lc) ll (icl l)):=by rw[Hll.out];exact hB.ow
     have Hcl:Hid (∀j u,([.int .i64 c]:List Value)[j]? =some u→wB.cell? ((⟨wV.heap.size,0,none⟩:Addr).add j)=some u):=fun j u hu=>by
      rw[add_plain,Nat.zero_add,hwB,blk_cell (alloc_new _ _),List.getElem?_toArray];exact hu
     have HTB:Hid (Tch (fun _=>False) w1 wB):=hB.t
     have HWB:Hid (wB=_):=hwB
     have Hbs:Hid (w1.heap.size≤wB.heap.size):=hB.t.size
     clear hwB hB
     go_wp2_with (at_builtin;have hw0:=HWB.out;rw[←hw0];clear hw0;refine wpList_append_keeps _ rfl _ _ 23 rfl w1.heap.size 3 i0 (.int .i64 0) 1 8 Tryz.underlying23 hi0 hz0 hz1 hz2 rfl (by decide) (.slice lo ll lc) ll (icl l) rfl Hrow.out ⟨wV.heap.size,0,none⟩ 1 1 [.int .i64 c] rfl (by simp) Hcl.out (by simp[Value.oneCell']) (by unfold maxLen;omega) (by omega) Hbs.out ?_;intro v1 w5 hown1 hgr1 hat1 _;have HO:Hid (w5.ownsRow w1.heap.size 3 1 v1 (ll+1) (icl l++[.int .i64 c])):=hown1;have HT:Hid (Tch (fun _=>False) w1 w5):=HTB.out.trans (grown_at (Tch.refl (fun _=>False) wB) hgr1) (fun i hi e=>by have:=row_ge Hrow.out e;omega);obtain⟨o1,c1,rfl⟩:=row_slice hown1;clear hown1 hgr1 hat1)
     go_roundw
     case rel=>exact⟨l++[c],o1,c1,c+1,(by rw[List.length_append,List.length_singleton, ←Hll.out]),(by rfl),by omega,(by rw[List.length_append,List.length_singleton, ←Hll.out];omega),HT.out,(by rw[List.length_append,List.length_singleton, ←Hll.out,icl_snoc];exact HO.out),HAl.out rfl rfl⟩
     case measure=>(simp[intOf]<;>omega)
    |true=>
     go_wp2_with fail
     go_roundw
     case rel=>exact⟨l,lo,lc,c+1,(by rw[←Hll.out]),(by rfl),by omega,(by rw[←Hll.out];omega),HV⟩
     case measure=>(simp[intOf]<;>omega)
   |false=>
    go_wp2_with fail
    go_roundw
    case rel=>exact⟨l,lo,lc,c+1,(by rw[←Hll.out]),(by rfl),by omega,(by rw[←Hll.out];omega),HV⟩
    case measure=>(simp[intOf]<;>omega)
  ·have hcc:c=n9:=by omega
   subst hcc
   have HR9:Hid (SR wV qb (2+k*15) s (A k)):=hR
   clear hR hcn
   rcases Nat.eq_zero_or_pos ll with hz|hz
   ·subst hz
    have HE:Hid (LW w0 wV qb hb mb nq m L q A F):=HL1.out wV HV.out.t
    go_wp2_with fail
    go_ret
    exact⟨_,rfl,rfl,.inl ⟨F,HE.out⟩⟩
   ·have a3:=(HAc.out wV HV.out.t).2
    have a4:=(HAc.out wV HV.out.t).1
    have hzi:((ll:Int)==0)=false:=by rw[beq_eq_false_iff_ne];omega
    obtain⟨j,hj⟩: ∃j,l[pkN n ll]? =some j:=⟨_,List.getElem?_eq_getElem (by rw[←Hll.out];exact pkN_lt n hz)⟩
    obtain⟨p,hp,hpl,hpb⟩:=HV.out.al j (List.mem_of_getElem? hj)
    have hjn:j<c:=by have:=(List.getElem?_eq_some_iff.1 hp).1;have:=Hn9.out;omega
    obtain⟨lg,hlo,_,hla⟩:=slf_of HV.out.ow (by intro e;have:=congrArg List.length e;rw[icl_len] at this;rw[←Hll.out] at this;simp at this;omega)
    have hlc0:=hla (pkN n ll) (.int .i64 j) (by unfold icl;rw[List.getElem?_map,hj];rfl)
    rw[Nat.zero_add] at hlc0
    obtain⟨pk,hpk⟩: ∃pk,pk=pkN n ll:=⟨_,rfl⟩
    have hpkl:pk<ll:=by rw[hpk];exact pkN_lt n hz
    have qp:=HPk.out wV ll hz (by omega)
    rw[←hpk] at qp hlc0
    rw[hlo]
    obtain⟨F',hF'⟩: ∃F':Nat→Prop,F'=fun i=>F i∨w.heap.size≤i∧i<wV.heap.size:=⟨_,rfl⟩
    have hLV:LW w0 wV qb hb mb nq m L q A F':=by rw[hF'];exact HL0.out.fresh (HT1.out.trans' HV.out.t)
    have HNm:Hid (F' N):=by rw[hF'];exact .inr ⟨by rw[←HN.out];exact Nat.le_refl _,Nat.lt_of_lt_of_le (blk_lt HBN.out) HV.out.t.size⟩
    have HbV:Hid (wV.heap[N]? =some (.cells #[.int .i64 5,.int .i64 who,.int .i64 key,.int .i64 n] 29 (0,0))):=(HV.out.t.block N (blk_lt HBN.out) (fun e=>e)).trans HBN.out
    obtain⟨g,hg,k0,k1,k2,k3⟩:=HR9.out.part hp
    have Hg:Hid ((A k).po=some ⟨g,0,none⟩):=hg
    obtain⟨hf,hmay⟩:=HOk.out j p hp hpl hpb
    have hpx:=HPx.out j p hp
    have HLV:Hid (LW w0 wV qb hb mb nq m L q A F'):=hLV
    have Hp:Hid (s.ps[j]? =some p):=hp
    obtain⟨C,hC⟩: ∃C:List Value→World→Prop,C=P1 w0 wV qb hb mb nq (m.endp t.x j 2) L q A F':=⟨_,rfl⟩
    have hKc:Hid (∀s1 W,C s1 W→W.cell? ⟨qb,0,none⟩=some (.pointer (some ⟨mb,0,none⟩))∧W.cell? ⟨qb,2+k*15+13,none⟩=some (.slice (some ⟨g,0,none⟩) c (A k).pc)∧W.cell? ⟨g,j*4,none⟩=some (.int .i64 p.x)):=fun s1 W hW=>by
     rw[hC] at hW
     have hm:MoR W qb mb hb q A:=by
      match s1,hW with
      |[],hW=>exact(HLV.out.no hW).mor
      |[_],hW=>exact hW.2.1.mor
     have hR:=hm.se k s HS.out
     obtain⟨g2,e2,k0',_⟩:=hR.part Hp.out
     rw[hg] at e2
     injection e2 with e2
     have e2:g=g2:=by injection e2
     subst e2
     exact⟨hm.cm,by rw[←hg,Hn9.out];exact hR.c 13 _ rfl,k0'⟩
    have c1:Hid (∀W,C [] W→Calls Tryz.prog 45 #[.pointer (some ⟨mb,0,none⟩),.int .i64 p.x] W fun x W'=> ∃y,x= .returned y∧C [y] W'):=fun W hW=>by
     rw[hC] at hW ⊢
     have hW:Tch (fun _=>False) wV W:=hW
     have hL:=HLV.out.no hW
     refine(back_h hL.hs hf hmay (by omega) (by omega)).mono ?_
     rintro x W' ⟨rfl,hs2,t2⟩
     exact⟨_,rfl,rfl,hL.kept hs2 t2,(kept_of hW).trans' t2⟩
    have s1:Hid (∀y W,C [y] W→y= .int .i64 0):=fun y W hW=>by
     rw[hC] at hW
     exact hW.1
    have HF:Hid (∀y W,C [y] W→LW w0 W qb hb mb nq (m.endp t.x j 2) L q A F'∧Kept F' wV W):=fun y W hW=>by
     rw[hC] at hW
     exact hW.2
    have h00:Hid (∀W,W=wV→C [] W.drew):=fun W hW=>by rw[hC,hW];exact(Tch.refl _ _).drew
    clear hC hF' hLV hf hmay hpx hp hla hpk hpl hpb hg k0 k1 k2 k3 HOk HPk HLV0 hlo hj
    go_wp2_with fail
    refine qp.mono ?_
    clear qp
    rintro x w4 ⟨rfl,rfl⟩
    go_upto_region 19 with(fail)
    have h01:=h00.out _ rfl
    refine wp_region_ordv [12] C 13 [0,1,2,3,4,5,6,7,8,9,10,11,12] (by kernel_rfl) (by kernel_rfl) h01 ?_
    clear h00 h01 hlc0 a3 a4
    iterate 12
     refine ordv_read rfl (by go_simp) (by rfl) ?_
     apply Exists.intro
     refine⟨fun s' W hW b K Q hK'=>?_,fun K hK'=>?_⟩
     ·obtain⟨q0,q1,q2⟩:=hKc.out _ W hW
      go_simp
      exact hK' W hW
     go_simp
     refine hK' _ ?_
     clear hK' K
    refine ordv_turn rfl (by go_simp) (by rfl) (fun W hW b K Q hK'=>?_) (fun u hu K hK'=>?_)
    ·go_simp
     go_at_call 45
     refine(c1.out W hW).mono ?_
     rintro x w' ⟨y,rfl,h1⟩
     exact hK' y w' h1
    obtain rfl:u= .int .i64 0:=by
     obtain⟨W',hW'⟩:=hu
     exact s1.out u W' hW'
    clear hu c1 s1
    go_simp
    refine hK' _ ?_
    clear hK' K
    refine ordv_nil ?_
    intro w5 hw5
    have h5:=HF.out _ w5 hw5
    have H5:Hid (LW w0 w5 qb hb mb nq (m.endp t.x j 2) L q A F'):=h5.1
    have Hb5:Hid (w5.heap[N]? =some (.cells #[.int .i64 5,.int .i64 who,.int .i64 key,.int .i64 n] 29 (0,0))):=(h5.2.block N (blk_lt HbV.out) (fun e=>e HNm.out)).trans HbV.out
    clear HF hw5 h5 hKc
    have hzL:LW w0 w5 qb hb mb nq (m.endp t.x j 2) L { q with l:=q.l.set k (sj s j true 0) } A F':=by
     rw[sj_zero,set_same HS.out];exact H5.out
    have HZ:Hid _:=hzL
    clear hzL
    simp only[List.drop_succ_cons,List.drop_zero]
    go_wp2_with fail
    go_loopw [15] (fun i15 wr=> ∃d:Nat,i15= .int .i64 d∧d≤c∧Hid (LW w0 wr qb hb mb nq (m.endp t.x j 2) L { q with l:=q.l.set k (sj s j true d) } A F'∧wr.heap[N]? =some (.cells #[.int .i64 5,.int .i64 who,.int .i64 key,.int .i64 n] 29 (0,0)))) (fun i15 _=>(c - intOf i15).toNat)
    case atStart=>exact⟨0,rfl,Nat.zero_le _,HZ.out,Hb5.out⟩
    case round=>
     obtain⟨d,rfl,hd,HQ⟩:=hrel
     obtain⟨wU,hwU⟩: ∃wU,wU=wr:=⟨_,rfl⟩
     subst hwU
     have hq5:k<q.l.length:=(List.getElem?_eq_some_iff.1 HS.out).1
     have hsk:(q.l.set k (sj s j true d))[k]? =some (sj s j true d):=List.getElem?_set_self hq5
     have hR:=HQ.out.1.mor.se k _ hsk
     have c13:wU.cell? ⟨qb,2+k*15+13,none⟩=some (.slice (some ⟨g,0,none⟩) c (A k).pc):=by
      have:=hR.c 13 _ rfl
      rw[←Hg.out,Hn9.out]
      rwa [show(sj s j true d).ps.length=s.ps.length from psj_len _ _ _ _] at this
     rcases Nat.lt_or_ge d c with hdc|hdc
     ·obtain⟨pd,hpd⟩: ∃pd,s.ps[d]? =some pd:=⟨_,List.getElem?_eq_getElem (by have:=Hn9.out;omega)⟩
      have qwi:=within_any wU qb (2+k*15) _ (A k) hR d j (by show d<(psj _ _ _ _).length;rw[psj_len];have:=Hn9.out;omega)
      rw[show within ((sj s j true d).ps.map ptOf) j (sj s j true d).ps.length d=within (s.ps.map ptOf) j s.ps.length d from psj_within _ _ _ _ _] at qwi
      have hpj:=sj_at s j true d hpd
      have hpsz:=psj_succ s.ps j true d hpd
      have HST:Hid (within (s.ps.map ptOf) j s.ps.length d=true→ ∀W,Tch (fun _=>False) wU W→ ∃p9,p9=pd∧g≠N∧(W.frozen? ⟨g,d*4+2,none⟩=false∧W.cell? ⟨g,d*4+2,none⟩=some (.bool pd.live))∧((W.setCell ⟨g,d*4+2,none⟩ (.bool false)).frozen? ⟨g,d*4+3,none⟩=false∧(W.setCell ⟨g,d*4+2,none⟩ (.bool false)).cell? ⟨g,d*4+3,none⟩=some (.bool pd.bk))∧(W.setCell ⟨g,d*4+2,none⟩ (.bool false)).cell? ⟨qb,2+k*15+13,none⟩=some (.slice (some ⟨g,0,none⟩) c (A k).pc)∧LW w0 ((W.setCell ⟨g,d*4+2,none⟩ (.bool false)).setCell ⟨g,d*4+3,none⟩ (.bool true)) qb hb mb nq (m.endp t.x j 2) L { q with l:=q.l.set k (sj s j true (d+1)) } A F'):=fun hw W tt=>by
       have hL:=HQ.out.1.no tt
       obtain⟨e1,e2,e3,e4,e5⟩:=hL.partAt hsk hpj Hg.out
       have e6:=hL.setPr hsk (p':= { pd with live:=false }) hpj 2 (.bool false) (by decide) rfl rfl rfl Hg.out
       have hsk2:((q.l.set k (sj s j true d)).set k { sj s j true d with ps:=(sj s j true d).ps.set d { pd with live:=false } })[k]? =some { sj s j true d with ps:=(sj s j true d).ps.set d { pd with live:=false } } :=List.getElem?_set_self (by rw[List.length_set];exact hq5)
       have hpj2:((sj s j true d).ps.set d { pd with live:=false })[d]? =some { pd with live:=false } :=List.getElem?_set_self (List.getElem?_eq_some_iff.1 hpj).1
       obtain⟨f1,f2,f3,f4,f5⟩:=e6.partAt hsk2 hpj2 Hg.out
       have f6:=e6.setPr hsk2 (p':=endP true pd) hpj2 3 (.bool true) (by decide) (by unfold endP;rw[Bool.or_true];rfl) rfl rfl Hg.out
       have f7:=(e6.mor.se k _ hsk2).c 13 _ rfl
       refine⟨pd,rfl,fun e=>?_,⟨e3 _,e4⟩,⟨f3 _,f5⟩,?_,?_⟩
       ·have:=(HL0.out.se k s HS.out).psf g (by rw[Hg.out];rfl)
        have:=HL0.out.lt g this
        have:=HN.out
        omega
       ·rw[←Hg.out,Hn9.out]
        rwa [show({ sj s j true d with ps:=(sj s j true d).ps.set d { pd with live:=false } } :Se).ps.length=s.ps.length from(List.length_set ..).trans (psj_len _ _ _ _)] at f7
       ·rw[show sj s j true (d+1)= { sj s j true d with ps:=((sj s j true d).ps.set d { pd with live:=false }).set d (endP true pd) } by
         rw[List.set_set]
         unfold sj;rw[hpsz,if_pos hw]]
        rw[show({ q with l:=q.l.set k { sj s j true d with ps:=((sj s j true d).ps.set d { pd with live:=false }).set d (endP true pd) } } :Mo)= { ({ q with l:=q.l.set k (sj s j true d) } :Mo) with l:=((q.l.set k (sj s j true d)).set k { sj s j true d with ps:=(sj s j true d).ps.set d { pd with live:=false } }).set k { sj s j true d with ps:=((sj s j true d).ps.set d { pd with live:=false }).set d (endP true pd) } } by simp only[List.set_set]]
        exact f6
      have HNO:Hid (within (s.ps.map ptOf) j s.ps.length d=false→sj s j true (d+1)=sj s j true d):=fun hw=>by
       show _=_
       unfold sj
       rw[hpsz,if_neg (by rw[hw];decide)]
      clear hpsz hpj hR hsk
      obtain⟨bw,hbw⟩: ∃bw,bw=within (s.ps.map ptOf) j s.ps.length d:=⟨_,rfl⟩
      rw[←hbw] at qwi HST HNO
      have HD:Hid (s.ps[d]? =some pd):=hpd
      clear hbw hpd
      go_wp2_with fail
      refine qwi.mono ?_
      clear qwi c13
      rintro x w6 ⟨rfl,t6⟩
      have H6:Hid (LW w0 w6 qb hb mb nq (m.endp t.x j 2) L { q with l:=q.l.set k (sj s j true d) } A F'):=HQ.out.1.no t6
      have Hb6:Hid (w6.heap[N]? =some (.cells #[.int .i64 5,.int .i64 who,.int .i64 key,.int .i64 n] 29 (0,0))):=(t6.block N (blk_lt HQ.out.2) (fun e=>e)).trans HQ.out.2
      have d13:w6.cell? ⟨qb,2+k*15+13,none⟩=some (.slice (some ⟨g,0,none⟩) c (A k).pc):=by
       have:=(H6.out.mor.se k (sj s j true d) (List.getElem?_set_self hq5)).c 13 _ rfl
       rw[←Hg.out,Hn9.out]
       rwa [show(sj s j true d).ps.length=s.ps.length from psj_len _ _ _ _] at this
      cases bw with
      |true=>
       have hst:=HST.out rfl w6 t6
       clear HST HNO
       obtain⟨p9,_,f1,⟨f2,f3⟩,⟨f4,f5⟩,f6,f7⟩:=hst
       have HE:Hid (LW w0 ((w6.setCell ⟨g,d*4+2,none⟩ (.bool false)).setCell ⟨g,d*4+3,none⟩ (.bool true)) qb hb mb nq (m.endp t.x j 2) L { q with l:=q.l.set k (sj s j true (d+1)) } A F'∧((w6.setCell ⟨g,d*4+2,none⟩ (.bool false)).setCell ⟨g,d*4+3,none⟩ (.bool true)).heap[N]? =some (.cells #[.int .i64 5,.int .i64 who,.int .i64 key,.int .i64 n] 29 (0,0))):=⟨f7,(Below.heap_setCell _ _ _ _ (by show N≠g;exact fun e=>f1 e.symm)).trans ((Below.heap_setCell _ _ _ _ (by show N≠g;exact fun e=>f1 e.symm)).trans Hb6.out)⟩
       have y0:(w6.setCell ⟨g,d*4+2,none⟩ (.bool false)).cell? ⟨N,0,none⟩=some (.int .i64 5):=by rw[blk_cell ((Below.heap_setCell _ _ _ _ (by show N≠g;exact fun e=>f1 e.symm)).trans Hb6.out)];rfl
       clear f7 f1
       go_wp2_with fail
       go_roundw
       case rel=>exact⟨d+1,rfl,hdc,HE⟩
       case measure=>(simp[intOf]<;>omega)
      |false=>
       have hno:=HNO.out rfl
       clear HST HNO
       go_wp2_with fail
       go_roundw
       case rel=>exact⟨d+1,rfl,hdc,by rw[hno];exact H6.out,Hb6.out⟩
       case measure=>(simp[intOf]<;>omega)
     ·have hdd:d=c:=by omega
      subst hdd
      have HE:Hid (LW w0 wU qb hb mb nq (m.endp t.x j 2) L { q with l:=q.l.set k (endS s j true) } A F'):=by
       have:=HQ.out.1
       rwa [Hn9.out,sj_all] at this
      clear hR
      go_wp2_with fail
      go_ret
      exact⟨_,rfl,rfl,.inr ⟨j,F',HE.out⟩⟩
end Go.Proofs.YtppokgdofgigfaaGreat.F
namespace Go.Proofs.YtppokgdofgigfaaGreat.R
open Go.RowKit Go
theorem blk_lt {w:World} {b:Nat} {o:Obj} (h:w.heap[b]? =some o):b<w.heap.size:=(Array.getElem?_eq_some_iff.1 h).1
theorem blk_cell {w:World} {b:Nat} {cs:Array Value} {t:TypeId} {fr:Nat×Nat} (h:w.heap[b]? =some (.cells cs t fr)) (i:Nat):w.cell? ⟨b,i,none⟩=cs[i]? :=by
 simp[World.cell?,h]
theorem blk_frozen {w:World} {b:Nat} {cs:Array Value} {t:TypeId} (h:w.heap[b]? =some (.cells cs t (0,0))) (i:Nat):w.frozen? ⟨b,i,none⟩=false:=by
 simp[World.frozen?,h]
theorem blk_set {w:World} {b i:Nat} {cs:Array Value} {t:TypeId} {fr:Nat×Nat} (h:w.heap[b]? =some (.cells cs t fr)) (v:Value):(w.setCell ⟨b,i,none⟩ v).heap[b]? =some (.cells (cs.setIfInBounds i v) t fr):=by
 have hl:=blk_lt h
 simp only[World.setCell]
 rw[Array.getElem?_modify]
 simp[h]
theorem Tch.of_grown {S:Nat→Prop} {w w':World} {row:Option Nat} (h:w.grownBy w' row) (hS: ∀g,row=some g→S g):Tch S w w':=
 ⟨h.os,h.tape,h.output,h.size,fun k hk hn=>h.block k hk (fun e=>hn (hS k e.symm))⟩
theorem alloc_new (w:World) (o:Obj):(w.alloc o).heap[w.heap.size]? =some o:=by show(w.heap.push o)[w.heap.size]? =_;simp
theorem row_slice {w:World} {base:Nat} {t:TypeId} {sz n:Nat} {v:Value} {xs:List Value} (h:w.ownsRow base t sz v n xs): ∃ao c,v= .slice ao n c:=by
 rcases h.2 with⟨h1,h2⟩|⟨g,c,cur,h1,_⟩
 ·exact⟨none,0,by rw[h1,h2]⟩
 ·exact⟨_,c,h1⟩
theorem own_tch {S:Nat→Prop} {W W':World} {base sz n:Nat} {t:TypeId} {v:Value} {xs:List Value} (h:W.ownsRow base t sz v n xs) (tc:Tch S W W') (hS: ∀g,v.ownBlock=some g→ ¬S g):W'.ownsRow base t sz v n xs:=by
 obtain⟨h1,h2⟩:=h
 refine⟨h1,?_⟩
 rcases h2 with h2|⟨g,c,cur,hv,hb,hh,hr⟩
 ·exact Or.inl h2
 ·exact Or.inr ⟨g,c,cur,hv,hb,by rw[tc.block g (blk_lt hh) (hS g (by rw[hv];rfl))];exact hh,hr⟩
theorem own_low {W:World} {base base' sz n:Nat} {t:TypeId} {v:Value} {xs:List Value} (h:W.ownsRow base t sz v n xs) (hb:base'≤base):W.ownsRow base' t sz v n xs:=by
 obtain⟨h1,h2⟩:=h
 refine⟨h1,?_⟩
 rcases h2 with h2|⟨g,c,cur,hv,hb',hr⟩
 ·exact Or.inl h2
 ·exact Or.inr ⟨g,c,cur,hv,by omega,hr⟩
def At (w:World) (g o:Nat) (cs:List Value):Prop:= ∀j u,cs[j]? =some u→w.cell? ⟨g,o+j,none⟩=some u
theorem blk_at {w:World} {g:Nat} {cs:Array Value} {t:TypeId} {fr:Nat×Nat} (h:w.heap[g]? =some (.cells cs t fr)):At w g 0 cs.toList:=fun j u hu=>by
 rw[Nat.zero_add,blk_cell h, ←Array.getElem?_toList];exact hu
theorem own_open {W:World} {base sz n:Nat} {t:TypeId} {v:Value} {xs:List Value} (h:W.ownsRow base t sz v n xs) (hn:0<n): ∃g cap cur,v= .slice (some ⟨g,0,none⟩) n cap∧base≤g∧W.heap[g]? =some (.cells cur t (0,0))∧n≤cap∧cap≤maxLen∧cur.size=cap*sz∧cur.toList.take (n*sz)=xs:=by
 rcases h.2 with⟨_,h2⟩|h
 ·omega
 ·exact h
theorem own_at {W:World} {base sz n:Nat} {t:TypeId} {v:Value} {xs:List Value} (h:W.ownsRow base t sz v n xs) (hn:0<n): ∃g c,v= .slice (some ⟨g,0,none⟩) n c∧n≤c∧c≤maxLen∧g<W.heap.size∧At W g 0 xs∧ ∀i,W.frozen? ⟨g,i,none⟩=false:=by
 obtain⟨g,c,cur,hv,hb,hh,hc,hm,hs,ht⟩:=own_open h hn
 refine⟨g,c,hv,hc,hm,blk_lt hh,fun j u hu=>?_,blk_frozen hh⟩
 rw[Nat.zero_add,blk_cell hh, ←Array.getElem?_toList]
 rw[←ht,List.getElem?_take] at hu
 split at hu
 ·exact hu
 ·simp at hu
theorem add_plain (b o j:Nat):(⟨b,o,none⟩:Addr).add j=⟨b,o+j,none⟩:=by unfold Addr.add;split<;>simp_all
theorem run_copy_any {P:Program} (w:World) (dT sT ty elem:TypeId) (sz g o dLen dCap:Nat) (a:Addr) (sLen sCap:Nat) (cur:Array Value) (t:TypeId) (cs:List Value)
  (hu:P.underlying dT=some (.slice elem)) (hs:(P.info? elem).map (·.size)=some sz)
  (hg:w.heap[g]? =some (.cells cur t (0,0))) (hn:cs.length=Nat.min sLen dLen*sz)
  (hsrc: ∀j v,cs[j]? =some v→w.cell? (a.add j)=some v) (hfit:o+cs.length≤cur.size) (h1: ∀v∈cs,v.oneCell'=true):
  (Builtin.copy_ #[dT,sT] ty #[.slice (some ⟨g,o,none⟩) dLen dCap,.slice (some a) sLen sCap]).run P w=
   .ok (goInt (Nat.min sLen dLen)) (w.setRow g (cur.toList.take o++cs++cur.toList.drop (o+cs.length)).toArray):=by
 have hl:=run_loadCells_list (P:=P) w a cs hsrc
 have hst:=run_storeCells_at P g o t cs 0 cur w hg (by simpa using hfit) h1
 cases hq:P.info? elem with
 |none=>simp[hq] at hs
 |some i=>
  have hi:i.size=sz:=by simpa[hq] using hs
  simp[Builtin.copy_,run_underlying hu,Builtin.lenOf,Builtin.firstCells,sizeOf,typeInfo,hq,hi, ←hn,hl,hst]
theorem setRow_blk {w:World} {g:Nat} {cur cur':Array Value} {t:TypeId} {fr:Nat×Nat} (h:w.heap[g]? =some (.cells cur t fr)):(w.setRow g cur').heap[g]? =some (.cells cur' t fr):=by
 simp[World.setRow,Array.getElem?_modify,h]
theorem setRow_tch (w:World) (g:Nat) (cur:Array Value):Tch (fun i=>i=g) w (w.setRow g cur):=⟨rfl,rfl,rfl,by simp[World.setRow],fun k _ hk=>setRow_other w g k _ hk⟩
theorem step_copy_run {P:Program} {ops:Array Oper} {o:Oper} {a:Act} {w:World} {K:Act→World→Prop} {Q:Exit→Act→World→Prop} {E:Prop}
  (hg:o.guard=none) (d x:Operand) (dT sT:TypeId) (hop:o.op=Op.call { callee:=Callee.builtin Builtin.copy,args:=#[d,x],argTypes:=#[dT,sT] })
  (v u:Value) (hd:a.eval d=v) (hx:a.eval x=u) {v':Value} {w':World} (hr:(Builtin.copy_ #[dT,sT] o.type #[v,u]).run P w= .ok v' w') (hK:K (a.put o.dst v') w'):
  if Region.wanted o (yielded ops a.tmps)=true then Oper.wp P o a w K Q else E:=by
 have hw:Region.wanted o (yielded ops a.tmps)=true:=by simp[Region.wanted,hg]
 rw[if_pos hw]
 unfold Oper.wp
 simp[execOp,hop,resolve,invoke,builtin,hd,hx,hr,Result.andThen]
 exact hK
theorem info_item:(Tryz.prog.info? 170).map (fun i=>(i.zero,i.size,i.bytes))=some (some (.agg #[.string ⟨#[]⟩,.slice none 0 0]),2,40):=by kernel_rfl
theorem info_item2:(Tryz.prog.info? 170).map (·.size)=some 2:=by kernel_rfl
theorem cmpstr0_any (a b:ByteArray) (w:World):Calls Tryz.prog 123 #[.string a,.string b] w fun x w'=>x= .returned (.int .i64 (Lib.compareBytes a.data.toList b.data.toList))∧w'=w:=by
 go_enter Tryz.func123,Tryz.ntmps123
 go_wp2
 rw[run_callFunc_extern Tryz.func127 (by kernel_rfl) (by kernel_rfl) (by kernel_rfl) (e:=Extern.BytealgCompare.compare) (by kernel_rfl),Lib.run_compareString]
 simp only[Result.andThen]
 rw[Oper.upon_value]
 go_wp2
 go_ret
 exact⟨rfl,rfl⟩
theorem cmpstr_any (a b:ByteArray) (w:World):Calls Tryz.prog 114 #[.string a,.string b] w fun x w'=>x= .returned (.int .i64 (Lib.compareBytes a.data.toList b.data.toList))∧w'=w:=by
 go_enter Tryz.func114,Tryz.ntmps114
 go_wp2_with (go_at_call 123;refine(cmpstr0_any _ _ _).mono ?_;rintro x w1 ⟨rfl,rfl⟩)
 go_ret
 exact⟨rfl,rfl⟩
theorem cb_self: ∀x:List UInt8,Lib.compareBytes x x=0
 |[]=>rfl
 |a::x=>by
  have h: ¬a<a:=UInt8.lt_irrefl a
  rw[Lib.compareBytes,if_neg h,if_neg h];exact cb_self x
theorem cb_eq: ∀ {x y:List UInt8},Lib.compareBytes x y=0→x=y
 |[],[],_=>rfl
 |[],_::_,h=>by simp[Lib.compareBytes] at h
 |_::_,[],h=>by simp[Lib.compareBytes] at h
 |a::x,b::y,h=>by
  rw[Lib.compareBytes] at h
  split at h
  ·cases h
  ·split at h
   ·cases h
   ·rename_i h1 h2
    have e:a=b:=UInt8.le_antisymm (UInt8.not_lt.1 h2) (UInt8.not_lt.1 h1)
    rw[e,cb_eq h]
theorem cb_flip: ∀(x y:List UInt8),Lib.compareBytes y x= - Lib.compareBytes x y
 |[],[]=>rfl
 |[],_::_=>rfl
 |_::_,[]=>rfl
 |a::x,b::y=>by
  have ih:=cb_flip x y
  simp only[Lib.compareBytes]
  by_cases h1:a<b
  ·have h2: ¬b<a:=fun h=>UInt8.lt_irrefl a (UInt8.lt_trans h1 h)
   simp[h1,h2]
  ·by_cases h2:b<a
   ·simp[h1,h2]
   ·simp[h1,h2,ih]
theorem cb_trans: ∀ {x y z:List UInt8},Lib.compareBytes x y<0→Lib.compareBytes y z<0→Lib.compareBytes x z<0
 |[],[],_,h,_=>by simp[Lib.compareBytes] at h
 |_::_,[],_,h,_=>by simp[Lib.compareBytes] at h
 |_,_::_,[],_,h=>by simp[Lib.compareBytes] at h
 |[],_::_,_::_,_,_=>by simp[Lib.compareBytes]
 |a::x,b::y,c::z,h1,h2=>by
  simp only[Lib.compareBytes] at*
  by_cases ab:a<b
  ·by_cases bc:b<c
   ·simp[UInt8.lt_trans ab bc]
   ·by_cases cb:c<b
    ·simp[bc,cb] at h2
    ·have e:b=c:=UInt8.le_antisymm (UInt8.not_lt.1 cb) (UInt8.not_lt.1 bc)
     subst e;simp[ab]
  ·by_cases ba:b<a
   ·simp[ab,ba] at h1
   ·have e:a=b:=UInt8.le_antisymm (UInt8.not_lt.1 ba) (UInt8.not_lt.1 ab)
    subst e
    by_cases bc:a<c
    ·simp[bc]
    ·by_cases cb:c<a
     ·simp[bc,cb] at h2
     ·simp only[ab,bc,cb,if_false] at*
      exact cb_trans h1 h2
def kc (a b:ByteArray):Int:=Lib.compareBytes a.data.toList b.data.toList
theorem kc_self (a:ByteArray):kc a a=0:=cb_self _
theorem kc_eq {a b:ByteArray} (h:kc a b=0):a=b:=by
 have:=cb_eq h
 obtain⟨⟨x⟩⟩:=a
 obtain⟨⟨y⟩⟩:=b
 simp only at this
 rw[this]
theorem kc_flip (a b:ByteArray):kc b a= - kc a b:=cb_flip _ _
theorem kc_trans {a b c:ByteArray} (h1:kc a b<0) (h2:kc b c<0):kc a c<0:=cb_trans h1 h2
abbrev GV:=Option Addr×Nat×Nat
abbrev ev (x:GV):Value:= .slice x.1 x.2.1 x.2.2
abbrev It:=ByteArray×GV
abbrev itV (e:It):Value:= .agg #[.string e.1,ev e.2]
def KL (a b:It):Prop:=kc a.1 b.1<0
abbrev Sorted (l:List It):Prop:=l.Pairwise KL
def Lo (k:ByteArray) (e:It):Prop:=kc e.1 k<0
def Hi (k:ByteArray) (e:It):Prop:=0<kc e.1 k
theorem Lo.of {k:ByteArray} {e e':It} (h:KL e e') (h':Lo k e'):Lo k e:=kc_trans h h'
theorem Hi.of {k:ByteArray} {e e':It} (h:KL e e') (h':Hi k e):Hi k e':=by
 have h1:kc k e.1<0:=by have:=kc_flip e.1 k;unfold Hi at h';omega
 have h2:=kc_trans h1 h
 have:=kc_flip k e'.1
 unfold Hi
 omega
def icl (l:List It):List Value:=l.flatMap (fun e=>[.string e.1,ev e.2])
theorem icl_app (a b:List It):icl (a++b)=icl a++icl b:=by simp[icl]
theorem icl_cons (e:It) (b:List It):icl (e::b)=[.string e.1,ev e.2]++icl b:=by simp[icl]
theorem icl_get: ∀(l:List It) (k:Nat) (hk:k<l.length),(icl l)[k*2]? =some (.string l[k].1)∧(icl l)[k*2+1]? =some (ev l[k].2)
 |[],k,hk=>by simp at hk
 |a::l,0,_=>by simp[icl]
 |a::l,k+1,hk=>by
  have:=icl_get l k (by simpa using hk)
  rw[icl_cons]
  have e1:(k+1)*2=k*2+2:=by omega
  simp only[List.getElem_cons_succ]
  rw[e1]
  refine⟨?_,?_⟩
  ·rw[List.getElem?_append_right (by simp)];simpa using this.1
  ·rw[List.getElem?_append_right (by simp)];simpa using this.2
theorem icl_one (l:List It): ∀u∈icl l,u.oneCell'=true:=fun u hu=>by
 unfold icl at hu
 rw[List.mem_flatMap] at hu
 obtain⟨a,_,hu⟩:=hu
 simp only[List.mem_cons,List.not_mem_nil,or_false] at hu
 rcases hu with rfl|rfl<;>rfl
theorem icl_take (l:List It) (k:Nat):(icl l).take (k*2)=icl (l.take k):=by
 induction l generalizing k with
 |nil=>simp[icl]
 |cons a l ih=>
  cases k with
  |zero=>simp[icl]
  |succ k=>
   rw[List.take_succ_cons,icl_cons,icl_cons, ←ih k,show(k+1)*2=k*2+1+1 by omega]
   simp
theorem icl_drop (l:List It) (k:Nat):(icl l).drop (k*2)=icl (l.drop k):=by
 induction l generalizing k with
 |nil=>simp[icl]
 |cons a l ih=>
  cases k with
  |zero=>simp[icl]
  |succ k=>
   rw[List.drop_succ_cons,icl_cons, ←ih k,show(k+1)*2=k*2+1+1 by omega]
   simp
structure Found (l:List It) (k:ByteArray) (i:Nat) (th:Bool):Prop where
 le:i≤l.length
 lo: ∀e∈l.take i,Lo k e
 hi:th=false→ ∀e∈l.drop i,Hi k e
 at_:th=true→ ∃it,l[i]? =some it∧it.1=k
 behind:th=true→ ∀e∈l.drop (i+1),Hi k e
theorem cmpit_any (e:It) (k:ByteArray) (w:World):Calls Tryz.prog 113 #[itV e,.string k] w fun x w'=>x= .returned (.int .i64 (kc e.1 k))∧Tch (fun _=>False) w w':=by
 have HT:Hid (Tch (fun _=>False) w (w.alloc (.cells #[.string e.1,ev e.2] 170))):=Tch.alloc _ _ _
 have h0:(w.alloc (.cells #[.string e.1,ev e.2] 170)).cell? ⟨w.heap.size,0,none⟩=some (.string e.1):=by rw[blk_cell (alloc_new w _)];rfl
 have hcs:(itV e).cells=#[.string e.1,ev e.2]:=rfl
 go_enter Tryz.func113,Tryz.ntmps113
 go_wp2_with (go_at_call 114;refine(cmpstr_any _ _ _).mono ?_;rintro x w1 ⟨rfl,rfl⟩)
 go_ret
 exact⟨rfl,HT.out⟩
theorem sorted_lt {l:List It} (hs:Sorted l) {a b:Nat} (hab:a<b) (hb:b<l.length):KL (l[a]'(by omega)) l[b]:=List.pairwise_iff_getElem.1 hs a b (by omega) hb hab
theorem bsearch_any (l:List It) (k:ByteArray) (v:Value) (w:World) (ho:w.ownsRow 0 170 2 v l.length (icl l)) (hs:Sorted l) (hl:l.length<1000):
  Calls Tryz.prog 112 #[v,.string k,.func (.func 113) #[] #[]] w fun x w'=>(∃(i:Nat) (th:Bool),x= .returned (.tuple #[.int .i64 i,.bool th])∧Found l k i th)∧Tch (fun _=>False) w w':=by
 obtain⟨ao,c,rfl⟩:=row_slice ho
 obtain⟨n,hn⟩: ∃n,n=l.length:=⟨_,rfl⟩
 have HC:Hid (∀W t (ht:t<l.length),Tch (fun _=>False) w W→ ∃g,ao=some ⟨g,0,none⟩∧W.cell? ⟨g,t*2,none⟩=some (.string l[t].1)∧W.cell? ⟨g,t*2+1,none⟩=some (ev l[t].2)):=fun W t ht tw=>by
  obtain⟨g,c',hv,_,_,hg,ha,_⟩:=own_at ho (by omega)
  injection hv with h1
  obtain⟨c0,c1⟩:=icl_get l t ht
  have a0:=ha _ _ c0
  have a1:=ha _ _ c1
  rw[Nat.zero_add] at a0 a1
  exact⟨g,h1,by rw[tw.cell (p:=⟨g,t*2,none⟩) hg (fun h=>h)];exact a0,by rw[tw.cell (p:=⟨g,t*2+1,none⟩) hg (fun h=>h)];exact a1⟩
 have HS:Hid (Sorted l):=hs
 have Hn:Hid (n=l.length):=hn
 rw[←hn]
 have hln:n<1000:=by omega
 clear ho hs hn hl
 go_enter Tryz.func112,Tryz.ntmps112
 go_wp2_with fail
 go_loopg [9,10] n (fun kx s9 s10 wr=> ∃lo hi:Nat,s9= .int .i64 lo∧s10= .int .i64 hi∧lo≤hi∧hi≤n∧hi - lo≤kx∧Hid (Tch (fun _=>False) w wr)∧
  Hid ((∀t (ht:t<l.length),t<lo→Lo k l[t])∧(∀t (ht:t<l.length),hi≤t→ ¬Lo k l[t])))
 case atStart=>exact⟨0,n,rfl,rfl,Nat.zero_le _,Nat.le_refl _,by omega,Tch.refl _ _,(⟨fun t ht h=>absurd h (Nat.not_lt_zero _),fun t ht h2=>by have:=Hn.out;omega⟩:(∀t (ht:t<l.length),t<0→Lo k l[t])∧(∀t (ht:t<l.length),n≤t→ ¬Lo k l[t]))⟩
 case round=>
  obtain⟨lo,hi,rfl,rfl,hlh,hin,hg,T,I⟩:=hrel
  by_cases hlt:lo<hi
  ·have hm:(lo+hi) / 2<l.length:=by have:=Hn.out;omega
   obtain⟨g,rfl,c0,c1⟩:=HC.out _ _ hm T.out
   obtain⟨y,hy⟩: ∃y,y=l[(lo+hi) / 2]:=⟨_,rfl⟩
   rw[←hy] at c0 c1
   have Y:Hid (y=l[(lo+hi) / 2]):=hy
   clear hy
   have hc:=cmpit_any y k wr
   by_cases hyx:kc y.1 k<0
   ·go_wp2_with (go_at_call 113;refine hc.mono ?_;rintro e w' ⟨rfl,t'⟩;have T':Hid (Tch (fun _=>False) w w'):=T.out.trans' t';clear t')
    go_roundg (hi - ((lo+hi) / 2+1))
    case measure=>omega
    case rel=>
     have I2:Hid ((∀t (ht:t<l.length),t<(lo+hi) / 2+1→Lo k l[t])∧(∀t (ht:t<l.length),hi≤t→ ¬Lo k l[t])):=⟨fun t ht h=>by
      rcases Nat.lt_or_ge t ((lo+hi) / 2) with h1|h1
      ·exact Lo.of (sorted_lt HS.out h1 hm) (by rw[←Y.out];exact hyx)
      ·obtain rfl:t=(lo+hi) / 2:=by omega
       rw[←Y.out];exact hyx,I.out.2⟩
     exact⟨(lo+hi) / 2+1,hi,by rw[show((lo:Int)+(hi:Int)) / 2+1=(((lo+hi) / 2+1:Nat):Int) by omega],rfl,by omega,hin,Nat.le_refl _,T',I2⟩
   ·go_wp2_with (go_at_call 113;refine hc.mono ?_;rintro e w' ⟨rfl,t'⟩;have T':Hid (Tch (fun _=>False) w w'):=T.out.trans' t';clear t')
    go_roundg ((lo+hi) / 2 - lo)
    case measure=>omega
    case rel=>
     have I2:Hid ((∀t (ht:t<l.length),t<lo→Lo k l[t])∧(∀t (ht:t<l.length),(lo+hi) / 2≤t→ ¬Lo k l[t])):=⟨I.out.1,fun t ht h h2=>by
      rcases Nat.lt_or_ge ((lo+hi) / 2) t with h1|h1
      ·have:=Lo.of (sorted_lt HS.out h1 ht) h2
       rw[←Y.out] at this;unfold Lo at this;omega
      ·obtain rfl:t=(lo+hi) / 2:=by omega
       rw[←Y.out] at h2;unfold Lo at h2;omega⟩
     exact⟨lo,(lo+hi) / 2,rfl,by rw[show((lo:Int)+(hi:Int)) / 2=(((lo+hi) / 2:Nat):Int) by omega],by omega,by omega,Nat.le_refl _,T',I2⟩
  ·obtain rfl:hi=lo:=by omega
   have F1:Hid (∀e∈l.take hi,Lo k e):=fun e he=>by
    obtain⟨t,ht,rfl⟩:=List.getElem_of_mem he
    rw[List.length_take] at ht
    rw[List.getElem_take]
    exact I.out.1 t (by omega) (by omega)
   have F2:Hid (∀t (ht:t<l.length),hi≤t→0≤kc l[t].1 k):=fun t ht h=>by have:=I.out.2 t ht h;unfold Lo at this;omega
   by_cases hn:hi<n
   ·have hm:hi<l.length:=by have:=Hn.out;omega
    obtain⟨g,rfl,c0,c1⟩:=HC.out _ _ hm T.out
    obtain⟨y,hy⟩: ∃y,y=l[hi]:=⟨_,rfl⟩
    rw[←hy] at c0 c1
    have Y:Hid (y=l[hi]):=hy
    clear hy
    have hc:=cmpit_any y k wr
    have F3:Hid (∀e∈l.drop (hi+1),0<kc e.1 k):=fun e he=>by
     obtain⟨t,ht,rfl⟩:=List.getElem_of_mem he
     rw[List.length_drop] at ht
     rw[List.getElem_drop]
     have h1:=F2.out hi hm (Nat.le_refl _)
     have h2:=sorted_lt HS.out (show hi<hi+1+t by omega) (by omega)
     rcases(by omega:kc l[hi].1 k=0∨0<kc l[hi].1 k) with h3|h3
     ·have e:=kc_eq h3
      have h4:=kc_flip l[hi].1 (l[hi+1+t]'(by omega)).1
      unfold KL at h2
      rw[e] at h4 h2
      omega
     ·exact Hi.of h2 h3
    by_cases hyx:kc y.1 k=0
    ·have hF:Hid (Found l k hi true):=⟨by omega,F1.out,fun h=>(by cases h),fun _=>⟨y,by rw[Y.out,List.getElem?_eq_getElem hm],kc_eq hyx⟩,fun _=>F3.out⟩
     go_wp2_with (go_at_call 113;refine hc.mono ?_;rintro e w' ⟨rfl,t'⟩;have T':Hid (Tch (fun _=>False) w w'):=T.out.trans' t';clear t')
     go_ret2
     exact⟨⟨hi,true,by simp,hF.out⟩,T'.out⟩
    ·have hF:Hid (Found l k hi false):=⟨by omega,F1.out,fun _ e he=>by
      rw[List.drop_eq_getElem_cons hm] at he
      rcases List.mem_cons.1 he with rfl|he
      ·have:=F2.out hi hm (Nat.le_refl _)
       rw[←Y.out] at this ⊢
       unfold Hi;omega
      ·exact F3.out e he,fun h=>(by cases h),fun h=>(by cases h)⟩
     go_wp2_with (go_at_call 113;refine hc.mono ?_;rintro e w' ⟨rfl,t'⟩;have T':Hid (Tch (fun _=>False) w w'):=T.out.trans' t';clear t')
     go_ret2
     exact⟨⟨hi,false,by simp[hyx],hF.out⟩,T'.out⟩
   ·have hF:Hid (Found l k hi false):=⟨by have:=Hn.out;omega,F1.out,fun _ e he=>by
     rw[List.drop_eq_nil_of_le (by have:=Hn.out;omega)] at he
     simp at he,fun h=>(by cases h),fun h=>(by cases h)⟩
    go_wp2_with fail
    go_ret2
    exact⟨⟨hi,false,by simp,hF.out⟩,T.out⟩
def ND (w:World) (p:Nat) (iv kv:Value) (sz:Int):Prop:=w.heap[p]? =some (.cells #[iv,kv,.int .i64 sz] 166 (0,0))
theorem ND.tch {S:Nat→Prop} {w w':World} {p:Nat} {iv kv:Value} {sz:Int} (h:ND w p iv kv sz) (t:Tch S w w') (hp: ¬S p):ND w' p iv kv sz:=by
 unfold ND;rw[t.block p (blk_lt h) hp];exact h
theorem ND.cells {w:World} {p:Nat} {iv kv:Value} {sz:Int} (h:ND w p iv kv sz):w.cell? ⟨p,0,none⟩=some iv∧w.cell? ⟨p,1,none⟩=some kv∧w.cell? ⟨p,2,none⟩=some (.int .i64 sz)∧ ∀i,w.frozen? ⟨p,i,none⟩=false:=
 ⟨by rw[blk_cell h];rfl,by rw[blk_cell h];rfl,by rw[blk_cell h];rfl,blk_frozen h⟩
theorem find_any (p:Nat) (l:List It) (k:ByteArray) (iv kv:Value) (sz:Int) (w:World) (hp:ND w p iv kv sz) (ho:w.ownsRow 0 170 2 iv l.length (icl l)) (hs:Sorted l) (hl:l.length<1000):
  Calls Tryz.prog 106 #[.pointer (some ⟨p,0,none⟩),.string k] w fun x w'=>(∃(i:Nat) (th:Bool),x= .returned (.tuple #[.int .i64 i,.bool th])∧Found l k i th)∧Tch (fun _=>False) w w':=by
 obtain⟨c0,_,_,_⟩:=hp.cells
 have hq:=bsearch_any l k iv w ho hs hl
 obtain⟨ao,c,rfl⟩:=row_slice ho
 clear ho hp
 go_enter Tryz.func106,Tryz.ntmps106
 go_wp2_with fail
 refine hq.mono ?_
 rintro x w1 ⟨⟨i,th,rfl,hF⟩,t1⟩
 go_wp2_with fail
 go_ret2
 exact⟨⟨i,th,rfl,hF⟩,t1⟩
end Go.Proofs.YtppokgdofgigfaaGreat.R
