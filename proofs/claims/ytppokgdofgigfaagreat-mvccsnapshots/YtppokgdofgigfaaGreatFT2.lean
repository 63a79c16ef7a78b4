import Derived.Test.YtppokgdofgigfaaGreatVC3
import Derived.Test.YtppokgdofgigfaaGreatVC8
import Derived.Test.YtppokgdofgigfaaGreatXRel
import Derived.Test.YtppokgdofgigfaaGreatFP7
import Derived.Test.YtppokgdofgigfaaGreatFV1
set_option maxHeartbeats 4000000
set_option maxRecDepth 100000
namespace Go.Proofs.YtppokgdofgigfaaGreat.F
open Go.RowKit Go Go.Sort
set_option maxRecDepth 100000
theorem info_snap:(Tryz.prog.info? 38).map (fun i=>(i.zero,i.size,i.bytes))=some (some (.agg #[.int .i64 0,.int .i64 0,.slice none 0 0]),3,40):=by kernel_rfl
def ssA (l:List Se) (A:Nat→Sx):Nat→List SS
 |0=>[]
 |i+1=>ssA l A i++(match l[i]? with
  |some s=>if s.op && !s.pp then[(spS s,(A i).so,(A i).sc)] else[]
  |none=>[])
theorem ssA_fst (l:List Se) (A:Nat→Sx): ∀i,(ssA l A i).map (·.1)=((l.take i).filter (fun s=>s.op && !s.pp)).map spS
 |0=>rfl
 |i+1=>by
  unfold ssA
  rw[List.map_append,ssA_fst l A i,List.take_add_one,List.filter_append,List.map_append]
  congr 1
  cases l[i]? with
  |none=>rfl
  |some s=>
   simp only[Option.toList_some,List.filter_cons,List.filter_nil]
   cases s.op && !s.pp<;>rfl
theorem ssA_len (l:List Se) (A:Nat→Sx): ∀i,(ssA l A i).length≤i
 |0=>Nat.le_refl _
 |i+1=>by
  have:=ssA_len l A i
  unfold ssA
  rw[List.length_append]
  cases l[i]? with
  |none=>simp only[List.length_nil];omega
  |some s=>
   simp only
   split<;>simp only[List.length_cons,List.length_nil]<;>omega
theorem ssA_mem {l:List Se} {A:Nat→Sx} {z:SS} : ∀ {i:Nat},z∈ssA l A i→ ∃j s,j<i∧l[j]? =some s∧z=(spS s,(A j).so,(A j).sc)
 |0,h=>by cases h
 |i+1,h=>by
  unfold ssA at h
  rcases List.mem_append.1 h with h|h
  ·obtain⟨j,s,h1,h2⟩:=ssA_mem h
   exact⟨j,s,by omega,h2⟩
  ·cases hs:l[i]? with
   |none=>rw[hs] at h;cases h
   |some s=>
    rw[hs] at h
    simp only at h
    split at h
    ·exact⟨i,s,by omega,hs,List.mem_singleton.1 h⟩
    ·cases h
def spC (ss:List SS):List Value:=ss.flatMap (fun z=>[.int .i64 z.1.mn,.int .i64 z.1.mx,.slice z.2.1 z.1.on.length z.2.2])
theorem spC_snoc (ss:List SS) (z:SS):spC (ss++[z])=spC ss++[.int .i64 z.1.mn,.int .i64 z.1.mx,.slice z.2.1 z.1.on.length z.2.2]:=by simp[spC]
theorem spC_get: ∀(l:List SS) (k:Nat) (z:SS),l[k]? =some z→(spC l)[k*3]? =some (.int .i64 z.1.mn)∧(spC l)[k*3+1]? =some (.int .i64 z.1.mx)∧(spC l)[k*3+2]? =some (.slice z.2.1 z.1.on.length z.2.2)
 |[],k,z,hk=>by simp at hk
 |a::l,0,z,hk=>by
  simp only[List.getElem?_cons_zero,Option.some.injEq] at hk
  subst hk
  simp[spC]
 |a::l,k+1,z,hk=>by
  have:=spC_get l k z (by simpa using hk)
  unfold spC at this ⊢
  have e1:(k+1)*3=k*3+3:=by omega
  simp only[List.flatMap_cons]
  rw[e1]
  refine⟨?_,?_,?_⟩
  ·rw[List.getElem?_append_right (by simp)];simpa using this.1
  ·rw[List.getElem?_append_right (by simp)];simpa using this.2.1
  ·rw[List.getElem?_append_right (by simp)];simpa using this.2.2
structure LG (w1 W:World) (lo:Option Addr) (lc:Nat) (ss:List SS):Prop where
 t:Tch (fun _=>False) w1 W
 ow:W.ownsRow w1.heap.size 38 3 (.slice lo ss.length lc) ss.length (spC ss)
theorem LG.no {w1 W W':World} {lo:Option Addr} {lc:Nat} {ss:List SS} (h:LG w1 W lo lc ss) (t:Tch (fun _=>False) W W'):LG w1 W' lo lc ss:=⟨h.t.trans' t,own_tch h.ow t (fun _ _ e=>e)⟩
theorem LG.spr {w1 W:World} {lo:Option Addr} {lc:Nat} {ss:List SS} (h:LG w1 W lo lc ss) (hi: ∀z∈ss,IR W z.2.1 z.1.on):SpR W lo ss:=fun i z hz=>by
 have hne:spC ss≠[]:=fun e=>by
  have:=(spC_get ss i z hz).1
  rw[e] at this;cases this
 obtain⟨g,e,hg,ha⟩:=slf_of h.ow hne
 obtain⟨a,b,c⟩:=spC_get ss i z hz
 exact⟨g,0,e,hg,ha _ _ a,by have:=ha _ _ b;rwa [←Nat.add_assoc] at this,by have:=ha _ _ c;rwa [←Nat.add_assoc] at this,hi z (List.mem_of_getElem? hz)⟩
theorem vacuums_any {f:Fr} {w:World} {qb hb mb nq i:Nat} {m:Mg} {L:HL} {q:Mo} {A:Nat→Sx} {F:Nat→Prop} {K:Nat→List Vn} (h:LW f w qb hb mb nq m L q A F) (hI:IL m q K) (hK:HK L K) (hB:SB i nq m q) (hi:i≤200):
  Calls Tryz.prog 8 #[.pointer (some ⟨qb,0,none⟩)] w fun x w'=>x= .returned (.bool true)∧PV f qb hb mb i true w':=by
 have qs:=snapshot_h h.hs
 have cm:=h.mor.cm
 have HLW:Hid (∀W,Tch (fun _=>False) w W→LW f W qb hb mb nq m L q A F):=fun W t=>h.no t
 have HL0:Hid (LW f w qb hb mb nq m L q A F):=h
 have HX:Hid (IL m q K∧HK L K∧SB i nq m q∧i≤200):=⟨hI,hK,hB,hi⟩
 obtain⟨hd,hhd⟩: ∃hd:Nat,hd=m.on.headD m.nx:=⟨_,rfl⟩
 have Hhd:Hid (hd=m.on.headD m.nx):=hhd
 clear h hI hK hB hi hhd
 go_enter Tryz.func8,Tryz.ntmps8
 go_wp2_with fail
 refine qs.mono ?_
 rintro x w1 ⟨⟨v',rfl,_⟩,t1⟩
 rw[←Hhd.out]
 have HT1:Hid (Tch (fun _=>False) w w1):=t1
 have hfd: ∀W,(Instr.field 38 (.agg #[.int .i64 (hd:Nat),.int .i64 (m.nx:Nat),v']) 0).run Tryz.prog W= .ok (.int .i64 (hd:Nat)) W:=fun _=>by kernel_rfl
 clear qs t1 cm
 go_wp2_with fail
 clear hfd
 go_loopw [3,4,5] (fun v3 v4 v5 wr=> ∃(j lv:Nat) (lo:Option Addr) (lc:Nat),v3= .slice lo (ssA q.l A j).length lc∧v4= .int .i64 lv∧v5= .int .i64 j∧j≤5∧Hid (lv≤hd∧ ∀(k:Nat) (s:Se),k<j→q.l[k]? =some s→s.op=true→s.pp=false→lv≤s.mn)∧Hid (LG w1 wr lo lc (ssA q.l A j))) (fun _ _ v5 _=>5 - (intOf v5).toNat)
 case atStart=>exact⟨0,hd,none,0,rfl,rfl,rfl,by omega,⟨Nat.le_refl _,fun k s h=>by omega⟩,Tch.refl _ _,World.ownsRow_nil _ _ _ _⟩
 case round=>
  obtain⟨j,lv,lo,lc,rfl,rfl,rfl,hj,HV,HG⟩:=hrel
  obtain⟨wV,hwV⟩: ∃wV,wV=wr:=⟨_,rfl⟩
  subst hwV
  obtain⟨ll,hll⟩: ∃ll,ll=(ssA q.l A j).length:=⟨_,rfl⟩
  have Hll:Hid (ll=(ssA q.l A j).length):=hll
  have hll5:ll≤5:=by have:=ssA_len q.l A j;omega
  rw[←hll]
  clear hll
  have hLV:=HLW.out wV (HT1.out.trans' HG.out.t)
  by_cases hlt:(j:Int)<5
  ·obtain⟨s,hs⟩: ∃s,q.l[j]? =some s:=⟨_,List.getElem?_eq_getElem (by rw[hLV.ln];omega)⟩
   have hR:=hLV.mor.se j s hs
   have c0:wV.cell? ⟨qb,2+j*15,none⟩=some (.bool s.op):=hR.c 0 _ rfl
   have c1:wV.cell? ⟨qb,2+j*15+1,none⟩=some (.bool s.pp):=hR.c 1 _ rfl
   have c3:wV.cell? ⟨qb,2+j*15+3,none⟩=some (.int .i64 s.mn):=hR.c 3 _ rfl
   have c4:wV.cell? ⟨qb,2+j*15+4,none⟩=some (.int .i64 s.mx):=hR.c 4 _ rfl
   have c5:wV.cell? ⟨qb,2+j*15+5,none⟩=some (.slice (A j).so s.on.length (A j).sc):=hR.c 5 _ rfl
   have Hs:Hid (q.l[j]? =some s):=hs
   have hj5:j<5:=by omega
   clear hs hR hLV
   cases hop:s.op with
   |false=>
    rw[hop] at c0
    have HE:Hid (ssA q.l A (j+1)=ssA q.l A j):=by
     show _=_
     rw[ssA,Hs.out]
     simp[hop]
    have HV2:Hid (lv≤hd∧ ∀(k:Nat) (s:Se),k<j+1→q.l[k]? =some s→s.op=true→s.pp=false→lv≤s.mn):=⟨HV.out.1,fun k s' hk hs' ho hp=>by
     rcases Nat.lt_or_ge k j with h|h
     ·exact HV.out.2 k s' h hs' ho hp
     ·have:k=j:=by omega
      subst this
      rw[Hs.out] at hs';injection hs' with hs'
      rw[←hs',hop] at ho;cases ho⟩
    clear hop c1 c3 c4 c5
    go_wp2_with fail
    go_roundw
    case rel=>exact⟨j+1,lv,lo,lc,by rw[HE.out,Hll.out],rfl,by go_num,by omega,HV2,by rw[HE.out];exact HG⟩
    case measure=>(simp[intOf]<;>omega)
   |true=>
    rw[hop] at c0
    cases hpp:s.pp with
    |true=>
     rw[hpp] at c1
     have HE:Hid (ssA q.l A (j+1)=ssA q.l A j):=by
      show _=_
      rw[ssA,Hs.out]
      simp[hop,hpp]
     have HV2:Hid (lv≤hd∧ ∀(k:Nat) (s:Se),k<j+1→q.l[k]? =some s→s.op=true→s.pp=false→lv≤s.mn):=⟨HV.out.1,fun k s' hk hs' ho hp=>by
      rcases Nat.lt_or_ge k j with h|h
      ·exact HV.out.2 k s' h hs' ho hp
      ·have:k=j:=by omega
       subst this
       rw[Hs.out] at hs';injection hs' with hs'
       rw[←hs',hpp] at hp;cases hp⟩
     clear hop hpp c3 c4 c5
     go_wp2_with fail
     go_roundw
     case rel=>exact⟨j+1,lv,lo,lc,by rw[HE.out,Hll.out],rfl,by go_num,by omega,HV2,by rw[HE.out];exact HG⟩
     case measure=>(simp[intOf]<;>omega)
    |false=>
     rw[hpp] at c1
     obtain⟨z,hz⟩: ∃z:SS,z=(spS s,(A j).so,(A j).sc):=⟨_,rfl⟩
     have HE:Hid (ssA q.l A (j+1)=ssA q.l A j++[z]):=by
      show _=_
      rw[ssA,Hs.out,hz]
      simp[hop,hpp]
     have hon9:(onI s).length=s.on.length:=by unfold onI;rw[List.length_map]
     have HZ:Hid (([.int .i64 z.1.mn,.int .i64 z.1.mx,.slice z.2.1 z.1.on.length z.2.2]:List Value)=[.int .i64 s.mn,.int .i64 s.mx,.slice (A j).so s.on.length (A j).sc]):=by
      show _=_
      rw[hz]
      show[_,_,Value.slice (A j).so (onI s).length (A j).sc]=_
      rw[hon9];rfl
     have HV2:Hid (∀lw:Nat,lw≤lv→lw≤s.mn→lw≤hd∧ ∀(k:Nat) (s:Se),k<j+1→q.l[k]? =some s→s.op=true→s.pp=false→lw≤s.mn):=fun lw h1 h2=>⟨Nat.le_trans h1 HV.out.1,fun k s' hk hs' ho hp=>by
      rcases Nat.lt_or_ge k j with h|h
      ·exact Nat.le_trans h1 (HV.out.2 k s' h hs' ho hp)
      ·have:k=j:=by omega
       subst this
       rw[Hs.out] at hs';injection hs' with hs'
       rw[←hs'];exact h2⟩
     obtain⟨wB,hwB⟩: ∃wB,wB=wV.alloc (.cells #[.int .i64 s.mn,.int .i64 s.mx,.slice (A j).so s.on.length (A j).sc] 38):=⟨_,rfl⟩
     obtain⟨N3,hN3⟩: ∃N3,N3=wV.heap.size:=⟨_,rfl⟩
     have HGB:Hid (LG w1 wB lo lc (ssA q.l A j)):=HG.out.no (by rw[hwB];exact Tch.alloc _ _ _)
     have Hrow:Hid (wB.ownsRow w1.heap.size 38 3 (.slice lo ll lc) ll (spC (ssA q.l A j))):=by rw[Hll.out];exact HGB.out.ow
     have Hcl:Hid (∀j' u,([.int .i64 s.mn,.int .i64 s.mx,.slice (A j).so s.on.length (A j).sc]:List Value)[j']? =some u→wB.cell? ((⟨N3,0,none⟩:Addr).add j')=some u):=fun j' u hu=>by
      rw[add_plain,Nat.zero_add,hwB,hN3,blk_cell (alloc_new _ _),List.getElem?_toArray];exact hu
     have HWB:Hid (wB=wV.alloc (.cells #[.int .i64 s.mn,.int .i64 s.mx,.slice (A j).so s.on.length (A j).sc] 38)):=hwB
     have HN3:Hid (N3=wV.heap.size):=hN3
     have Hbs:Hid (w1.heap.size≤wB.heap.size):=HGB.out.t.size
     obtain⟨i0,hi0,hz0,hz1,hz2⟩:=info_parts info_snap
     clear hwB hN3 hop hpp hz hon9
     go_wp2_with (at_builtin;have hw0:=HWB.out;rw[←hw0, ←HN3.out];clear hw0;refine wpList_append_keeps _ rfl _ _ 64 rfl w1.heap.size 38 i0 (.agg #[.int .i64 0,.int .i64 0,.slice none 0 0]) 3 40 Tryz.underlying64 hi0 hz0 hz1 hz2 rfl (by decide) (.slice lo ll lc) ll (spC (ssA q.l A j)) rfl Hrow.out ⟨N3,0,none⟩ 1 1 [.int .i64 s.mn,.int .i64 s.mx,.slice (A j).so s.on.length (A j).sc] rfl (by simp) Hcl.out (by simp[Value.oneCell']) (by unfold maxLen;omega) (by omega) Hbs.out ?_;intro v1 w9 hown1 hgr1 hat1 _;have HO:Hid (w9.ownsRow w1.heap.size 38 3 v1 (ll+1) (spC (ssA q.l A j)++[.int .i64 s.mn,.int .i64 s.mx,.slice (A j).so s.on.length (A j).sc])):=hown1;have HT9:Hid (Tch (fun _=>False) w1 w9):=HGB.out.t.trans (grown_at (Tch.refl (fun _=>False) wB) hgr1) (fun i hi e=>by have:=row_ge Hrow.out e;omega);obtain⟨o1,c1,rfl⟩:=row_slice hown1;clear hown1 hgr1 hat1;have d3:w9.cell? ⟨qb,2+j*15+3,none⟩=some (.int .i64 s.mn):=((HLW.out w9 (HT1.out.trans' HT9.out)).mor.se j s Hs.out).c 3 _ rfl)
     clear d3
     go_roundw
     case rel=>
      refine⟨j+1,if s.mn<lv then s.mn else lv,o1,c1,by rw[HE.out,List.length_append,List.length_singleton, ←Hll.out],by split<;>rfl,by go_num,by omega,HV2.out _ (by split<;>omega) (by split<;>omega),?_⟩
      have ho:=HO.out
      rw[Hll.out] at ho
      show LG _ _ _ _ _
      rw[HE.out]
      refine⟨HT9.out,?_⟩
      rw[List.length_append,List.length_singleton,spC_snoc,HZ.out]
      exact ho
     case measure=>(simp[intOf]<;>omega)
  ·have hj5:j=5:=by omega
   subst hj5
   obtain⟨ss,hss⟩: ∃ss,ss=ssA q.l A 5:=⟨_,rfl⟩
   have tV:=HT1.out.trans' HG.out.t
   obtain⟨G,hG⟩: ∃G:Nat→Prop,G=fun i=>F i∨w.heap.size≤i∧i<wV.heap.size:=⟨_,rfl⟩
   have hLG:LW f wV qb hb mb nq m L q A G:=by rw[hG];exact HL0.out.fresh tV
   obtain⟨hI,hK,hB,hi200⟩:=HX.out
   have hfst:ss.map (·.1)=spL q:=by
    rw[hss,ssA_fst]
    unfold spL opn
    rw[List.take_of_length_le (by rw[hLG.ln];exact Nat.le_refl _)]
   have hown: ∀ {W:World} {b sz n:Nat} {t:TypeId} {ao:Option Addr} {c:Nat} {xs:List Value} {a:Addr},W.ownsRow b t sz (.slice ao n c) n xs→ao=some a→(Value.slice ao n c).ownBlock=some a.block∧b≤a.block∧a.block<W.heap.size:=fun {W b sz n t ao c xs a} ho e=>by
    rcases ho.2 with⟨e2,_⟩|⟨g,cap,cur,e2,hb,hg,_⟩
    ·injection e2 with e2
     rw[e2] at e;cases e
    ·injection e2 with e2
     rw[e] at e2
     injection e2 with e2
     rw[e,e2]
     exact⟨rfl,hb,blk_lt hg⟩
   have hlF: ∀a,lo=some a→G a.block:=fun a e=>by
    obtain⟨_,h2,h3⟩:=hown HG.out.ow e
    rw[hG]
    exact .inr ⟨Nat.le_trans HT1.out.size h2,h3⟩
   have hsF: ∀z∈ss, ∀a,z.2.1=some a→G a.block:=fun z hz a e=>by
    rw[hss] at hz
    obtain⟨k,s,_,hs,rfl⟩:=ssA_mem hz
    have h1:=hLG.se k s hs
    exact h1.onf _ (hown h1.on e).1
   have hon: ∀z∈ss,z.1.on.length≤9223372036854775807:=fun z hz=>by
    rw[hss] at hz
    obtain⟨k,s,_,hs,rfl⟩:=ssA_mem hz
    have:=(hB.se k s hs).2.2
    show(onI s).length≤_
    unfold onI
    rw[List.length_map];omega
   have hsl:ss.length≤1000:=by rw[hss];have:=ssA_len q.l A 5;omega
   have hspr:SpR wV lo ss:=by
    rw[hss]
    refine HG.out.spr (fun z hz=>?_)
    obtain⟨k,s,_,hs,rfl⟩:=ssA_mem hz
    exact(hLG.se k s hs).ir
   have HS:Hid (∀W,Kept G wV W→SpR W lo ss):=fun W t=>hspr.keep t (fun a e h=>h (hlF a e)) (fun z hz a e h=>h (hsF z hz a e))
   have htot:=hLG.hs.tot hK
   have hnq:=hB.nq
   have hw:=hI.wf
   obtain⟨g1,g2⟩:=head_le hw
   rw[←Hhd.out] at g1 g2
   obtain⟨hI2,hfix⟩:=hI.vac (below:=(lv:Nat)) (fun y hy=>by have:=HV.out.1;have:=g2 y hy;omega) (fun k s hs ho hp=>by
    have hk:k<5:=by have:=(List.getElem?_eq_some_iff.1 hs).1;rw[hLG.ln] at this;exact this
    have:=HV.out.2 k s hk hs ho hp
    omega)
   rw[←hfst] at hI2 hfix
   obtain⟨hdist,_⟩:=hLG.hs.dist
   obtain⟨L2,hL2⟩: ∃L2,L2=vacL m (ss.map (·.1)) L:=⟨_,rfl⟩
   have hK2:=hk_vac hK hdist m (ss.map (·.1))
   have hd2:=vac_dist m (ss.map (·.1)) hdist
   rw[←hL2] at hK2 hd2
   have htot2:=hk_fix hK2 hd2 hfix
   have hK3:=hk_vac hK2 hd2 (m.forget (lv:Nat)) (ss.map (·.1))
   obtain⟨L3,hL3⟩: ∃L3,L3=vacL (m.forget (lv:Nat)) (ss.map (·.1)) L2:=⟨_,rfl⟩
   rw[←hL3] at hK3 htot2
   have hK4:HK L3 (fun κ=>needN m (ss.map (·.1)) (K κ)):=⟨fun κ hκ=>by rw[hK3.1 κ hκ];show List.map ver (needN _ _ (needN _ _ _))=_;rw[hfix κ hκ],hK3.2⟩
   have HPV:Hid (∀W,LW f W qb hb mb nq (m.forget (lv:Nat)) L3 q A G→PV f qb hb mb i true W):=fun W hW=>⟨rfl,nq,_,L3,q,A,G,_,hW,hI2,hK4,hB.nq,hB.nx,hB.on,hB.qn,hB.now,hB.wn,hB.se⟩
   have H1:Hid (Calls Tryz.prog 25 #[.pointer (some ⟨hb,0,none⟩)] wV fun x w'=>x= .returned (.int .i64 (totL L:Nat))∧LW f w' qb hb mb nq m L q A G∧Kept G wV w'):=(versions_f hLG.hs (show totL L≤_ by omega)).mono (fun x w' ⟨hx,t⟩=>⟨hx,hLG.no t,t.mono (fun _ _ e=>e.elim)⟩)
   have H2:Hid (∀W,LW f W qb hb mb nq m L q A G→Kept G wV W→Calls Tryz.prog 26 #[.pointer (some ⟨hb,0,none⟩),.slice lo ss.length lc] W fun x w'=>(∃n:Nat,x= .returned (.int .i64 n)∧n+totL L2=totL L)∧LW f w' qb hb mb nq m L2 q A G∧Kept G wV w'):=fun W hW t=>by
    refine(vacuum_h hW.hs (by omega) (by omega) lo lc ss (HS.out W t) hlF hsF hsl hon).mono ?_
    rintro x w' ⟨hx,hh,tt⟩
    rw[←hL2] at hx hh
    exact⟨hx,hW.kept hh tt,t.trans tt (fun _ _ e=>e)⟩
   have H3:Hid (∀W,LW f W qb hb mb nq m L2 q A G→Kept G wV W→Calls Tryz.prog 27 #[.pointer (some ⟨mb,0,none⟩),.int .i64 (lv:Nat)] W fun x w'=>(∃v,x= .returned v)∧LW f w' qb hb mb nq (m.forget (lv:Nat)) L2 q A G∧Kept G wV w'):=fun W hW t=>by
    refine(hs_turn (X:=fun x=>x= .returned (.int .i64 (m.many (lv:Nat)))) hW.hs (fun F' hM=>forget_f mb m W F' hM (lv:Nat))).mono ?_
    rintro x w' ⟨hx,hh,tt⟩
    exact⟨⟨_,hx⟩,hW.kept hh tt,t.trans tt (fun _ _ e=>e)⟩
   have H4:Hid (∀W,LW f W qb hb mb nq (m.forget (lv:Nat)) L2 q A G→Kept G wV W→Calls Tryz.prog 25 #[.pointer (some ⟨hb,0,none⟩)] W fun x w'=>x= .returned (.int .i64 (totL L2:Nat))∧LW f w' qb hb mb nq (m.forget (lv:Nat)) L2 q A G∧Kept G wV w'):=fun W hW t=>by
    have h9:=hW.hs.tot hK2
    refine(versions_f hW.hs (show totL L2≤_ by omega)).mono ?_
    rintro x w' ⟨hx,tt⟩
    exact⟨hx,hW.no tt,t.trans tt (fun _ _ e=>e.elim)⟩
   have H5:Hid (∀W,LW f W qb hb mb nq (m.forget (lv:Nat)) L2 q A G→Kept G wV W→Calls Tryz.prog 26 #[.pointer (some ⟨hb,0,none⟩),.slice lo ss.length lc] W fun x w'=>x= .returned (.int .i64 (0:Nat))∧LW f w' qb hb mb nq (m.forget (lv:Nat)) L3 q A G):=fun W hW t=>by
    have h9:=hW.hs.tot hK2
    refine(vacuum_h hW.hs (by omega) (by omega) lo lc ss (HS.out W t) hlF hsF hsl hon).mono ?_
    rintro x w' ⟨⟨n,hx,hn⟩,hh,tt⟩
    rw[←hL3] at hn hh
    have:n=0:=by omega
    subst this
    exact⟨hx,hW.kept hh tt⟩
   have HMo:Hid (∀ {W:World} {m:Mg} {L:HL},LW f W qb hb mb nq m L q A G→W.cell? ⟨qb,0,none⟩=some (.pointer (some ⟨mb,0,none⟩))∧W.cell? ⟨qb,1,none⟩=some (.pointer (some ⟨hb,0,none⟩))):=fun h=>⟨h.mor.cm,h.mor.ch⟩
   obtain⟨_,a1⟩:=HMo.out hLG
   rw[←hss] at Hll
   obtain⟨sn,hsn⟩: ∃sn,sn=ss.length:=⟨_,rfl⟩
   rw[←hsn] at Hll H2 H5
   have hlls:ll=sn:=Hll.out
   subst hlls
   obtain⟨tt,htt⟩: ∃tt,tt=totL L:=⟨_,rfl⟩
   obtain⟨t2,ht2⟩: ∃t2,t2=totL L2:=⟨_,rfl⟩
   rw[←htt] at H1 H2 htot
   rw[←ht2] at H2 H4
   have htt6:tt≤1000000:=by omega
   clear hss tV hG hLG hI hK hB hi200 hfst hown hlF hsF hon hsl hspr HS htot hnq hw g1 g2 hI2 hfix hdist hL2 hK2 hd2 htot2 hK3 hL3 hK4 hsn htt ht2 HV HG hj hlt hll5
   go_wp2_with fail
   refine H1.out.mono ?_
   rintro x w3 ⟨rfl,h3,k3⟩
   obtain⟨_,a1⟩:=HMo.out h3
   have G3:Hid (LW f w3 qb hb mb nq m L q A G∧Kept G wV w3):=⟨h3,k3⟩
   clear H1 h3 k3
   go_wp2_with fail
   refine(H2.out w3 G3.out.1 G3.out.2).mono ?_
   rintro x w4 ⟨⟨n,rfl,hn⟩,h4,k4⟩
   obtain⟨a0,_⟩:=HMo.out h4
   have G4:Hid (LW f w4 qb hb mb nq m L2 q A G∧Kept G wV w4):=⟨h4,k4⟩
   clear H2 h4 k4 a1
   go_wp2_with fail
   refine(H3.out w4 G4.out.1 G4.out.2).mono ?_
   rintro x w5 ⟨⟨v5,rfl⟩,h5,k5⟩
   obtain⟨_,a1⟩:=HMo.out h5
   have G5:Hid (LW f w5 qb hb mb nq (m.forget (lv:Nat)) L2 q A G∧Kept G wV w5):=⟨h5,k5⟩
   have hn0:(0:Int)≤(n:Int):=by omega
   have heq:(tt:Int) - (n:Int)=(t2:Int):=by omega
   clear H3 h5 k5 a0 hn
   go_wp2_with fail
   refine(H4.out w5 G5.out.1 G5.out.2).mono ?_
   rintro x w6 ⟨rfl,h6,k6⟩
   obtain⟨_,a1⟩:=HMo.out h6
   have G6:Hid (LW f w6 qb hb mb nq (m.forget (lv:Nat)) L2 q A G∧Kept G wV w6):=⟨h6,k6⟩
   have hwp:wrap64 ((tt:Int) - (n:Int))=(t2:Int):=by rw[heq];unfold wrap64;omega
   have hbe:((t2:Int)==(t2:Int))=true:=by simp
   clear H4 h6 k6
   go_wp2_with fail
   refine(H5.out w6 G6.out.1 G6.out.2).mono ?_
   rintro x w7 ⟨rfl,h7⟩
   have H7:Hid (PV f qb hb mb i true w7):=HPV.out w7 h7
   clear H5 h7 a1 HPV
   go_wp2_with fail
   go_ret
   exact⟨rfl,H7.out⟩
section
variable {m m':Mg} {q:Mo} {σ:Nat→Nat} {K K':Nat→List Vn} {g:Nat→Bool}
theorem IL.now (h:IL m q K) {κ:Nat} (hκ:κ<6):
  (getV m ((m.on.headD m.nx:Nat):Int) m.nx (m.on.map Int.ofNat) 0 ((K κ).map ver)=none∧q.now.getD κ 0=0)∨ ∃(n:Nat) (wr:Int),getV m ((m.on.headD m.nx:Nat):Int) m.nx (m.on.map Int.ofNat) 0 ((K κ).map ver)=some ⟨wr,true,1,rowC n⟩∧q.now.getD κ 0=n+1:=by
 have hw:=h.wf
 obtain⟨m',K',σ,g,hI,hG,hL⟩:=h
 obtain⟨cm,o,cm0,h1,h2,h3⟩:=hL.key κ hκ
 have hsee: ∀v∈K κ,m.sees ((m.on.headD m.nx:Nat):Int) m.nx (m.on.map Int.ofNat) 0 v.wr=(m'.state v.wr==3):=fun v hv=>by
  obtain⟨t,i,hf⟩:=h3.has v hv
  rcases hL.st hκ hv with⟨e0,_,e2⟩|⟨⟨r,e0,e1⟩,e2⟩
  ·have hg:=(hG.gone hI.wf hf).1 e0
   have b1:=hG.bo t (fnd_mem hf).1 hg
   rw[←hG.on] at b1
   have b2:=last_lt hI.wf (fnd_mem hf).1
   rw[←hG.nx] at b2
   have b3:=le_last hI.wf hf
   have b4:=(hI.wf.fnd_lt hf).1
   have hlt:(v.wr:Int)<(m.on.headD m.nx:Nat):=by
    cases hc:m.on with
    |nil=>show(v.wr:Int)<(m.nx:Nat);omega
    |cons a r=>rw[hc] at b1;have:=b1 a List.mem_cons_self;show(v.wr:Int)<(a:Nat);omega
   unfold Mg.sees
   rw[e0,e2]
   simp only[decide_eq_true hlt,decide_eq_true b4];rfl
  ·rw[hf] at e1
   injection e1 with e1
   subst e1
   unfold Mg.sees
   rw[e0,zero_none hw]
   have hst:m'.state v.wr=stE (some (t,i)):=by unfold Mg.state;rw[hf]
   rw[hst]
   simp only[sameTx]
   have htm:=(fnd_mem e0).1
   have hlo:=(hw.lo t htm).2
   have hmem:((t.x:Int)∈m.on.map Int.ofNat) ↔ t.st<3:=by
    rw[hw.on]
    simp only[List.mem_map,List.mem_filter,decide_eq_true_eq]
    constructor
    ·rintro⟨a,⟨u,⟨hu,hs⟩,rfl⟩,e⟩
     have e:u.x=t.x:=by injection e
     have:=hw.uniq u hu t htm e
     rw[←this];exact hs
    ·exact fun hs=>⟨t.x,⟨t,⟨htm,hs⟩,rfl⟩,rfl⟩
   by_cases e3:stE (some (t,i))=3
   ·have hs3: ¬t.st<3:=by
     rw[stE_eq] at e3
     split at e3<;>omega
    rw[e3]
    have hn: ¬(t.x:Int)∈m.on.map Int.ofNat:=fun e=>hs3 (hmem.1 e)
    simp[hn,hlo]
   ·simp[e3]
 have hfl:(K κ).filter (fun v=>m.sees ((m.on.headD m.nx:Nat):Int) m.nx (m.on.map Int.ofNat) 0 v.wr)=cm0.map (·.1):=by
  rw[List.filter_congr hsee]
  have e1:(K κ).filter (fun v=>m'.state v.wr==3)=((K κ).filter (fun v=>m'.state v.wr !=4)).filter (fun v=>m'.state v.wr==3):=by
   rw[List.filter_filter]
   refine List.filter_congr (fun v _=>?_)
   by_cases e:m'.state v.wr=3
   ·rw[e];rfl
   ·rw[beq_eq_false_iff_ne.2 e];rfl
  have hO:(ownO q o κ).filter (fun v=>m'.state v.wr==3)=[]:=List.filter_eq_nil_iff.2 (fun v hv=>by
   have:=hI.own12 h3.ow v hv
   simp only[beq_iff_eq];omega)
  rw[e1,h3.eq,List.filter_append,hO,List.append_nil]
  exact List.filter_eq_self.2 (fun v hv=>by rw[(h3.co.1 v hv).1];rfl)
 have hv:lastV (cm0.map (·.1))=q.now.getD κ 0:=by
  rw[h1.now]
  unfold lastV
  rw[List.getLast?_map,List.getLast?_map]
  rcases h2.nw with e|⟨e,p,e2,e3,_⟩
  ·rw[e]
  ·rw[e,e2]
   show 0=p.1.val
   unfold Vn.val
   rw[e3];rfl
 rw[←hfl] at hv
 have hr:((K κ).map ver).reverse.find? (fun v=>m.sees ((m.on.headD m.nx:Nat):Int) m.nx (m.on.map Int.ofNat) 0 v.wr)=(((K κ).filter (fun v=>m.sees ((m.on.headD m.nx:Nat):Int) m.nx (m.on.map Int.ofNat) 0 v.wr)).getLast?).map ver:=find_last9 (K κ) ver _
 unfold getV
 rw[hr]
 unfold lastV at hv
 cases hl:((K κ).filter (fun v=>m.sees ((m.on.headD m.nx:Nat):Int) m.nx (m.on.map Int.ofNat) 0 v.wr)).getLast? with
 |none=>rw[hl] at hv;exact Or.inl ⟨rfl,hv.symm⟩
 |some v=>
  rw[hl] at hv
  have hv:v.val=q.now.getD κ 0:=hv
  unfold Vn.val at hv
  simp only[Option.map_some,ver]
  cases hg:v.gone with
  |true=>
   rw[hg] at hv
   exact Or.inl ⟨rfl,hv.symm⟩
  |false=>
   rw[hg] at hv
   exact Or.inr ⟨v.n,v.wr,rfl,hv.symm⟩
end
set_option maxRecDepth 100000
structure Dn where
 fr:Nat
 to:Nat
 ks:Nat→Bool
section
variable {i nq k kd:Nat} {m:Mg} {q q':Mo} {s:Se} {bg:Nat→Nat} {l:List Dn} {K:Nat→List Vn} {σ:Nat→Nat}
end
section
variable {f f':Fr} {w w':World} {qb hb mb nq:Nat} {m:Mg} {L:HL} {q:Mo} {A:Nat→Sx} {F:Nat→Prop}
end
end Go.Proofs.YtppokgdofgigfaaGreat.F
