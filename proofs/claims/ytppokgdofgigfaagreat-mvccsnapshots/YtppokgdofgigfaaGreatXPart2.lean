import Derived.Test.YtppokgdofgigfaaGreatFlo
import Derived.Test.YtppokgdofgigfaaGreatQTail
set_option maxHeartbeats 2000000
set_option maxRecDepth 100000
namespace Go.Proofs.YtppokgdofgigfaaGreat
set_option maxRecDepth 100000
open Go
def headV (P:Program) (md:Region.Mode) (ops:Array Oper) (S:List Nat) (C:List Value→World→Prop) (n:Nat) (L:Array Bool→List Value→Act→Prop):Nat→Array Bool→List Value→Act→Prop
 |0,listed,s,a=>L listed s a
 |f+1,listed,s,a=>Region.ready md ops listed≠[]∧ ∀i∈Region.ready md ops listed,i<n∧vOp P ops S C i (headV P md ops S C n L f (listed.setIfInBounds i true)) s a
theorem headV_any {P:Program} {ops:Array Oper} {md:Region.Mode} {S:List Nat} {C:List Value→World→Prop} {n g:Nat} {L:Array Bool→List Value→Act→Prop} {Q':Exit→Act→World→Prop} (hL: ∀listed s a w,C s w→L listed s a→wpAny P md ops Q' g listed a w) (f:Nat):
  ∀(listed:Array Bool) (s:List Value) (a:Act) (w:World),C s w→headV P md ops S C n L f listed s a→wpAny P md ops Q' (f+g) listed a w:=by
 induction f with
 |zero=>intro listed s a w hw h;rw[Nat.zero_add];exact hL _ _ _ _ hw h
 |succ f ih=>
  intro listed s a w hw h
  rw[Nat.succ_add]
  exact⟨fun h0=>absurd h0 h.1,fun i hi=>wpOp_of_vOp hw (fun s' a' w' hw' h'=>ih _ s' a' w' hw' h') (h.2 i hi).2⟩
theorem headV_first {P:Program} {ops:Array Oper} {md:Region.Mode} {S:List Nat} {C:List Value→World→Prop} {n i:Nat} {oi:Oper} {v:Value} {L:Array Bool→List Value→Act→Prop} (hi:ops[i]? =some oi) (hsi:S.contains i=false) (hsel: ∀(j:Nat) (o:Oper) cs b,ops[j]? =some o→o.op≠ .select cs b)
  (hs:Region.sinkB md ops n=true) (hc:Region.chainB md ops n=true) (hn:n<ops.size) (hin:i<n)
  (hdone: ∀listed s a,L listed s a→ ∀j∈Region.ready md ops listed,n≤j) (f:Nat):
  ∀(listed:Array Bool) (s:List Value) (a:Act),HeadInv md ops n listed→
   (∀j oj,ops[j]? =some oj→j≠i→listed.getD j true=false→(∀e∈oj.after,Region.binds md e=true→e.on≠i)→oi.apart ops oj=true)→
   i∈Region.ready md ops listed→YR P ops C oi v s a→
   headV P md ops S C n L f (listed.setIfInBounds i true) s (a.put oi.dst v)→headV P md ops S C n L (f+1) listed s a:=by
 have low: ∀(listed:Array Bool),HeadInv md ops n listed→i∈Region.ready md ops listed→ ∀j∈Region.ready md ops listed,j<n:=by
  intro listed inv hr j hj
  rcases Nat.lt_or_ge j n with h|h
  ·exact h
  ·exact absurd hj (tail_waits hs hc hn inv _ i rfl hin (mem_ready.1 hr).1 j h)
 have ne: ∀(listed:Array Bool),i∈Region.ready md ops listed→Region.ready md ops listed≠[]:=fun listed hr h=>by rw[h] at hr;cases hr
 induction f with
 |zero=>
  intro listed s a inv _ hr hy H
  refine⟨ne _ hr,fun j hj=>⟨low _ inv hr j hj,?_⟩⟩
  by_cases hji:j=i
  ·subst hji;exact hy.vOp hi hsi H
  ·have h1:=hdone _ _ _ H j (ready_mono hj hji)
   have h2:=low _ inv hr j hj
   omega
 |succ f ih=>
  intro listed s a inv hfree hr hy H
  refine⟨ne _ hr,fun j hj=>⟨low _ inv hr j hj,?_⟩⟩
  by_cases hji:j=i
  ·subst hji;exact hy.vOp hi hsi H
  ·obtain⟨hjun,oj,hoj,hall⟩:=mem_ready.1 hj
   have hnot: ∀e∈oj.after,Region.binds md e=true→e.on≠i:=fun e he hb heq=>by
    have h1:=hall e he hb
    rw[heq,getD_both (mem_ready.1 hr).1] at h1
    cases h1
   obtain⟨h1,h2,h3⟩:=Oper.apart_spec (hfree j oj hoj hji hjun hnot)
   refine vOp_put hoj (execOp_put oj (fun cs b=>hsel j oj cs b hoj) a oi.dst v h1).symm (wanted_put oj a oi.dst v h1).symm (H.2 j (ready_mono hj hji)).2 (fun t u hn'=>?_)
   refine ih (listed.setIfInBounds j true) (s++t) (a.put oj.dst u) (inv.set hj (low _ inv hr j hj)) (fun m om hm hmi hun hno=>hfree m om hm hmi ?_ hno) (ready_mono hr (Ne.symm hji)) ?_ ?_
   ·by_cases hjm:j=m
    ·subst hjm;exact hjun
    ·rwa [getD_set_ne true hjm] at hun
   ·exact hy.keep (execOp_put oi (fun cs b=>hsel i oi cs b hi) a oj.dst u h3) (wanted_put oi a oj.dst u h3) t
   ·rw[Array.setIfInBounds_comm _ _ hji, ←Act.put_comm a v u h2]
    exact hn'
def wpOrd (P:Program) (ops:Array Oper) (S:List Nat) (C:List Value→World→Prop) (Lq:List Value→Act→Prop):List Nat→List Value→Act→Prop
 |[],s,a=>Lq s a
 |i::r,s,a=>vOp P ops S C i (wpOrd P ops S C Lq r) s a
def ordB (md:Region.Mode) (ops:Array Oper) (S:List Nat) (n g:Nat):List Nat→Array Bool→Bool
 |[],listed=>Region.seqB md ops g n listed
 |i::r,listed=>decide (i<n) && (Region.ready md ops listed).contains i && (if S.contains i then Region.ready md ops listed==[i] else Region.free md ops listed i) && ordB md ops S n g r (listed.setIfInBounds i true)
theorem headV_ord {P:Program} {ops:Array Oper} {md:Region.Mode} {S:List Nat} {C:List Value→World→Prop} {n g:Nat} {Lq:List Value→Act→Prop} (hsel:Region.noSelect ops=true) (hs:Region.sinkB md ops n=true) (hc:Region.chainB md ops n=true) (hn:n<ops.size) (ord:List Nat):
  ∀(listed:Array Bool) (s:List Value) (a:Act),HeadInv md ops n listed→ordB md ops S n g ord listed=true→wpOrd P ops S C Lq ord s a→
  headV P md ops S C n (fun listed' s' a'=>Region.seqB md ops g n listed'=true∧Lq s' a') ord.length listed s a:=by
 induction ord with
 |nil=>intro listed s a _ hB h;exact⟨hB,h⟩
 |cons i r ih=>
  intro listed s a inv hB h
  simp only[ordB,Bool.and_eq_true,decide_eq_true_eq] at hB
  obtain⟨⟨⟨hin,hrd⟩,hF⟩,hB⟩:=hB
  have hr:i∈Region.ready md ops listed:=by simpa using hrd
  obtain⟨_,oi,hi,_⟩:=mem_ready.1 hr
  have inv':=inv.set hr hin
  by_cases hSi:S.contains i=true
  ·rw[if_pos hSi] at hF
   have hrd1:Region.ready md ops listed=[i]:=by simpa using hF
   refine⟨by rw[hrd1];simp,fun j hj=>?_⟩
   rw[hrd1] at hj
   obtain rfl:j=i:=by simpa using hj
   exact⟨hin,vOp_mono (fun s' a' h'=>ih _ s' a' inv' hB h') h⟩
  ·rw[if_neg hSi] at hF
   have hsf:S.contains i=false:=by simpa using hSi
   obtain⟨v,hy,hK⟩:=yr_of_vOp hi hsf h
   exact headV_first hi hsf (Region.noSelect_spec hsel) hs hc hn hin (fun listed' s' a' hL=>seqB_ready hL.1) r.length listed s a inv (Region.free_spec hi hF) hr hy (ih _ _ _ inv' hB hK)
def ordTailB (md:Region.Mode) (ops:Array Oper) (S:List Nat) (n:Nat) (ord:List Nat):Bool:=
 Region.noSelect ops && decide (n<ops.size) && Region.sinkB md ops n && Region.chainB md ops n && decide (ord.length=n) && ordB md ops S n (ops.size - n) ord (Array.replicate ops.size false)
theorem wp_region_ordv {P:Program} {id:Nat} {Q:Exit→Act→World→Prop} {a:Act} {w:World} {l:List Oper} (S:List Nat) (C:List Value→World→Prop) (n:Nat) (ord:List Nat) (hm:P.follows .mixedOrders=true) (hB:ordTailB .any l.toArray S n ord=true) (hC:C [] w.drew)
  (h:wpOrd P l.toArray S C (fun s a'=> ∀w',C s w'→wpList P l.toArray Q (l.drop n) a' w') ord [] a):(Code.region id l.toArray true).wp P Q a w:=by
 simp only[ordTailB,Bool.and_eq_true,decide_eq_true_eq] at hB
 obtain⟨⟨⟨⟨⟨hsel,hn⟩,hs⟩,hc⟩,hlen⟩,hord⟩:=hB
 have hdl:(l.drop n).length=l.toArray.size - n:=by simp
 have inv0:HeadInv .any l.toArray n (Array.replicate l.toArray.size false):=
  ⟨by simp,fun j oj _ hl=>(by rw[getD_replicate_false] at hl;cases hl),fun t _ ht=>getD_in (by simpa using ht) (getD_replicate_false _ _)⟩
 have H:=headV_ord (md:= .any) (g:=l.toArray.size - n) hsel hs hc hn ord _ [] a inv0 hord h
 refine wp_region_any hm ?_
 have:=headV_any (Q':=Q) (g:=l.toArray.size - n) (fun listed s a' w' hw hL=>by
  have:=wpAny_of_seq (md:= .any) (Q':=Q) (l.drop n) n listed a' w' (fun j=>by simp[List.getElem?_drop]) (by rw[hdl];exact hL.1) (hL.2 w' hw)
  rwa [hdl] at this) _ _ _ _ _ hC H
 rw[hlen,show n+(l.toArray.size - n)=l.toArray.size by omega] at this
 exact this
theorem ordv_nil {P:Program} {ops:Array Oper} {S:List Nat} {C:List Value→World→Prop} {Lq:List Value→Act→Prop} {s:List Value} {a:Act} (h:Lq s a):wpOrd P ops S C Lq [] s a:=h
theorem ordv_read {P:Program} {ops:Array Oper} {S:List Nat} {C:List Value→World→Prop} {Lq:List Value→Act→Prop} {i:Nat} {o:Oper} {r:List Nat} {s:List Value} {a:Act} (hi:ops[i]? =some o) (hw:Region.wanted o (yielded ops a.tmps)=true) (hs:S.contains i=false)
  (h: ∃v,(∀s' W,C (s++s') W→YS P o a (C (s++s')) W v)∧ ∀K:Act→Prop,(∀a,wpOrd P ops S C Lq r s a→K a)→K (a.put o.dst v)):wpOrd P ops S C Lq (i::r) s a:=by
 obtain⟨v,h1,h2⟩:=h
 unfold wpOrd vOp
 simp only[hi]
 rw[if_pos hw,if_neg (by rw[hs];exact Bool.false_ne_true)]
 exact⟨v,h1,h2 _ (fun _ h=>h)⟩
theorem ordv_turn {P:Program} {ops:Array Oper} {S:List Nat} {C:List Value→World→Prop} {Lq:List Value→Act→Prop} {i:Nat} {o:Oper} {r:List Nat} {s:List Value} {a:Act} (hi:ops[i]? =some o) (hw:Region.wanted o (yielded ops a.tmps)=true) (hs:S.contains i=true)
  (h1: ∀W,C s W→YV P o a (fun v=>C (s++[v])) W) (h2: ∀v,(∃W',C (s++[v]) W')→ ∀K:Act→Prop,(∀a,wpOrd P ops S C Lq r (s++[v]) a→K a)→K (a.put o.dst v)):wpOrd P ops S C Lq (i::r) s a:=by
 unfold wpOrd vOp
 simp only[hi]
 rw[if_pos hw,if_pos hs]
 exact⟨h1,fun v hv=>h2 v hv _ (fun _ h=>h)⟩
theorem yv_append {P:Program} {o:Oper} {a:Act} {W:World} {C:Value→World→Prop} (s x:Operand) (t:TypeId) (ho:o.op= .call { callee:= .builtin .append,args:=#[s,x],argTypes:=#[t,t] }) (v sl:Value) (hs:a.eval s=v) (hx:a.eval x=sl) {v':Value} {w':World}
  (hr:(Builtin.append_ #[t,t] o.type #[v,sl]).run P W= .ok v' w') (hC:C v' w'):YV P o a C W:=by
 intro b K Q hK
 unfold execOp
 simp only[ho,resolve,invoke,builtin,Sem.run_bind,Sem.run_pure,Result.andThen_ok,List.map_toArray,List.map_cons,List.map_nil,hs,hx,hr]
 exact hK _ _ hC
end Go.Proofs.YtppokgdofgigfaaGreat
namespace Go.Proofs.YtppokgdofgigfaaGreat
open Go.RowKit Go Go.Sort
theorem info_part:(Tryz.prog.info? 151).map (fun i=>(i.zero,i.size,i.bytes))=some (some (.agg #[.int .i64 0,.int .i64 0,.int .i64 0]),3,24):=by kernel_rfl
theorem within_begin (mb nn tb n:Nat) (D:DataW Unit) (k i:Int) (xv sv pv:Value) (xs:List Value) (w:World) (hD:w.ownsMap Tryz.prog 3 numElem mb nn D) (hn:nn≤2147483648) (h1: -9223372036854775808≤k) (h2:k≤9223372036854775807)
  (hX:w.heap[tb]? =some (.cells #[xv,sv,pv] 119 (0,0))) (hP:w.ownsRow 0 151 3 pv n xs) (hn6:n≤64):
  Calls Tryz.prog 70 #[.map (some mb),.agg #[.pointer (some ⟨tb,0,none⟩),.int .i64 i],.int .i64 k] w fun x w'=>x= .returned (.tuple #[])∧ ∃v',w'.ownsMap Tryz.prog 3 numElem mb (nn+1) (D.put (.int .i64 k) (encN (tb,n)))∧w'.heap[tb]? =some (.cells #[xv,sv,v'] 119 (0,0))∧w'.ownsRow 0 151 3 v' (n+1) (xs++[.int .i64 k,.int .i64 i,.int .i64 0])∧(v'.ownBlock=pv.ownBlock∨ ∃g,v'.ownBlock=some g∧w.heap.size≤g)∧Tch (fun j=>j=mb∨j=tb∨pv.ownBlock=some j) w w':=by
 obtain⟨i0,hi0,hz0,hz1,hz2⟩:=info_parts info_part
 have htl:=blk_lt hX
 have hml:=hD.lt
 have hmt:mb≠tb:=fun e=>by
  obtain⟨es,clock,hh,_⟩:=hD
  rw[e,hX] at hh
  cases hh
 have hpt: ∀g,pv.ownBlock=some g→g≠tb:=fun g hg e=>by
  obtain⟨cur,hc⟩:=own_blk hP hg
  rw[e,hX] at hc
  cases hc
 have hpm: ∀g,pv.ownBlock=some g→g≠mb:=fun g hg e=>by
  obtain⟨cur,hc⟩:=own_blk hP hg
  obtain⟨es,clock,hh,_⟩:=hD
  rw[e,hh] at hc
  cases hc
 have hpl: ∀g,pv.ownBlock=some g→g<w.heap.size:=fun g hg=>by
  obtain⟨cur,hc⟩:=own_blk hP hg
  exact blk_lt hc
 obtain⟨N,hN⟩: ∃N,N=w.heap.size:=⟨_,rfl⟩
 obtain⟨w0,hw0⟩: ∃w0,w0=w.alloc (.cells #[.pointer (some ⟨tb,0,none⟩),.int .i64 i] 121):=⟨_,rfl⟩
 have t0:Tch (fun _=>False) w w0:=by rw[hw0];exact Tch.alloc _ _ _
 have hb0:w0.heap[N]? =some (.cells #[.pointer (some ⟨tb,0,none⟩),.int .i64 i] 121 (0,0)):=by rw[hw0,hN];exact alloc_new _ _
 obtain⟨po,pc,rfl⟩:=row_slice hP
 have hX0:=(t0.block tb htl (fun h=>h)).trans hX
 have c2:w0.cell? ⟨tb,2,none⟩=some (.slice po n pc):=by rw[blk_cell hX0];rfl
 have hP0:=own_tch hP t0 (fun _ _ h=>h)
 obtain⟨w1,hrun,hD1,hg1⟩:=(ownsMap_tch hD t0 (fun h=>h)).update law_int Tryz.underlying81 (by unfold maxLen;omega) (Maps.keyOf_int_mk Tryz.underlying3 (int_wf h1 h2)) (numElem_some tb n)
 have t1:Tch (fun j=>j=mb) w0 w1:=Tch.of_grown hg1 (fun g hg=>by cases hg;rfl)
 have hs0:w0.heap.size=N+1:=by rw[hw0,hN];simp
 have hX1:=(t1.block tb (blk_lt hX0) (fun e=>hmt e.symm)).trans hX0
 have hb1:=(t1.block N (blk_lt hb0) (by omega)).trans hb0
 have hP1:=own_tch hP0 t1 hpm
 rw[hw0] at hrun c2
 simp only[numV] at hrun
 have HS:Hid (∀W,Tch (fun j=>(Value.slice po n pc).ownBlock=some j) w1 W→W.heap[tb]? =some (.cells #[xv,sv,.slice po n pc] 119 (0,0))∧W.cell? ⟨N,1,none⟩=some (.int .i64 i)):=fun W tW=>by
  have hl:N<w1.heap.size:=blk_lt hb1
  have h1:=(tW.block tb (blk_lt hX1) (fun e=>hpt tb e rfl)).trans hX1
  have h2:=(tW.block N hl (fun e=>by have:=hpl N e;omega)).trans hb1
  exact⟨h1,by rw[blk_cell h2];rfl⟩
 have HP1:Hid _:=hP1
 have HD1:Hid _:=hD1
 have HG:Hid (Tch (fun j=>j=mb∨j=tb∨(Value.slice po n pc).ownBlock=some j) w w1∧w.heap.size≤w1.heap.size∧mb≠tb∧(∀g,(Value.slice po n pc).ownBlock=some g→g≠tb)∧(∀g,(Value.slice po n pc).ownBlock=some g→g≠mb)∧tb<w.heap.size):=⟨(t0.mono (fun _ _ h=>h.elim)).trans (t1.mono (fun j _ e=>Or.inl e)) (fun _ _ h=>h),Nat.le_trans t0.size t1.size,hmt,hpt,hpm,htl⟩
 have HN:Hid (N=w.heap.size):=hN
 clear hX hP hD hpt hpm hpl hP0 hX0 hX1 hb0 hb1 hD1 hg1 t0 t1 hP1 hmt hml htl hN hw0 hs0
 go_enter Tryz.func70,Tryz.ntmps70
 go_wp2_with fail
 rw[←HN.out]
 clear c2 hrun
 obtain⟨C,hC⟩: ∃C:List Value→World→Prop,C=fun s W=>match s with
  |[]=>Tch (fun _=>False) w1 W
  |[y]=>Tch (fun _=>False) w1 W∧ ∃g,y= .slice (some ⟨g,0,none⟩) 1 1∧ ∀j u,([.int .i64 k,.int .i64 i,.int .i64 0]:List Value)[j]? =some u→W.cell? ((⟨g,0,none⟩:Addr).add j)=some u
  |[_,z]=>Tch (fun j=>(Value.slice po n pc).ownBlock=some j) w1 W∧ ∃o5 c5,z= .slice o5 (n+1) c5∧W.ownsRow 0 151 3 z (n+1) (xs++[.int .i64 k,.int .i64 i,.int .i64 0])∧(z.ownBlock=(Value.slice po n pc).ownBlock∨ ∃g,z.ownBlock=some g∧w1.heap.size≤g)
  |_=>False:=⟨_,rfl⟩
 have hK: ∀s W,C s W→W.cell? ⟨tb,2,none⟩=some (.slice po n pc)∧W.cell? ⟨N,1,none⟩=some (.int .i64 i):=fun s W h=>by
  have hT:Tch (fun j=>(Value.slice po n pc).ownBlock=some j) w1 W:=by
   rw[hC] at h
   match s,h with
   |[],h=>exact h.mono (fun _ _ h=>h.elim)
   |[_],h=>exact h.1.mono (fun _ _ h=>h.elim)
   |[_,_],h=>exact h.1
  obtain⟨h1,h2⟩:=HS.out W hT
  exact⟨by rw[blk_cell h1];rfl,h2⟩
 have h6: ∀W,C [] W→C [.slice (some ⟨W.heap.size,0,none⟩) 1 1] (W.alloc (.cells #[.int .i64 k,.int .i64 i,.int .i64 0] 151)):=fun W h=>by
  rw[hC] at h ⊢
  refine⟨Tch.allocR h _,W.heap.size,rfl,fun j u hu=>?_⟩
  rw[add_plain,blk_cell (alloc_new _ _)]
  simpa using hu
 have h7: ∀g W,C [.slice (some ⟨g,0,none⟩) 1 1] W→ ∃o5 c5 w',(Builtin.append_ #[117,117] 117 #[.slice po n pc,.slice (some ⟨g,0,none⟩) 1 1]).run Tryz.prog W= .ok (.slice o5 (n+1) c5) w'∧C [.slice (some ⟨g,0,none⟩) 1 1,.slice o5 (n+1) c5] w':=fun g W h=>by
  rw[hC] at h
  obtain⟨tW,g',e,hg⟩:=h
  have e':g=g':=by simpa using e
  subst e'
  obtain⟨v',w',hr,hown,hgr,hat,_⟩:=run_append_keeps (P:=Tryz.prog) W 0 117 117 151 i0 (.agg #[.int .i64 0,.int .i64 0,.int .i64 0]) 3 24 Tryz.underlying117 hi0 hz0 hz1 hz2 rfl (by decide) (.slice po n pc) n xs (own_tch HP1.out tW (fun _ _ h=>h)) ⟨g,0,none⟩ 1 1 [.int .i64 k,.int .i64 i,.int .i64 0] rfl hg (by simp[Value.oneCell']) (by unfold maxLen;omega) (by omega) (Nat.zero_le _)
  obtain⟨o5,c5,rfl⟩:=row_slice hown
  refine⟨o5,c5,w',hr,?_⟩
  rw[hC]
  exact⟨(tW.mono (fun _ _ h=>h.elim)).trans' (grown_at (Tch.refl (fun _=>False) W) hgr),o5,c5,rfl,hown,hat.imp id (fun e=>⟨_,e,tW.size⟩)⟩
 have h0':C [] w1.drew:=by rw[hC];exact(Tch.refl _ _).drew
 have hsh1: ∀y W,C [y] W→ ∃g,y= .slice (some ⟨g,0,none⟩) 1 1:=fun y W h=>by
  rw[hC] at h
  obtain⟨_,g,e,_⟩:=h
  exact⟨g,e⟩
 have hsh2: ∀y z W,C [y,z] W→ ∃o5 c5,z= .slice o5 (n+1) c5:=fun y z W h=>by
  rw[hC] at h
  obtain⟨_,o5,c5,e,_⟩:=h
  exact⟨o5,c5,e⟩
 have Hfin:Hid (∀y z W,C [y,z] W→Tch (fun j=>(Value.slice po n pc).ownBlock=some j) w1 W∧W.ownsRow 0 151 3 z (n+1) (xs++[.int .i64 k,.int .i64 i,.int .i64 0])∧(z.ownBlock=(Value.slice po n pc).ownBlock∨ ∃g,z.ownBlock=some g∧w1.heap.size≤g)):=fun y z W h=>by
  rw[hC] at h
  obtain⟨h1,_,_,_,h2,h3⟩:=h
  exact⟨h1,h2,h3⟩
 clear hC
 refine wp_region_ordv [9,10] C 11 [0,1,2,3,4,5,6,7,8,9,10] (by kernel_rfl) (by kernel_rfl) h0' ?_
 clear h0'
 iterate 9
  refine ordv_read rfl (by go_simp) (by rfl) ?_
  apply Exists.intro
  refine⟨fun s' W hW b K Q hK'=>?_,fun K hK'=>?_⟩
  ·obtain⟨q0,x0⟩:=hK _ W hW
   go_simp
   exact hK' W hW
  go_simp
  refine hK' _ ?_
  clear hK' K
 refine ordv_turn rfl (by go_simp) (by rfl) (fun W hW b K Q hK'=>?_) (fun u hu K hK'=>?_)
 ·go_simp
  exact hK' _ _ (h6 W hW)
 obtain⟨g,rfl⟩: ∃g,u= .slice (some ⟨g,0,none⟩) 1 1:=by
  obtain⟨W',hW'⟩:=hu
  exact hsh1 u W' hW'
 clear hu h6
 go_simp
 refine hK' _ ?_
 clear hK' K
 refine ordv_turn rfl (by go_simp) (by rfl) (fun W hW=>?_) (fun u hu K hK'=>?_)
 ·obtain⟨to',tc',w',hr,h1⟩:=h7 g W hW
  exact yv_append (.tmp 22) (.tmp 27) 117 rfl (.slice po n pc) (.slice (some ⟨g,0,none⟩) 1 1) rfl rfl hr h1
 obtain⟨o5,c5,rfl⟩: ∃o5 c5,u= .slice o5 (n+1) c5:=by
  obtain⟨W',hW'⟩:=hu
  exact hsh2 _ u W' hW'
 clear hu h7 hsh1 hsh2
 go_simp
 refine hK' _ ?_
 clear hK' K
 refine ordv_nil ?_
 intro w5 hw5
 obtain⟨T5,hO5,hat5⟩:=Hfin.out _ _ w5 hw5
 obtain⟨hX5,_⟩:=HS.out w5 T5
 have c2:w5.cell? ⟨tb,2,none⟩=some (.slice po n pc):=by rw[blk_cell hX5];rfl
 have f2:=blk_frozen hX5 2
 obtain⟨tw,hsw,hmt,hpt,hpm,htl⟩:=HG.out
 have tE:Tch (fun j=>j=tb) w5 (w5.setCell ⟨tb,2,none⟩ (.slice o5 (n+1) c5)):=Tch.setCell _ _ _ _ rfl
 have HEnd:Hid (∃v',(w5.setCell ⟨tb,2,none⟩ (.slice o5 (n+1) c5)).ownsMap Tryz.prog 3 numElem mb (nn+1) (D.put (.int .i64 k) (encN (tb,n)))∧(w5.setCell ⟨tb,2,none⟩ (.slice o5 (n+1) c5)).heap[tb]? =some (.cells #[xv,sv,v'] 119 (0,0))∧(w5.setCell ⟨tb,2,none⟩ (.slice o5 (n+1) c5)).ownsRow 0 151 3 v' (n+1) (xs++[.int .i64 k,.int .i64 i,.int .i64 0])∧(v'.ownBlock=(Value.slice po n pc).ownBlock∨ ∃g,v'.ownBlock=some g∧w.heap.size≤g)∧Tch (fun j=>j=mb∨j=tb∨(Value.slice po n pc).ownBlock=some j) w (w5.setCell ⟨tb,2,none⟩ (.slice o5 (n+1) c5))):=by
  refine⟨.slice o5 (n+1) c5,ownsMap_tch (ownsMap_tch HD1.out T5 (fun e=>hpm mb e rfl)) tE hmt,blk_set hX5 _,own_tch hO5 tE (fun g hg e=>?_),hat5.imp id (fun⟨g,h1,h2⟩=>⟨g,h1,by omega⟩),(tw.trans T5 (fun j _ e=>Or.inr (Or.inr e))).trans tE (fun j _ e=>Or.inr (Or.inl e))⟩
  rcases hat5 with e1|⟨g',e1,e2⟩
  ·rw[e1] at hg;exact hpt g hg e
  ·rw[e1] at hg
   injection hg with hg
   omega
 clear hK hw5 Hfin hX5 T5 hO5 hat5 tw hsw hmt hpt hpm htl tE
 go_wp2_with fail
 go_end0
 exact⟨rfl,HEnd.out⟩
def addP (p:Pt) (t:Tx):Tx:= { t with ps:=t.ps++[p] }
def Mg.part (m:Mg) (t:Tx) (i:Int):Mg:=⟨m.nx+1,m.on,upd m.tx t.x (addP ⟨m.nx,i,0⟩)⟩
theorem mem_upd {L:List Tx} {x:Nat} {f:Tx→Tx} {u:Tx} (h:u∈upd L x f): ∃t∈L,u=if t.x=x then f t else t:=by
 obtain⟨t,ht,e⟩:=List.mem_map.1 h
 exact⟨t,ht,e.symm⟩
theorem upd_filter (L:List Tx) (x:Nat) (f:Tx→Tx) (hx: ∀t,(f t).x=t.x) (hs: ∀t,(f t).st=t.st):((upd L x f).filter (fun t=>t.st<3)).map (·.x)=(L.filter (fun t=>t.st<3)).map (·.x):=by
 induction L with
 |nil=>rfl
 |cons t r ih=>
  simp only[upd,List.map_cons,List.filter_cons] at ih ⊢
  by_cases h:t.x=x
  ·simp only[if_pos h,hs]
   by_cases h2:t.st<3
   ·simp[h2,hx,ih]
   ·simp[h2,ih]
  ·simp only[if_neg h]
   by_cases h2:t.st<3
   ·simp[h2,ih]
   ·simp[h2,ih]
theorem Wf.uniq {m:Mg} (h:Wf m): ∀t∈m.tx, ∀u∈m.tx,t.x=u.x→t=u:=by
 have key: ∀L:List Tx,L.Pairwise (fun t u=>t.x<u.x)→ ∀t∈L, ∀u∈L,t.x=u.x→t=u:=by
  intro L
  induction L with
  |nil=>intro _ t ht;cases ht
  |cons a r ih=>
   intro hp t ht u hu e
   obtain⟨h1,h2⟩:=List.pairwise_cons.1 hp
   rcases List.mem_cons.1 ht with e1|ht'<;>rcases List.mem_cons.1 hu with e2|hu'
   ·rw[e1,e2]
   ·have:=h1 u hu';rw[←e1] at this;omega
   ·have:=h1 t ht';rw[←e2] at this;omega
   ·exact ih h2 t ht' u hu' e
 exact key m.tx h.up
theorem Wf.part {m:Mg} (h:Wf m) {t:Tx} (ht:t∈m.tx) {i:Int} (hi: -1≤i∧i<t.ps.length) (hn:m.nx≤2147483647) (hl:t.ps.length<64):Wf (m.part t i):=by
 have n1:=h.n1
 have hm: ∀u∈(m.part t i).tx, ∃u0∈m.tx,(u=u0∧u0.x≠t.x)∨(u0=t∧u=addP ⟨m.nx,i,0⟩ t):=fun u hu=>by
  obtain⟨u0,hu0,e⟩:=mem_upd hu
  refine⟨u0,hu0,?_⟩
  by_cases hx:u0.x=t.x
  ·rw[if_pos hx] at e
   have:=h.uniq u0 hu0 t ht hx
   subst this
   exact Or.inr ⟨rfl,e⟩
  ·rw[if_neg hx] at e
   exact Or.inl ⟨e,hx⟩
 refine⟨by show 1≤m.nx+1;omega,by show m.nx+1≤_;omega,?_,?_,?_,?_,?_,?_,?_,?_,?_⟩
 ·intro u hu
  obtain⟨u0,hu0,⟨rfl,_⟩|⟨rfl,rfl⟩⟩:=hm u hu
  ·have:=h.lo u hu0;exact⟨this.1,by show _<m.nx+1;omega⟩
  ·have:=h.lo u0 hu0;exact⟨this.1,by show u0.x<m.nx+1;omega⟩
 ·intro u hu p hp
  obtain⟨u0,hu0,⟨rfl,_⟩|⟨rfl,rfl⟩⟩:=hm u hu
  ·have:=h.pl u hu0 p hp;exact⟨this.1,by show _<m.nx+1;omega⟩
  ·rcases List.mem_append.1 hp with hp|hp
   ·have:=h.pl u0 hu0 p hp;exact⟨this.1,by show _<m.nx+1;omega⟩
   ·obtain rfl:=List.mem_singleton.1 hp
    exact⟨(h.lo u0 hu0).2,Nat.lt_succ_self _⟩
 ·intro u hu
  obtain⟨u0,hu0,⟨rfl,_⟩|⟨rfl,rfl⟩⟩:=hm u hu
  ·exact h.st u hu0
  ·exact h.st u0 hu0
 ·intro u hu
  obtain⟨u0,hu0,⟨rfl,_⟩|⟨rfl,rfl⟩⟩:=hm u hu
  ·exact h.ln u hu0
  ·simp only[addP,List.length_append,List.length_cons,List.length_nil];omega
 ·intro u hu j p hp
  obtain⟨u0,hu0,⟨rfl,_⟩|⟨rfl,rfl⟩⟩:=hm u hu
  ·exact h.ar u hu0 j p hp
  ·simp only[addP] at hp
   rcases Nat.lt_trichotomy j u0.ps.length with h1|h1|h1
   ·rw[List.getElem?_append_left h1] at hp
    exact h.ar u0 hu0 j p hp
   ·rw[h1,List.getElem?_append_right (Nat.le_refl _)] at hp
    simp at hp
    subst hp
    exact⟨hi.1,by simp only;omega,by simp⟩
   ·rw[List.getElem?_append_right (by omega),List.getElem?_eq_none (by simp;omega)] at hp
    cases hp
 ·show(upd m.tx t.x (addP ⟨m.nx,i,0⟩)).Pairwise _
  rw[upd,List.pairwise_map]
  refine h.up.imp (fun {a b} hab=>?_)
  have e: ∀u:Tx,(if u.x=t.x then addP ⟨m.nx,i,0⟩ u else u).x=u.x:=fun u=>by split<;>rfl
  rw[e,e];exact hab
 ·show(upd m.tx t.x (addP ⟨m.nx,i,0⟩)).Pairwise _
  rw[upd,List.pairwise_map]
  have hap:=h.ap.and h.up
  refine(hap.imp_of_mem (fun {a b} ha hb hab=>?_))
  obtain⟨hab,hlt⟩:=hab
  have e: ∀u:Tx,(if u.x=t.x then addP ⟨m.nx,i,0⟩ u else u).x=u.x:=fun u=>by split<;>rfl
  have hps: ∀u:Tx, ∀p∈(if u.x=t.x then addP ⟨m.nx,i,0⟩ u else u).ps,p∈u.ps∨(u.x=t.x∧p.x=m.nx):=fun u p hp=>by
   split at hp
   ·rename_i hx
    rcases List.mem_append.1 hp with hp|hp
    ·exact Or.inl hp
    ·obtain rfl:=List.mem_singleton.1 hp;exact Or.inr ⟨hx,rfl⟩
   ·exact Or.inl hp
  intro p hp
  rw[e]
  have lb:=h.lo b hb
  rcases hps a p hp with hp|⟨hax,hp⟩
  ·refine⟨(hab p hp).1,fun q hq=>?_⟩
   have:=h.pl a ha p hp
   rcases hps b q hq with hq|⟨_,hq⟩
   ·exact(hab p hp).2 q hq
   ·omega
  ·refine⟨by omega,fun q hq=>?_⟩
   rcases hps b q hq with hq|⟨hbx,hq⟩
   ·have:=h.pl b hb q hq;omega
   ·omega
 ·intro u hu
  obtain⟨u0,hu0,⟨rfl,_⟩|⟨rfl,rfl⟩⟩:=hm u hu
  ·exact h.pu u hu0
  ·simp only[addP]
   rw[List.pairwise_append]
   refine⟨h.pu u0 hu0,by simp,fun p hp q hq=>?_⟩
   obtain rfl:=List.mem_singleton.1 hq
   exact(h.pl u0 hu0 p hp).2
 ·show m.on=_
  rw[h.on]
  exact(upd_filter m.tx t.x (addP ⟨m.nx,i,0⟩) (fun _=>rfl) (fun _=>rfl)).symm
theorem fnd_updi (x:Nat) (f:Tx→Tx) (n:Int) (hf: ∀t,(f t).x=t.x∧idx (f t).ps n=idx t.ps n): ∀L:List Tx,fnd (upd L x f) n=(fnd L n).map (fun p=>(if p.1.x=x then f p.1 else p.1,p.2))
 |[]=>rfl
 |t::r=>by
  have ih:=fnd_updi x f n hf r
  simp only[upd,List.map_cons,fnd] at ih ⊢
  have e1:(if t.x=x then f t else t).x=t.x:=by split;exact(hf t).1;rfl
  have e2:idx (if t.x=x then f t else t).ps n=idx t.ps n:=by
   split
   ·exact(hf t).2
   ·rfl
  rw[e1,e2]
  split
  ·rfl
  ·cases idx t.ps n with
   |some k=>rfl
   |none=>exact ih
theorem fnd_part_new {m:Mg} (h:Wf m) {t:Tx} (ht:t∈m.tx) (i:Int):fnd (m.part t i).tx m.nx=some (addP ⟨m.nx,i,0⟩ t,(t.ps.length:Int)):=by
 show fnd (upd m.tx t.x (addP ⟨m.nx,i,0⟩)) m.nx=_
 have key: ∀L:List Tx,(∀u∈L,u∈m.tx)→t∈L→fnd (upd L t.x (addP ⟨m.nx,i,0⟩)) m.nx=some (addP ⟨m.nx,i,0⟩ t,(t.ps.length:Int)):=by
  intro L
  induction L with
  |nil=>intro _ h;cases h
  |cons u r ih=>
   intro hL hm
   have hu:=hL u (by simp)
   have hul:=h.lo u hu
   have hun:idx u.ps m.nx=none:=idx_no (fun p hp=>by have:=(h.pl u hu p hp).2;omega)
   simp only[upd,List.map_cons,fnd] at ih ⊢
   have e1:(if u.x=t.x then addP ⟨m.nx,i,0⟩ u else u).x=u.x:=by split<;>rfl
   rw[e1,if_neg (by omega)]
   by_cases hx:u.x=t.x
   ·have e:=h.uniq u hu t ht hx
    subst e
    rw[if_pos rfl]
    simp only[addP,idx_snoc,hun]
    simp
   ·rw[if_neg hx]
    simp only[hun]
    refine ih (fun v hv=>hL v (by simp[hv])) ?_
    rcases List.mem_cons.1 hm with e|hm
    ·exact absurd (by rw[e]) hx
    ·exact hm
 exact key m.tx (fun _ h=>h) ht
theorem fnd_part_old {m:Mg} {t:Tx} (i:Int) {k:Int} (hk:k≠m.nx):fnd (m.part t i).tx k=(fnd m.tx k).map (fun p=>(if p.1.x=t.x then addP ⟨m.nx,i,0⟩ p.1 else p.1,p.2)):=by
 refine fnd_updi t.x (addP ⟨m.nx,i,0⟩) k (fun u=>⟨rfl,?_⟩) m.tx
 simp only[addP,idx_snoc]
 cases idx u.ps k with
 |some j=>rfl
 |none=>simp only;rw[if_neg (fun e=>hk e.symm)]
theorem drewN_size (w:World) (n:Nat):(w.drewN n).heap.size=w.heap.size:=rfl
theorem MG.chg {w w':World} {b:Nat} {m m':Mg} {σ σ':Nat→Option Nat} {mb:Nat} {bl:Nat→Nat} (h:MG w b m σ mb bl) {t:Tx} (ht:t∈m.tx) (f:Tx→Tx) (hx: ∀u,(f u).x=u.x) (hm':m'.tx=upd m.tx t.x f) (hwf:Wf m')
  (s1: ∀i,i<w.heap.size→σ' i=σ i) (s2: ∀i,σ' i≠none→i<w'.heap.size) {S:Nat→Prop} (T:Tch S w w') (hS: ∀i,i<w.heap.size→S i→σ i=some b∨σ i=some (bl t.x))
  (hB: ∃ov,w'.heap[b]? =some (.cells #[.map (some mb),.int .i64 m'.nx,ov] 83 (0,0))∧w'.ownsRow 0 3 1 ov m'.on.length (icl m'.on)∧ ∀g,ov.ownBlock=some g→σ' g=some b)
  (hD: ∃n D,n≤m'.nx∧w'.ownsMap Tryz.prog 3 numElem mb n D∧ ∀k zd,D.atKey (.int .i64 k) zd=atE (lkB bl m'.tx k) zd)
  (hX:XB w' σ' (bl t.x) (f t)):MG w' b m' σ' mb bl∧Stp w σ w' σ':=by
 have hm: ∀u∈m'.tx, ∃u0∈m.tx,u.x=u0.x∧((u=u0∧u0.x≠t.x)∨(u0=t∧u=f t)):=fun u hu=>by
  rw[hm'] at hu
  obtain⟨u0,hu0,e⟩:=mem_upd hu
  refine⟨u0,hu0,?_⟩
  by_cases hxx:u0.x=t.x
  ·rw[if_pos hxx] at e
   have:=h.wf.uniq u0 hu0 t ht hxx
   subst this
   exact⟨by rw[e,hx],Or.inr ⟨rfl,e⟩⟩
  ·rw[if_neg hxx] at e
   exact⟨by rw[e],Or.inl ⟨e,hxx⟩⟩
 refine⟨⟨hwf,hB,by rw[s1 b h.bl'];exact h.lb,by rw[s1 mb h.ml];exact h.lm,hD,?_,?_,?_,s2⟩,⟨?_,s1⟩⟩
 ·intro u hu
  obtain⟨u0,hu0,e,⟨rfl,hn⟩|⟨rfl,rfl⟩⟩:=hm u hu
  ·refine(h.xs u hu0).tch T (fun i hi hs e=>?_) (fun i hi e=>by rw[s1 i hi];exact e)
   rcases hS i hi hs with h1|h1
   ·rw[h1] at e;injection e with e;exact h.nb u hu0 e.symm
   ·rw[h1] at e;injection e with e;exact hn (h.inj t ht u hu0 e).symm
  ·rw[e];exact hX
 ·intro u hu v hv e
  obtain⟨u0,hu0,e1,_⟩:=hm u hu
  obtain⟨v0,hv0,e2,_⟩:=hm v hv
  rw[e1,e2] at e ⊢
  exact h.inj u0 hu0 v0 hv0 e
 ·intro u hu
  obtain⟨u0,hu0,e1,_⟩:=hm u hu
  rw[e1];exact h.nb u0 hu0
 ·exact T.mono (fun i hi hs e=>by rcases hS i hi hs with h1|h1<;>rw[h1] at e<;>cases e)
section
variable (b:Nat) (m:Mg) (σ:Nat→Option Nat) (mb:Nat) (bl:Nat→Nat) (w:World) (h:MG w b m σ mb bl) (k:Int) (h1: -9223372036854775808≤k) (h2:k≤9223372036854775807)
include h h1 h2
theorem part_none (hf:fnd m.tx k=none):Calls Tryz.prog 44 #[.pointer (some ⟨b,0,none⟩),.int .i64 k] w fun x w'=>x= .returned (.tuple #[.int .i64 0,.int .i64 70])∧Tch (fun _=>False) w w':=by
 have c0:=h.c0
 have q:=find_any b m σ mb bl k w h h1 h2
 rw[lk_none hf] at q
 have qs:=fun W=>known_any none W
 simp only[numV,Option.isSome_none] at q qs
 clear h hf h1 h2
 go_enter Tryz.func44,Tryz.ntmps44
 go_wp2_with fail
 refine q.mono ?_
 rintro x w1 ⟨rfl,t1⟩
 clear q
 have T:Hid (Tch (fun _=>False) w w1):=t1
 clear t1 c0
 go_wp2_with fail
 refine(qs _).mono ?_
 rintro x w2 ⟨rfl,t2⟩
 clear qs
 have T2:Hid (Tch (fun _=>False) w w2):=(T.out.trans' (Tch.alloc _ _ _)).trans' t2
 clear t2
 go_wp2
 go_ret2
 exact⟨rfl,T2.out⟩
def partE (m:Mg) (t:Tx) (i:Int):Nat:=if may t i=false then 71 else if t.ps.length=64 then 72 else if 2147483647<m.nx then 73 else 0
theorem part_some {t:Tx} {i:Int} (hf:fnd m.tx k=some (t,i)):Calls Tryz.prog 44 #[.pointer (some ⟨b,0,none⟩),.int .i64 k] w fun x w'=>
  (partE m t i≠0→x= .returned (.tuple #[.int .i64 0,.int .i64 (partE m t i)])∧Tch (fun _=>False) w w')∧
  (partE m t i=0→x= .returned (.tuple #[.int .i64 m.nx,.int .i64 0])∧ ∃σ',MG w' b (m.part t i) σ' mb bl∧Stp w σ w' σ'):=by
 have c0:=h.c0
 have q:=find_any b m σ mb bl k w h h1 h2
 obtain⟨hx,hi,h64,hst,hlk,htm⟩:=h.at hf
 rw[hlk] at q
 have qs:=fun W=>known_any (some (bl t.x,i)) W
 have qm:=fun W (hW:Tch (fun _=>False) w W)=>mayGoOn_any σ (bl t.x) t i W (hx.tch hW (fun _ _ h=>h.elim) (fun _ _ h=>h)) hi h64 hst.2
 have qn:=fun W (hW:Tch (fun _=>False) w W)=>noneLeft_any b m σ mb bl W (h.no hW)
 have Hx:Hid (XB w σ (bl t.x) t):=hx
 have Hh:Hid (MG w b m σ mb bl):=h
 have Hi:Hid (-1≤i∧i<t.ps.length):=by
  rcases hi with rfl|⟨j,rfl,hj⟩
  ·exact⟨by omega,by omega⟩
  ·exact⟨by omega,by omega⟩
 have Htm:Hid (t∈m.tx):=htm
 obtain⟨tb,htb⟩: ∃tb,tb=bl t.x:=⟨_,rfl⟩
 rw[←htb] at q qs Hx qm
 have Htb:Hid (tb=bl t.x):=htb
 simp only[numV,Option.isSome_some] at q qs qm
 obtain⟨n,hn⟩: ∃n,n=t.ps.length:=⟨_,rfl⟩
 have Hn:Hid (n=t.ps.length):=hn
 rw[←hn] at h64
 obtain⟨E,hE⟩: ∃E,E=partE m t i:=⟨_,rfl⟩
 rw[←hE]
 have HE:Hid (E=if may t i=false then 71 else if n=64 then 72 else if 2147483647<m.nx then 73 else 0):=by show _=_;rw[hE,hn];rfl
 have Hqm:Hid _:=qm
 have Hqn:Hid _:=qn
 clear hE hn htb h hf h1 h2 hx hi hst hlk htm qm qn
 go_enter Tryz.func44,Tryz.ntmps44
 go_wp2_with fail
 refine q.mono ?_
 rintro x w1 ⟨rfl,t1⟩
 clear q
 have T:Hid (Tch (fun _=>False) w w1):=t1
 clear t1 c0
 go_wp2_with fail
 obtain⟨N,hN⟩: ∃N,N=w1.heap.size:=⟨_,rfl⟩
 obtain⟨w0,hw0⟩: ∃w0,w0=w1.alloc (.cells #[.pointer (some ⟨tb,0,none⟩),.int .i64 i] 121):=⟨_,rfl⟩
 have hb:w0.heap[N]? =some (.cells #[.pointer (some ⟨tb,0,none⟩),.int .i64 i] 121 (0,0)):=by rw[hw0,hN];exact alloc_new _ _
 have t0:Tch (fun _=>False) w w0:=by rw[hw0];exact T.out.trans' (Tch.alloc _ _ _)
 have HNw:Hid (w.heap.size≤N):=by show _≤_;rw[hN];exact T.out.size
 rw[←hw0, ←hN]
 have Hb:Hid _:=hb
 have Ht0:Hid _:=t0
 clear hw0 hN hb t0 T
 refine(qs _).mono ?_
 rintro x w2 ⟨rfl,t2⟩
 clear qs
 have HT2:Hid (Tch (fun _=>False) w0 w2):=t2
 have d0:w2.cell? ⟨N,0,none⟩=some (.pointer (some ⟨tb,0,none⟩)):=by rw[t2.cell (p:=⟨N,0,none⟩) (blk_lt Hb.out) (fun h=>h),blk_cell Hb.out];rfl
 have d1:w2.cell? ⟨N,1,none⟩=some (.int .i64 i):=by rw[t2.cell (p:=⟨N,1,none⟩) (blk_lt Hb.out) (fun h=>h),blk_cell Hb.out];rfl
 have Q:=Hqm.out w2 (Ht0.out.trans' t2)
 clear t2
 go_wp2_with fail
 refine Q.mono ?_
 rintro x w3 ⟨rfl,t3⟩
 clear Q d0 d1
 have HT3:Hid (Tch (fun _=>False) w0 w3):=HT2.out.trans' t3
 clear t3 HT2
 cases hmy:may t i with
 |false=>
  have HE1:Hid (E=71):=by show _=_;rw[HE.out,if_pos hmy]
  have HTw:Hid (Tch (fun _=>False) w w3):=Ht0.out.trans' HT3.out
  go_wp2
  go_ret2
  exact⟨fun _=>⟨by rw[HE1.out];rfl,HTw.out⟩,fun e=>by rw[HE1.out] at e;cases e⟩
 |true=>
  have HE1:Hid (E=if n=64 then 72 else if 2147483647<m.nx then 73 else 0):=by show _=_;rw[HE.out,if_neg (by rw[hmy];simp)]
  have hX3:=Hx.out.tch (Ht0.out.trans' HT3.out) (fun _ _ h=>h.elim) (fun _ _ h=>h)
  obtain⟨pv,_,_,c2,hP⟩:=hX3.c
  obtain⟨po,pc,rfl⟩:=row_slice hP
  rw[←Hn.out] at c2
  have d0:w3.cell? ⟨N,0,none⟩=some (.pointer (some ⟨tb,0,none⟩)):=by rw[HT3.out.cell (p:=⟨N,0,none⟩) (blk_lt Hb.out) (fun h=>h),blk_cell Hb.out];rfl
  have d1:w3.cell? ⟨N,1,none⟩=some (.int .i64 i):=by rw[HT3.out.cell (p:=⟨N,1,none⟩) (blk_lt Hb.out) (fun h=>h),blk_cell Hb.out];rfl
  have HTw:Hid (Tch (fun _=>False) w w3):=Ht0.out.trans' HT3.out
  have HmV:Hid (may t i=true):=hmy
  clear hX3 hP hmy
  by_cases hn64:n=64
  ·have HE2:Hid (E=72):=by show _=_;rw[HE1.out,if_pos hn64]
   subst hn64
   go_wp2
   go_ret2
   exact⟨fun _=>⟨by rw[HE2.out];rfl,HTw.out⟩,fun e=>by rw[HE2.out] at e;cases e⟩
  ·have hn1:((n:Int)==64)=false:=by simp;omega
   have hnI: ¬(n:Int)=64:=by omega
   have HE2:Hid (E=if 2147483647<m.nx then 73 else 0):=by show _=_;rw[HE1.out,if_neg hn64]
   have Q:=Hqn.out w3 HTw.out
   go_wp2_with fail
   refine Q.mono ?_
   rintro x w4 ⟨rfl,hw4⟩
   obtain rfl:=hw4.symm
   clear Q hw4
   by_cases hnx:2147483647<m.nx
   ·have HE3:Hid (E=73):=by show _=_;rw[HE2.out,if_pos hnx]
    rw[decide_eq_true hnx]
    go_wp2
    go_ret2
    exact⟨fun _=>⟨by rw[HE3.out];rfl,HTw.out⟩,fun e=>by rw[HE3.out] at e;cases e⟩
   ·have HE3:Hid (E=0):=by show _=_;rw[HE2.out,if_neg hnx]
    rw[decide_eq_false hnx]
    have hM3:=Hh.out.no HTw.out
    have Q:=give_any b m σ mb bl w3 hM3
    obtain⟨ov,hB,hon,hlab⟩:=hM3.blk
    obtain⟨nn,D,hnn,hD,hkD⟩:=hM3.mp
    obtain⟨v0,hXb,hXr,hXl⟩:=(hM3.xs t Htm.out).blk
    rw[←Htb.out] at hXb hXl
    have hbt:b≠tb:=fun e=>hM3.nb t Htm.out (by rw[←Htb.out,e])
    obtain⟨w5,hw5⟩: ∃w5,w5=w3.setCell ⟨b,1,none⟩ (.int .i64 (m.nx+1:Nat)):=⟨_,rfl⟩
    rw[←hw5] at Q
    have t5:Tch (fun j=>j=b) w3 w5:=by rw[hw5];exact Tch.setCell _ _ _ _ rfl
    have hs5:w5.heap.size=w3.heap.size:=by rw[hw5];simp[World.setCell]
    have hB5:w5.heap[b]? =some (.cells #[.map (some mb),.int .i64 (m.nx+1:Nat),ov] 83 (0,0)):=by rw[hw5];exact blk_set hB _
    have hNl:N<w3.heap.size:=Nat.lt_of_lt_of_le (blk_lt Hb.out) HT3.out.size
    have hNb:N≠b:=by have:=Hh.out.bl';have:=HNw.out;omega
    have e0:w5.cell? ⟨b,0,none⟩=some (.map (some mb)):=by rw[blk_cell hB5];rfl
    have e1:w5.cell? ⟨N,0,none⟩=some (.pointer (some ⟨tb,0,none⟩)):=by rw[t5.cell (p:=⟨N,0,none⟩) hNl hNb];exact d0
    have e2:w5.cell? ⟨N,1,none⟩=some (.int .i64 i):=by rw[t5.cell (p:=⟨N,1,none⟩) hNl hNb];exact d1
    have hXb5:=(t5.block tb (blk_lt hXb) (fun e=>hbt e.symm)).trans hXb
    have hXr5:=own_tch hXr t5 (fun g hg e=>by
     have h1:=hXl g hg
     rw[e,hM3.lb] at h1
     injection h1 with h1
     exact hbt h1)
    have hn2:=hM3.wf.n2
    have hwith:=fun(q:Nat)=>within_begin mb nn tb t.ps.length D m.nx i (.int .i64 t.x) (.int .i64 t.st) v0 (pcl t.ps) (w5.drewN q) (ownsMap_tch (ownsMap_tch hD t5 hM3.mne) ((Tch.refl (fun _=>False) w5).drewN q) (fun h=>h)) (by omega) (by omega) (by omega) (by have h9:=((Tch.refl (fun _=>False) w5).drewN q).block tb (blk_lt hXb5) (fun h=>h);rw[h9];exact hXb5) (own_tch hXr5 ((Tch.refl (fun _=>False) w5).drewN q) (fun _ _ h=>h)) (by have:=Hn.out;omega)
    have HB5:Hid _:=hB5
    have Hon:Hid _:=hon
    have Hlab:Hid _:=hlab
    have HM3:Hid (MG w3 b m σ mb bl):=hM3
    have Ht5:Hid _:=t5
    have HkD:Hid _:=hkD
    have Hl0:Hid (nn≤m.nx∧b≠tb∧w5.heap.size=w3.heap.size):=⟨hnn,hbt,hs5⟩
    have HXl:Hid _:=hXl
    have HD:Hid (w3.ownsMap Tryz.prog 3 numElem mb nn D):=hD
    have Hwith:Hid _:=hwith
    clear hB hon hlab hD hkD hXb hXr hXl hbt t5 hs5 hB5 hNl hNb hXb5 hXr5 hM3 hw5 hn2 hnn hwith c2
    go_wp2_with fail
    refine Q.mono ?_
    rintro x w6 ⟨rfl,hw6⟩
    obtain rfl:=hw6.symm
    clear Q hw6 d0 d1
    go_wp2_with fail
    refine wp_region_drew_tail 6 (by kernel_rfl) (by kernel_rfl) ?_
    repeat (quiet_step (fail))
    refine wpQuiet_nil ?_
    rintro w7 ⟨q,rfl⟩
    clear e0 e1 e2
    go_wp2_with fail
    refine(Hwith.out q).mono ?_
    rintro x w8 ⟨rfl,v',hD8,hX8,hP8,hv8,t8⟩
    have HFin:Hid (∃σ',MG w8 b (m.part t i) σ' mb bl∧Stp w σ w8 σ'):=by
     have tq:Tch (fun _=>False) w5 (w5.drewN q):=(Tch.refl _ _).drewN q
     have hM3:=HM3.out
     obtain⟨hnn,hbt,hs5⟩:=Hl0.out
     have hsq:(w5.drewN q).heap.size=w5.heap.size:=by
      exact drewN_size w5 q
     have tA:=(Ht5.out.mono (T:=fun j=>j=b∨j=mb∨j=tb∨v0.ownBlock=some j) (fun j _ e=>Or.inl e)).trans tq (fun j _ e=>e.elim)
     have tB:=tA.trans t8 (fun j _ e=>Or.inr e)
     have htb:=Htb.out
     have hS: ∀j,(j=b∨j=mb∨j=tb∨v0.ownBlock=some j)→σ j=some b∨σ j=some (bl t.x):=fun j hj=>by
      rcases hj with e|e|e|e
      ·rw[e];exact Or.inl hM3.lb
      ·rw[e];exact Or.inl hM3.lm
      ·rw[e,htb];exact Or.inr (hM3.xs t Htm.out).lab
      ·rw[←htb];exact Or.inr (HXl.out j e)
     obtain⟨σ',hσ'⟩: ∃σ':Nat→Option Nat,σ'=fun j=>if j<w3.heap.size then σ j else if v'.ownBlock=some j then some tb else none:=⟨_,rfl⟩
     have s1: ∀j,j<w3.heap.size→σ' j=σ j:=fun j hj=>by rw[hσ'];exact if_pos hj
     have s3: ∀j,w3.heap.size≤j→σ' j=if v'.ownBlock=some j then some tb else none:=fun j hj=>by rw[hσ'];exact if_neg (by omega)
     clear hσ'
     have hbl:=hM3.bl'
     have htl:=(hM3.xs t Htm.out).lt
     rw[←htb] at htl
     have hXlab:=(hM3.xs t Htm.out).lab
     rw[←htb] at hXlab
     have hon:=Hon.out
     have hB8:=(t8.block b (by rw[hsq,hs5];exact hbl) (fun e=>?_)).trans ((tq.block b (blk_lt HB5.out) (fun h=>h)).trans HB5.out)
     ·have h1:=hM3.chg (m':=m.part t i) (σ':=σ') Htm.out (addP ⟨m.nx,i,0⟩) (fun _=>rfl) rfl (hM3.wf.part Htm.out Hi.out (by omega) (by have:=Hn.out;omega)) s1 (fun j hj=>?_) tB (fun j _ hj=>hS j hj) ⟨ov,hB8,?_,fun g hg=>?_⟩ ⟨nn+1,_,by show nn+1≤m.nx+1;omega,hD8,fun k' zd=>?_⟩ ?_
      ·exact⟨σ',h1.1,(Stp.of_no HTw.out).trans h1.2⟩
      ·by_cases hj3:j<w3.heap.size
       ·exact Nat.lt_of_lt_of_le hj3 tB.size
       ·rw[s3 j (by omega)] at hj
        split at hj
        ·rename_i hg
         obtain⟨cur,hc⟩:=own_blk hP8 hg
         exact blk_lt hc
        ·exact absurd rfl hj
      ·refine own_tch hon tB (fun g hg e=>?_)
       have hgb:=Hlab.out g hg
       rcases e with e|e|e|e
       ·obtain⟨cur,hc⟩:=own_blk hon hg
        obtain⟨ov2,hb2,_⟩:=hM3.blk
        rw[e,hb2] at hc;cases hc
       ·obtain⟨cur,hc⟩:=own_blk hon hg
        obtain⟨es,clock,hh,_⟩:=HD.out
        rw[e,hh] at hc;cases hc
       ·rw[e,hXlab] at hgb
        injection hgb with hgb
        exact hbt hgb.symm
       ·have:=HXl.out g e
        rw[hgb] at this
        injection this with this
        exact hbt this
      ·have hgb:=Hlab.out g hg
       rw[s1 g (hM3.lt g (by rw[hgb];exact fun e=>by cases e))];exact hgb
      ·simp only[lkB]
       by_cases hk':k'=m.nx
       ·rw[hk',fnd_part_new hM3.wf Htm.out,Maps.atKey_put_same HD.out.isMap (key_int _)]
        simp[atE,addP,htb]
       ·rw[fnd_part_old i hk',Maps.atKey_put_other (fun e=>hk' (by injection e)),HkD.out]
        cases hf:fnd m.tx k' with
        |none=>simp[lkB,hf,atE]
        |some a=>
         simp only[lkB,hf,Option.map_some]
         have e9:(if a.1.x=t.x then addP ⟨m.nx,i,0⟩ a.1 else a.1).x=a.1.x:=by split<;>rfl
         rw[e9]
      ·rw[←htb]
       refine⟨by rw[s1 tb htl];exact hXlab,⟨v',hX8,?_,fun g hg=>?_⟩⟩
       ·simp only[addP,pcl_snoc,List.length_append,List.length_cons,List.length_nil]
        exact hP8
       ·rcases hv8 with e|⟨g',e,hge⟩
        ·rw[e] at hg
         have h9:=HXl.out g hg
         rw[s1 g (hM3.lt g (by rw[h9];exact fun e=>by cases e))];exact h9
        ·have hgg:=hg
         rw[e] at hg
         injection hg with hg
         rw[s3 g (by rw[hsq,hs5] at hge;omega),if_pos hgg]
     ·rcases e with e|e|e
      ·exact hM3.mne e.symm
      ·exact hbt e
      ·have h9:=HXl.out b e
       rw[hM3.lb] at h9
       injection h9 with h9
       exact hbt h9
    clear hD8 hX8 hP8 hv8 t8
    go_wp2
    go_ret2
    exact⟨fun e=>absurd HE3.out e,fun _=>⟨rfl,HFin.out⟩⟩
end
end Go.Proofs.YtppokgdofgigfaaGreat
