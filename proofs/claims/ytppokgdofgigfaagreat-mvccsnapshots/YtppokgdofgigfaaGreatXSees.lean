import Derived.Test.YtppokgdofgigfaaGreatFlo
import Derived.Test.YtppokgdofgigfaaGreatStaged
import Derived.LaidEqlPtr
set_option maxHeartbeats 2000000
set_option maxRecDepth 100000
namespace Go.Proofs.YtppokgdofgigfaaGreat
set_option maxRecDepth 100000
open Go
def wpFloO (P:Program) (ops:Array Oper) (S:List Nat) (f0:Nat) (C:List Value→Option Value→World→Prop) (Q:List Value→Option Value→Act→Prop):List Nat→List Value→Option Value→Act→Prop
 |[],s,p,a=>Q s p a
 |i::r,s,p,a=>fOp P ops S f0 C i (wpFloO P ops S f0 C Q r) s p a
def floOB (md:Region.Mode) (ops:Array Oper) (S:List Nat) (f0:Nat):List Nat→Array Bool→Bool
 |[],listed=>Region.ready md ops listed==[]
 |i::r,listed=>decide (i<ops.size) && (Region.ready md ops listed).contains i && (if S.contains i then((Region.ready md ops listed).all (fun j=>j==i||j==f0) && (Region.ready md ops (listed.setIfInBounds f0 true)==[i]) && (!r.isEmpty||Region.ready md ops listed==[i]) && Region.free md ops listed i) else if i=f0 then Region.ready md ops listed==[i] else Region.free md ops listed i) && floOB md ops S f0 r (listed.setIfInBounds i true)
theorem anyF_ord {P:Program} {md:Region.Mode} {ops:Array Oper} {S:List Nat} {f0:Nat} {of:Oper} {C:List Value→Option Value→World→Prop} {Q:List Value→Option Value→Act→Prop} (hsel:Region.noSelect ops=true) (hof:ops[f0]? =some of) (hgd:of.guard=none) (hSf:S.contains f0=false) (HF: ∀s a W,C s none W→YV P of a (fun v=>C s (some v)) W) (hdep: ∀i∈S,Region.waitsFor md ops f0 i=false) (ord:List Nat):
  ∀(listed:Array Bool) (s:List Value) (p:Option Value) (a:Act),HeadInv md ops ops.size listed→floOB md ops S f0 ord listed=true→(listed.getD f0 true=false→p=none)→wpFloO P ops S f0 C Q ord s p a→anyF P md ops S f0 C Q ord.length listed s p a:=by
 induction ord with
 |nil=>intro listed s p a _ hB _ h;exact⟨by simpa[floOB] using hB,h⟩
 |cons i l ih=>
  intro listed s p a inv hB hpl hst
  simp only[floOB,Bool.and_eq_true,decide_eq_true_eq] at hB
  obtain⟨⟨⟨hin0,hrd⟩,hF⟩,hB2⟩:=hB
  have hr:i∈Region.ready md ops listed:=by simpa using hrd
  obtain⟨hun,o,h0,_⟩:=mem_ready.1 hr
  have inv':=inv.set hr hin0
  have hin:i<listed.size:=by
   have hz:=hun
   unfold Array.getD at hz
   split at hz
   ·assumption
   ·cases hz
  have hpl': ∀p',(i≠f0→p'=p)→((listed.setIfInBounds i true).getD f0 true=false→p'=none):=fun p' e hu=>by
   by_cases hif:i=f0
   ·subst hif
    simp[Array.getD,hin] at hu
   ·rw[getD_set_ne true hif] at hu
    rw[e hif];exact hpl hu
  have hst':fOp P ops S f0 C i (wpFloO P ops S f0 C Q l) s p a:=hst
  by_cases hs:S.contains i=true
  ·rw[if_pos hs] at hF
   simp only[Bool.and_eq_true,List.all_eq_true,Bool.or_eq_true,beq_iff_eq] at hF
   obtain⟨⟨⟨hF1,hF2⟩,hF3⟩,hF5⟩:=hF
   have hif:i≠f0:=fun e=>by rw[e,hSf] at hs;cases hs
   have hK:=fOp_mono (K':=anyF P md ops S f0 C Q l.length (listed.setIfInBounds i true)) (fun s' p' a' e h'=>ih _ s' p' a' inv' hB2 (hpl' p' e) h') hst'
   rcases hF3 with hF3|hF3
   ·obtain⟨f,hf⟩: ∃f,l.length=f+1:=⟨l.length - 1,by
     cases l with
     |nil=>simp at hF3
     |cons x l=>simp⟩
    show anyF P md ops S f0 C Q (l.length+1) listed s p a
    rw[hf] at hK ⊢
    by_cases hfr:f0∈Region.ready md ops listed
    ·have hap:o.apart ops of=true:=Region.free_spec h0 hF5 f0 of hof (Ne.symm hif) (mem_ready.1 hfr).1 (fun e he hb heq=>by
      have hw:=hdep i (by simpa using hs)
      have:Region.waitsFor md ops f0 i=true:=by
       unfold Region.waitsFor
       simp only[hof]
       exact Array.any_eq_true'.2 ⟨e,by simpa using he,by simp[hb,heq]⟩
      rw[this] at hw;cases hw)
     exact anyF_turn h0 hof hgd hs hSf hif (Region.noSelect_spec hsel) HF hap hr (fun j hj=>hF1 j hj) (fun _=>hF2) hpl hK
    ·refine anyF_only' hr (fun j hj=>?_) hK
     rcases hF1 j hj with e|e
     ·exact e
     ·exact absurd (e▸hj) hfr
   ·exact anyF_only hF3 hK
  ·have hsf:S.contains i=false:=by simpa using hs
   rw[if_neg hs] at hF
   by_cases hif:i=f0
   ·rw[if_pos hif] at hF
    exact anyF_only (by simpa using hF) (fOp_mono (fun s' p' a' e h'=>ih _ s' p' a' inv' hB2 (hpl' p' e) h') hst')
   ·rw[if_neg hif] at hF
    obtain⟨v,hy,hK⟩:=yq_of_fOp h0 hsf hif hst'
    exact anyF_first h0 hsf hif (Region.noSelect_spec hsel) l.length listed s p a inv (Region.free_spec h0 hF) hr hpl hy (ih _ _ _ _ inv' hB2 (hpl' p (fun _=>rfl)) hK)
theorem wp_region_floo {P:Program} {id:Nat} {Q:Exit→Act→World→Prop} {a:Act} {w:World} {l:List Oper} (S:List Nat) (f0:Nat) (of:Oper) (C:List Value→Option Value→World→Prop) (ord:List Nat) (hm:P.follows .mixedOrders=true) (hB:(Region.noSelect l.toArray && decide (ord.length=l.length) && floOB .any l.toArray S f0 ord (Array.replicate l.toArray.size false))=true) (hof:l.toArray[f0]? =some of) (hgd:of.guard=none) (hSf:S.contains f0=false) (hdep:S.all (fun i=> !Region.waitsFor .any l.toArray f0 i)=true)
  (HF: ∀s a W,C s none W→YV P of a (fun v=>C s (some v)) W) (hC:C [] none w.drew)
  (h:wpFloO P l.toArray S f0 C (fun s p a'=> ∀w',C s p w'→Q .normal a' w') ord [] none a):(Code.region id l.toArray true).wp P Q a w:=by
 simp only[Bool.and_eq_true,decide_eq_true_eq] at hB
 have inv0:HeadInv .any l.toArray l.toArray.size (Array.replicate l.toArray.size false):=
  ⟨by simp,fun j oj _ hl=>(by rw[getD_replicate_false] at hl;cases hl),fun t h1 h2=>by omega⟩
 have H:=anyF_ord (md:= .any) hB.1.1 hof hgd hSf HF (fun i hi=>by have:=List.all_eq_true.1 hdep i hi;simpa using this) ord _ [] none a inv0 hB.2 (fun _=>rfl) h
 refine wp_region_any hm (wpAny_of_anyF (S:=S) (f0:=f0) (Q:=fun s p a'=> ∀w',C s p w'→Q .normal a' w') (fun s p a w' hw' h=>h w' hw') _ _ [] none _ _ hC ?_)
 rw[hB.1.2] at H
 simpa using H
theorem floo_nil {P:Program} {ops:Array Oper} {S:List Nat} {f0:Nat} {C:List Value→Option Value→World→Prop} {Q:List Value→Option Value→Act→Prop} {s:List Value} {p:Option Value} {a:Act} (h:Q s p a):wpFloO P ops S f0 C Q [] s p a:=h
theorem floo_read {P:Program} {ops:Array Oper} {S:List Nat} {f0:Nat} {C:List Value→Option Value→World→Prop} {Q:List Value→Option Value→Act→Prop} {o:Oper} {r:List Nat} {i:Nat} {s:List Value} {p:Option Value} {a:Act} (hi:ops[i]? =some o) (hw:Region.wanted o (yielded ops a.tmps)=true) (hs:S.contains i=false) (hf:(i==f0)=false)
  (h: ∃v,(∀s' p' W,Later p p'→C (s++s') p' W→YS P o a (C (s++s') p') W v)∧ ∀K:Act→Prop,(∀a,wpFloO P ops S f0 C Q r s p a→K a)→K (a.put o.dst v)):wpFloO P ops S f0 C Q (i::r) s p a:=by
 obtain⟨v,h1,h2⟩:=h
 unfold wpFloO fOp
 simp only[hi]
 rw[if_pos hw,if_neg (by rw[hs];exact Bool.false_ne_true),if_neg (by simpa using hf)]
 exact⟨v,h1,h2 _ (fun _ h=>h)⟩
theorem floo_turn {P:Program} {ops:Array Oper} {S:List Nat} {f0:Nat} {C:List Value→Option Value→World→Prop} {Q:List Value→Option Value→Act→Prop} {o:Oper} {r:List Nat} {i:Nat} {s:List Value} {p:Option Value} {a:Act} (hi:ops[i]? =some o) (hw:Region.wanted o (yielded ops a.tmps)=true) (hs:S.contains i=true)
  (h1: ∀p',Later p p'→ ∀W,C s p' W→YV P o a (fun v=>C (s++[v]) p') W) (h2: ∀v,(∃p' W',Later p p'∧C (s++[v]) p' W')→ ∀K:Act→Prop,(∀a,wpFloO P ops S f0 C Q r (s++[v]) p a→K a)→K (a.put o.dst v)):wpFloO P ops S f0 C Q (i::r) s p a:=by
 unfold wpFloO fOp
 simp only[hi]
 rw[if_pos hw,if_pos hs]
 exact⟨h1,fun v hv=>h2 v hv _ (fun _ h=>h)⟩
theorem floo_float {P:Program} {ops:Array Oper} {S:List Nat} {f0:Nat} {C:List Value→Option Value→World→Prop} {Q:List Value→Option Value→Act→Prop} {o:Oper} {r:List Nat} {i:Nat} {s:List Value} {p:Option Value} {a:Act} (hi:ops[i]? =some o) (hw:Region.wanted o (yielded ops a.tmps)=true) (hs:S.contains i=false) (hf:(i==f0)=true)
  (h1: ∀W,C s p W→YV P o a (fun v=>C s (some v)) W) (h2: ∀v,(∃s' W',C (s++s') (some v) W')→ ∀K:Act→Prop,(∀a,wpFloO P ops S f0 C Q r s (some v) a→K a)→K (a.put o.dst v)):wpFloO P ops S f0 C Q (i::r) s p a:=by
 unfold wpFloO fOp
 simp only[hi]
 rw[if_pos hw,if_neg (by rw[hs];exact Bool.false_ne_true),if_pos (by simpa using hf)]
 exact⟨h1,fun v hv=>h2 v hv _ (fun _ h=>h)⟩
end Go.Proofs.YtppokgdofgigfaaGreat
namespace Go.Proofs.YtppokgdofgigfaaGreat
open Go.RowKit Go Go.Sort
def SnapOut (m:Mg) (w:World) (x:Ending) (w':World):Prop:=(∃v',x= .returned (.agg #[.int .i64 (m.on.headD m.nx:Nat),.int .i64 m.nx,v'])∧w'.ownsRow w.heap.size 3 1 v' m.on.length (icl m.on))∧Tch (fun _=>False) w w'
def SC (w0:World) (m:Mg) (s:List Value) (p:Option Value) (W:World):Prop:=
 Tch (fun _=>False) w0 W∧
 (∀q,p=some q→ ∃pb,q= .pointer (some ⟨pb,0,none⟩)∧w0.heap.size≤pb∧W.heap[pb]? =some (.cells (match s with
  |[v,_]=>#[.int .i64 m.nx,.int .i64 m.nx,v]
  |_=>#[.int .i64 0,.int .i64 0,.slice none 0 0]) 38 (0,0))∧ ∀v,s.head? =some v→v.ownBlock≠some pb)∧
 (∀v,s.head? =some v→W.ownsRow w0.heap.size 3 1 v m.on.length (icl m.on))∧(p=none→s.length<2)
theorem snapshot_any (b:Nat) (m:Mg) (σ:Nat→Option Nat) (mb:Nat) (bl:Nat→Nat) (w:World) (h:MG w b m σ mb bl):
  Calls Tryz.prog 10 #[.pointer (some ⟨b,0,none⟩)] w fun x w'=>SnapOut m w x w':=by
 obtain⟨N,hN⟩: ∃N,N=w.heap.size:=⟨_,rfl⟩
 obtain⟨w0,hw0⟩: ∃w0,w0=w.alloc (.cells #[.int .i64 0,.int .i64 0,.slice none 0 0] 38):=⟨_,rfl⟩
 have t0:Tch (fun _=>False) w w0:=by rw[hw0];exact Tch.alloc _ _ _
 have hY0:w0.heap[N]? =some (.cells #[.int .i64 0,.int .i64 0,.slice none 0 0] 38 (0,0)):=by rw[hw0,hN];exact alloc_new _ _
 obtain⟨C,hC⟩: ∃C,C=SC w0 m:=⟨_,rfl⟩
 have h0':C [] none w0.drew:=by rw[hC];exact⟨(Tch.refl _ _).drew,(fun q hq=>by cases hq),(fun v hv=>by cases hv),fun _=>by decide⟩
 have hK: ∀s p W,C s p W→W.cell? ⟨b,1,none⟩=some (.int .i64 m.nx):=fun s p W hW=>by
  rw[hC] at hW
  exact(h.no (t0.trans' hW.1)).c1
 have hFl: ∀s W,C s none W→C s (some (.pointer (some ⟨W.heap.size,0,none⟩))) (W.alloc (.cells #[.int .i64 0,.int .i64 0,.slice none 0 0] 38)):=fun s W hW=>by
  rw[hC] at hW ⊢
  obtain⟨h1,_,h3,hl⟩:=hW
  refine⟨h1.allocR _,fun q hq=>?_,fun v hv=>own_tch (h3 v hv) (Tch.alloc (fun _=>False) _ _) (fun _ _ h=>h),fun h=>by cases h⟩
  cases hq
  refine⟨_,rfl,h1.size,?_,fun v hv e=>?_⟩
  ·rw[alloc_new]
   congr 2
   split
   ·have:=hl rfl;simp at this
   ·rfl
  ·obtain⟨cur,hc⟩:=own_blk (h3 v hv) e
   have:=blk_lt hc
   omega
 have hop: ∀p W,C [] p W→Calls Tryz.prog 32 #[.pointer (some ⟨b,0,none⟩)] W fun x W'=> ∃v,x= .returned v∧C [v] p W':=fun p W hW=>by
  rw[hC] at hW
  obtain⟨h1,h2,_,_⟩:=hW
  refine(open_any b m σ mb bl W (h.no (t0.trans' h1))).mono ?_
  rintro x W' ⟨⟨v,rfl,hv⟩,t⟩
  refine⟨v,rfl,?_⟩
  rw[hC]
  refine⟨h1.trans' t,fun q hq=>?_,fun v' hv'=>?_,fun _=>by simp⟩
  ·obtain⟨pb,e,h4,h5,_⟩:=h2 q hq
   refine⟨pb,e,h4,?_,fun v' hv' e=>?_⟩
   ·rw[t.block pb (blk_lt h5) (fun h=>h)];exact h5
   ·simp only[List.head?_cons,Option.some.injEq] at hv'
    subst hv'
    have:=row_ge hv e
    have:=blk_lt h5
    omega
  ·simp only[List.head?_cons,Option.some.injEq] at hv'
   subst hv'
   exact own_low hv h1.size
 have hsl: ∀v p W,C [v] p W→ ∃o c,v= .slice o m.on.length c:=fun v p W hW=>by
  rw[hC] at hW
  exact row_slice (hW.2.2.1 v rfl)
 have hptr: ∀s q W,C s (some q) W→ ∃pb,q= .pointer (some ⟨pb,0,none⟩):=fun s q W hW=>by
  rw[hC] at hW
  obtain⟨pb,e,_⟩:=hW.2.1 q rfl
  exact⟨pb,e⟩
 have hst: ∀v u pb W,C [v] (some (.pointer (some ⟨pb,0,none⟩))) W→(W.cell? ⟨pb,0,none⟩=some (.int .i64 0)∧W.cell? ⟨pb,1,none⟩=some (.int .i64 0)∧W.cell? ⟨pb,2,none⟩=some (.slice none 0 0))∧(∀j,W.frozen? ⟨pb,j,none⟩=false)∧C [v,u] (some (.pointer (some ⟨pb,0,none⟩))) (((W.setCell ⟨pb,0,none⟩ (.int .i64 m.nx)).setCell ⟨pb,1,none⟩ (.int .i64 m.nx)).setCell ⟨pb,2,none⟩ v):=fun v u pb W hW=>by
  rw[hC] at hW
  obtain⟨h1,h2,h3,_⟩:=hW
  obtain⟨pb',e,h4,h5,h6⟩:=h2 _ rfl
  injection e with e;injection e with e;injection e with e
  subst e
  refine⟨⟨by rw[blk_cell h5];rfl,by rw[blk_cell h5];rfl,by rw[blk_cell h5];rfl⟩,fun j=>blk_frozen h5 j,?_⟩
  rw[hC]
  have tE:Tch (fun i=>i=pb) W (((W.setCell ⟨pb,0,none⟩ (.int .i64 m.nx)).setCell ⟨pb,1,none⟩ (.int .i64 m.nx)).setCell ⟨pb,2,none⟩ v):=((Tch.setCell (fun i=>i=pb) W ⟨pb,0,none⟩ _ rfl).setCellR ⟨pb,1,none⟩ _ rfl).setCellR ⟨pb,2,none⟩ _ rfl
  refine⟨h1.trans tE (fun i hi e=>by omega),fun q hq=>?_,fun v' hv'=>own_tch (h3 v' hv') tE (fun g hg e=>h6 v' hv' (by rw[hg,e])),fun h=>by cases h⟩
  cases hq
  exact⟨pb,rfl,h4,blk_set (blk_set (blk_set h5 _) _) _,fun v' hv'=>h6 v' hv'⟩
 have HEND:Hid (∀v u q W,C [v,u] (some q) W→ ∃pb,q= .pointer (some ⟨pb,0,none⟩)∧w0.heap.size≤pb∧W.heap[pb]? =some (.cells #[.int .i64 m.nx,.int .i64 m.nx,v] 38 (0,0))∧v.ownBlock≠some pb∧W.ownsRow w0.heap.size 3 1 v m.on.length (icl m.on)∧Tch (fun _=>False) w0 W):=fun v u q W hW=>by
  rw[hC] at hW
  obtain⟨pb,e,h4,h5,h6⟩:=hW.2.1 q rfl
  exact⟨pb,e,h4,h5,h6 v rfl,hW.2.2.1 v rfl,hW.1⟩
 have Hw0:Hid _:=hw0
 have HN:Hid (N=w.heap.size):=hN
 have Ht0:Hid _:=t0
 have HY0:Hid _:=hY0
 have HS0:Hid (w0.heap.size=N+1):=by show _=_;rw[hw0,hN];simp
 obtain⟨nx,hnx⟩: ∃nx,nx=m.nx:=⟨_,rfl⟩
 rw[←hnx] at hK hst HEND
 have Hnx:Hid (nx=m.nx):=hnx
 clear hC h hw0 hN t0 hY0 hnx
 go_enter Tryz.func10,Tryz.ntmps10
 go_wp2_with fail
 have hw0:=Hw0.out
 rw[←hw0]
 clear hw0
 refine wp_region_floo [9,12] 11 _ C [0,1,2,3,4,5,6,7,8,9,10,11,12] (by kernel_rfl) (by kernel_rfl) rfl rfl (by rfl) (by kernel_rfl) (fun s a W hW b K Q hK'=>?_) h0' ?_
 ·go_simp
  exact hK' _ _ (hFl s W hW)
 clear h0'
 iterate 9
  refine floo_read rfl (by go_simp) (by rfl) (by rfl) ?_
  apply Exists.intro
  refine⟨fun s' p' W hl hW b K Q hK'=>?_,fun K hK'=>?_⟩
  ·have a1:=hK _ _ W hW
   go_simp
   exact hK' W hW
  go_simp
  refine hK' _ ?_
  clear hK' K
 refine floo_turn rfl (by go_simp) (by rfl) (fun p' hl W hW b K Q hK'=>?_) (fun u hu K hK'=>?_)
 ·go_simp
  go_at_call 32
  refine(hop p' W hW).mono ?_
  rintro x w' ⟨y,rfl,h1⟩
  exact hK' y w' h1
 obtain⟨vo,vc,rfl⟩: ∃o c,u= .slice o m.on.length c:=by
  obtain⟨p',W',_,hW'⟩:=hu
  exact hsl u p' W' hW'
 clear hu hop hsl
 go_simp
 refine hK' _ ?_
 clear hK' K
 refine floo_read rfl (by go_simp) (by rfl) (by rfl) ?_
 apply Exists.intro
 refine⟨fun s' p' W hl hW b K Q hK'=>?_,fun K hK'=>?_⟩
 ·have a1:=hK _ _ W hW
  go_simp
  exact hK' W hW
 go_simp
 refine hK' _ ?_
 clear hK' K
 refine floo_float rfl (by go_simp) (by rfl) (by rfl) (fun W hW b K Q hK'=>?_) (fun u hu K hK'=>?_)
 ·go_simp
  exact hK' _ _ (hFl _ W hW)
 obtain⟨pb,rfl⟩: ∃pb,u= .pointer (some ⟨pb,0,none⟩):=by
  obtain⟨s',W',hW'⟩:=hu
  exact hptr _ u W' hW'
 clear hu
 go_simp
 refine hK' _ ?_
 clear hK' K
 refine floo_turn rfl (by go_simp) (by rfl) (fun p' hl W hW b K Q hK'=>?_) (fun u hu K hK'=>?_)
 ·obtain rfl:=hl.some
  obtain⟨⟨y0,y1,y2⟩,qf,qC⟩:=hst _ undef pb W hW
  have f0:=qf 0
  have f1:=qf 1
  have f2:=qf 2
  clear qf
  go_simp
  exact hK' _ _ qC
 clear hu
 go_simp
 refine hK' _ ?_
 clear hK' K
 refine floo_nil ?_
 intro w3 hw3
 obtain⟨pb',e,h4,h5,h6,h7,h8⟩:=HEND.out _ _ _ w3 hw3
 injection e with e;injection e with e;injection e with e
 subst e
 clear hK hw3 hst hFl HEND hptr
 rename_i q1 q2
 clear q1 q2
 have hY:w3.heap[N]? =some (.cells #[.int .i64 0,.int .i64 0,.slice none 0 0] 38 (0,0)):=by rw[h8.block N (blk_lt HY0.out) (fun h=>h)];exact HY0.out
 have hpN:pb≠N:=by have:=HS0.out;omega
 obtain⟨z0,z1,z2⟩:w3.cell? ⟨N,0,none⟩=some (.int .i64 0)∧w3.cell? ⟨N,1,none⟩=some (.int .i64 0)∧w3.cell? ⟨N,2,none⟩=some (.slice none 0 0):=⟨by rw[blk_cell hY];rfl,by rw[blk_cell hY];rfl,by rw[blk_cell hY];rfl⟩
 have zf:=fun j=>blk_frozen hY j
 obtain⟨p0,p1,p2⟩:w3.cell? ⟨pb,0,none⟩=some (.int .i64 nx)∧w3.cell? ⟨pb,1,none⟩=some (.int .i64 nx)∧w3.cell? ⟨pb,2,none⟩=some (.slice vo m.on.length vc):=⟨by rw[blk_cell h5];rfl,by rw[blk_cell h5];rfl,by rw[blk_cell h5];rfl⟩
 have pf:=fun j=>blk_frozen h5 j
 have f0:=zf 0;have f1:=zf 1;have f2:=zf 2;have g0:=pf 0
 have HFin:Hid (∀W',Tch (fun i=>i=N∨i=pb) w3 W'→W'.ownsRow w.heap.size 3 1 (.slice vo m.on.length vc) m.on.length (icl m.on)∧Tch (fun _=>False) w W'):=fun W' t=>by
  refine⟨own_low (own_tch h7 t (fun g hg e=>?_)) Ht0.out.size,(Ht0.out.trans' h8).trans t (fun i hi e=>?_)⟩
  ·rcases e with e|e
   ·have:=row_ge h7 hg
    have:=HS0.out
    omega
   ·exact h6 (by rw[hg,e])
  ·have:=HS0.out
   have:=HN.out
   rcases e with e|e<;>omega
 have hrs:Tryz.f10.results=#[.cell 2 38]:=by kernel_rfl
 rw[←HN.out]
 obtain hon|⟨a,r,hon⟩:m.on=[]∨ ∃a r,m.on=a::r:=by
  cases m.on with
  |nil=>exact Or.inl rfl
  |cons a r=>exact Or.inr ⟨a,r,rfl⟩
 ·have HH:Hid (m.on.headD m.nx=nx):=by show _=_;rw[hon,Hnx.out];rfl
  have el:m.on.length=0:=by rw[hon];rfl
  have Hel:Hid _:=el
  rw[el] at p2 HFin ⊢
  clear h5 h6 h7 h8 hY zf pf hon el
  go_wp2_with fail
  refine bodyPost_ret (v:= .agg #[.int .i64 nx,.int .i64 nx,.slice vo 0 vc]) (by simp only[results,hrs];go_simp) rfl ?_
  have h1:=HFin.out _ ((((Tch.setCell (fun i=>i=N∨i=pb) w3 ⟨N,0,none⟩ (.int .i64 nx) (Or.inl rfl)).setCellR ⟨N,1,none⟩ (.int .i64 nx) (Or.inl rfl)).setCellR ⟨N,2,none⟩ (.slice vo 0 vc) (Or.inl rfl)))
  exact⟨⟨.slice vo 0 vc,by rw[HH.out,Hnx.out],by rw[Hel.out];exact h1.1⟩,h1.2⟩
 ·have HH:Hid (m.on.headD m.nx=a):=by show _=_;rw[hon];rfl
  obtain⟨k,hk⟩: ∃k,k=r.length:=⟨_,rfl⟩
  have el:m.on.length=k+1:=by rw[hon,hk];rfl
  have Hel:Hid _:=el
  rw[el] at p2 HFin h7 h6 ⊢
  obtain⟨g,hg,hgc⟩: ∃g,vo=some ⟨g,0,none⟩∧w3.cell? ⟨g,0,none⟩=some (.int .i64 a):=by
   rcases h7.2 with⟨_,h0⟩|⟨g,c,cur,hv,_,hgb,_,_,hs,ht⟩
   ·omega
   ·injection hv with hv
    refine⟨g,hv,?_⟩
    have hc:=h7.cells (g:=g) (by rw[hv];rfl) 0 (.int .i64 a) (by rw[hon];rfl)
    rw[add_plain] at hc
    exact hc
  subst hg
  have hgp:g≠pb:=fun e=>h6 (by rw[e];rfl)
  clear h5 h6 h7 h8 hY zf pf hon el hk
  go_wp2_with fail
  refine bodyPost_ret (v:= .agg #[.int .i64 a,.int .i64 nx,.slice (some ⟨g,0,none⟩) (k+1) vc]) (by simp only[results,hrs];go_simp) rfl ?_
  have h1:=HFin.out _ ((((Tch.setCell (fun i=>i=N∨i=pb) w3 ⟨pb,0,none⟩ (.int .i64 a) (Or.inr rfl)).setCellR ⟨N,0,none⟩ (.int .i64 a) (Or.inl rfl)).setCellR ⟨N,1,none⟩ (.int .i64 nx) (Or.inl rfl)).setCellR ⟨N,2,none⟩ (.slice (some ⟨g,0,none⟩) (k+1) vc) (Or.inl rfl))
  exact⟨⟨.slice (some ⟨g,0,none⟩) (k+1) vc,by rw[HH.out,Hnx.out],by rw[Hel.out];exact h1.1⟩,h1.2⟩
theorem field_num (po:Option Addr) (io:Int) (w:World):(Instr.field 121 (.agg #[.pointer po,.int .i64 io]) 0).run Tryz.prog w= .ok (.pointer po) w:=by kernel_rfl
theorem info_tx:(Tryz.prog.info? 119).map (fun i=>(i.zero,i.size,i.bytes))=some (some (.agg #[.int .i64 0,.int .i64 0,.slice none 0 0]),3,40):=by kernel_rfl
theorem eql_tx_same (a:Addr) (w:World):(binOp .eql 116 (.pointer (some a)) (.pointer (some a))).run Tryz.prog w= .ok (.bool true) w:=by
 obtain⟨i0,hi,_⟩:=info_parts info_tx
 exact run_eql_ptr_same w a Tryz.underlying116 hi
theorem eql_tx_other {a b:Addr} {ca cb:Array Value} {ta tb:TypeId} (w:World) (hne:a≠b) (ha:w.heap[a.block]? =some (.cells ca ta (0,0))) (hb:w.heap[b.block]? =some (.cells cb tb (0,0))):(binOp .eql 116 (.pointer (some a)) (.pointer (some b))).run Tryz.prog w= .ok (.bool false) w:=by
 obtain⟨i0,hi,_,hs,_⟩:=info_parts info_tx
 exact run_eql_ptr_other w Tryz.underlying116 hi (by rw[hs];decide) hne ha hb
theorem eql_tx_nil (a:Addr) (w:World):(binOp .eql 116 (.pointer (some a)) (.pointer none)).run Tryz.prog w= .ok (.bool false) w:=by
 have h: ∀d:Nat,(Op.equalIn (d+1) 116 (.pointer (some a)) (.pointer none)).run Tryz.prog w= .ok false w:=fun d=>by
  simp[Op.equalIn,run_underlying Tryz.underlying116]
 simp only[binOp]
 simp[Op.equal,Op.maxDepth,h 9999]
def sameTx (o:Option (Tx×Int)) (t:Tx):Bool:=match o with
 |none=>false
 |some (u,_)=>decide (u.x=t.x)
def Mg.sees (m:Mg) (mn mx:Int) (l:List Int) (own x:Int):Bool:=match fnd m.tx x with
 |none=>decide (1≤x) && decide (x<mn)
 |some (t,i)=>if sameTx (fnd m.tx own) t then decide (stE (some (t,i))≠4) else decide (stE (some (t,i))=3) && (decide ((t.x:Int)<mx) && !decide ((t.x:Int)∈l))
theorem sees_none (b:Nat) (m:Mg) (σ:Nat→Option Nat) (mb:Nat) (bl:Nat→Nat) (w:World) (h:MG w b m σ mb bl) (mn mx:Int) (l:List Int) (v:Value) (own x:Int) (h1: -9223372036854775808≤x) (h2:x≤9223372036854775807) (hf:fnd m.tx x=none):
  Calls Tryz.prog 58 #[.pointer (some ⟨b,0,none⟩),.agg #[.int .i64 mn,.int .i64 mx,v],.int .i64 own,.int .i64 x] w fun y w'=>y= .returned (.bool (m.sees mn mx l own x))∧Tch (fun _=>False) w w':=by
 obtain⟨w0,hw0⟩: ∃w0,w0=w.alloc (.cells #[.int .i64 mn,.int .i64 mx,v] 38):=⟨_,rfl⟩
 have t0:Tch (fun _=>False) w w0:=by rw[hw0];exact Tch.alloc _ _ _
 have hY0:w0.heap[w.heap.size]? =some (.cells #[.int .i64 mn,.int .i64 mx,v] 38 (0,0)):=by rw[hw0];exact alloc_new _ _
 have c0:=(h.no t0).c0
 have q:=find_any b m σ mb bl x w0 (h.no t0) h1 h2
 rw[lk_none hf] at q
 have qs:=fun W=>known_any none W
 simp only[numV,Option.isSome_none] at q qs
 have HS:Hid (m.sees mn mx l own x=(decide (1≤x) && decide (x<mn))):=by show _=_;simp[Mg.sees,hf]
 have HY0:Hid _:=hY0
 have Ht0:Hid _:=t0
 rw[hw0] at c0
 clear h hf h1 h2 hY0 t0
 go_enter Tryz.func58,Tryz.ntmps58
 go_wp2_with fail
 rw[←hw0]
 refine q.mono ?_
 rintro y w1 ⟨rfl,t1⟩
 clear q hw0 c0
 have HT1:Hid (Tch (fun _=>False) w0 w1):=t1
 clear t1
 go_wp2_with fail
 refine(qs _).mono ?_
 rintro y w2 ⟨rfl,t2⟩
 clear qs
 have T2:=(HT1.out.trans' (Tch.alloc _ _ _)).trans' t2
 have d0:w2.cell? ⟨w.heap.size,0,none⟩=some (.int .i64 mn):=by rw[T2.cell (p:=⟨w.heap.size,0,none⟩) (blk_lt HY0.out) (fun h=>h),blk_cell HY0.out];rfl
 have HT2:Hid (Tch (fun _=>False) w w2):=Ht0.out.trans' T2
 clear t2 T2
 by_cases hx:1≤x
 ·go_wp2
  go_ret
  exact⟨by rw[HS.out];simp[hx],HT2.out⟩
 ·go_wp2
  go_ret
  exact⟨by rw[HS.out,show decide (1≤x)=false from decide_eq_false (by omega)];rfl,HT2.out⟩
theorem sees_some (b:Nat) (m:Mg) (σ:Nat→Option Nat) (mb:Nat) (bl:Nat→Nat) (w:World) (h:MG w b m σ mb bl) (mn mx:Int) (l:List Int) (ao:Option Addr) (c:Nat) (hl:l.length≤9223372036854775807) (hI:IR w ao l) (own x:Int) (h1: -9223372036854775808≤x) (h2:x≤9223372036854775807) (h3: -9223372036854775808≤own) (h4:own≤9223372036854775807) {t:Tx} {i:Int} (hf:fnd m.tx x=some (t,i)):
  Calls Tryz.prog 58 #[.pointer (some ⟨b,0,none⟩),.agg #[.int .i64 mn,.int .i64 mx,.slice ao l.length c],.int .i64 own,.int .i64 x] w fun y w'=>y= .returned (.bool (m.sees mn mx l own x))∧Tch (fun _=>False) w w':=by
 obtain⟨w0,hw0⟩: ∃w0,w0=w.alloc (.cells #[.int .i64 mn,.int .i64 mx,.slice ao l.length c] 38):=⟨_,rfl⟩
 have t0:Tch (fun _=>False) w w0:=by rw[hw0];exact Tch.alloc _ _ _
 have hY0:w0.heap[w.heap.size]? =some (.cells #[.int .i64 mn,.int .i64 mx,.slice ao l.length c] 38 (0,0)):=by rw[hw0];exact alloc_new _ _
 have c0:=(h.no t0).c0
 have q:=find_any b m σ mb bl x w0 (h.no t0) h1 h2
 obtain⟨hx,hi,h64,hst,hlk,htm⟩:=h.at hf
 rw[hlk] at q
 have qs:=fun W=>known_any (some (bl t.x,i)) W
 have qo:=fun W (hW:Tch (fun _=>False) w W)=>find_any b m σ mb bl own W (h.no hW) h3 h4
 have qst:=fun W (hW:Tch (fun _=>False) w W)=>state_some σ (bl t.x) t i W (hx.tch hW (fun _ _ h=>h.elim) (fun _ _ h=>h)) hi h64
 have qc:=fun W (hW:Tch (fun _=>False) w W)=>contains_any l ao c t.x W (hI.no hW) hl
 obtain⟨n,hn⟩: ∃n,n=l.length:=⟨_,rfl⟩
 rw[←hn] at qc hY0 hw0 ⊢
 obtain⟨po,io,hpo,hsm⟩: ∃po io,numV (lkB bl m.tx own)= .agg #[.pointer po,.int .i64 io]∧ ∀W,Tch (fun _=>False) w W→(binOp .eql 116 (.pointer (some ⟨bl t.x,0,none⟩)) (.pointer po)).run Tryz.prog W= .ok (.bool (sameTx (fnd m.tx own) t)) W:=by
  cases ho:fnd m.tx own with
  |none=>exact⟨none,0,by simp[lkB,ho,numV],fun W _=>eql_tx_nil _ _⟩
  |some a=>
   obtain⟨u,j⟩:=a
   refine⟨some ⟨bl u.x,0,none⟩,j,by simp[lkB,ho,numV],fun W tW=>?_⟩
   by_cases hu:u.x=t.x
   ·rw[hu]
    have e:sameTx (some (u,j)) t=true:=by simp[sameTx,hu]
    rw[e]
    exact eql_tx_same _ _
   ·have e:sameTx (some (u,j)) t=false:=by simp[sameTx,hu]
    rw[e]
    obtain⟨_,a1,_⟩:=((h.xs t htm).tch tW (fun _ _ h=>h.elim) (fun _ _ h=>h)).blk
    obtain⟨_,a2,_⟩:=((h.xs u (fnd_mem ho).1).tch tW (fun _ _ h=>h.elim) (fun _ _ h=>h)).blk
    refine eql_tx_other W (fun e=>?_) a1 a2
    injection e with e
    exact hu (h.inj t htm u (fnd_mem ho).1 e).symm
 obtain⟨sm,hsm0⟩: ∃sm,sm=sameTx (fnd m.tx own) t:=⟨_,rfl⟩
 rw[←hsm0] at hsm
 rw[hpo] at qo
 obtain⟨e,he⟩: ∃e,e=stE (some (t,i)):=⟨_,rfl⟩
 have HS:Hid (m.sees mn mx l own x=if sm then decide (e≠4) else decide (e=3) && (decide ((t.x:Int)<mx) && !decide ((t.x:Int)∈l))):=by show _=_;simp only[Mg.sees,hf,he,hsm0]
 rw[←he] at qst
 obtain⟨tb,htb⟩: ∃tb,tb=bl t.x:=⟨_,rfl⟩
 rw[←htb] at q qs qst hsm hx
 simp only[numV,Option.isSome_some] at q qs qst
 obtain⟨tx,htx⟩: ∃tx,tx=t.x:=⟨_,rfl⟩
 rw[←htx] at HS qc
 obtain⟨cc,hcc⟩: ∃cc,cc=decide ((tx:Int)∈l):=⟨_,rfl⟩
 rw[←hcc] at HS qc
 have HY0:Hid _:=hY0
 have Ht0:Hid _:=t0
 have Hx:Hid (XB w σ tb t):=hx
 have Htx:Hid (tx=t.x):=htx
 have Hqo:Hid _:=qo
 have Hqst:Hid _:=qst
 have Hqc:Hid _:=qc
 have Hm:Hid (MG w b m σ mb bl):=h
 have Hsm:Hid _:=hsm
 rw[hw0] at c0
 clear h hf h1 h2 h3 h4 hY0 t0 hx hi h64 hst hlk htm hI hl hn hpo he htb htx hcc qo qst qc hsm hsm0
 go_enter Tryz.func58,Tryz.ntmps58
 go_wp2_with fail
 rw[←hw0]
 refine q.mono ?_
 rintro y w1 ⟨rfl,t1⟩
 clear q hw0 c0
 have HT1:Hid (Tch (fun _=>False) w0 w1):=t1
 clear t1
 go_wp2_with fail
 obtain⟨w2,hw2⟩: ∃w2,w2=w1.alloc (.cells #[.pointer (some ⟨tb,0,none⟩),.int .i64 i] 121):=⟨_,rfl⟩
 have hb:w2.heap[w1.heap.size]? =some (.cells #[.pointer (some ⟨tb,0,none⟩),.int .i64 i] 121 (0,0)):=by rw[hw2];exact alloc_new _ _
 have HT2:Hid (Tch (fun _=>False) w0 w2):=by show Tch _ _ _;rw[hw2];exact HT1.out.trans' (Tch.alloc _ _ _)
 rw[←hw2]
 clear hw2
 refine(qs _).mono ?_
 rintro y w3 ⟨rfl,t3⟩
 clear qs
 obtain⟨n1,hn1⟩: ∃n1,n1=w1.heap.size:=⟨_,rfl⟩
 obtain⟨n0,hn0⟩: ∃n0,n0=w.heap.size:=⟨_,rfl⟩
 have F: ∀W,Tch (fun _=>False) w3 W→(W.cell? ⟨n1,0,none⟩=some (.pointer (some ⟨tb,0,none⟩))∧W.cell? ⟨n1,1,none⟩=some (.int .i64 i))∧(W.cell? ⟨n0,0,none⟩=some (.int .i64 mn)∧W.cell? ⟨n0,1,none⟩=some (.int .i64 mx)∧W.cell? ⟨n0,2,none⟩=some (.slice ao n c))∧W.cell? ⟨b,0,none⟩=some (.map (some mb))∧W.cell? ⟨tb,0,none⟩=some (.int .i64 tx)∧Tch (fun _=>False) w W:=fun W tW=>by
  have T:=t3.trans' tW
  have T0:=HT2.out.trans' T
  have T00:=Ht0.out.trans' T0
  have b1:=hb
  have b0:=HY0.out
  rw[←hn1] at b1
  rw[←hn0] at b0
  have a1:=(T.block n1 (blk_lt b1) (fun h=>h)).trans b1
  have a0:=(T0.block n0 (blk_lt b0) (fun h=>h)).trans b0
  obtain⟨v,e0,_⟩:=(Hx.out.tch T00 (fun _ _ h=>h.elim) (fun _ _ h=>h)).c
  refine⟨⟨by rw[blk_cell a1];rfl,by rw[blk_cell a1];rfl⟩,⟨by rw[blk_cell a0];rfl,by rw[blk_cell a0];rfl,by rw[blk_cell a0];rfl⟩,(Hm.out.no T00).c0,?_,T00⟩
  rw[Htx.out];exact e0
 rw[←hn1, ←hn0]
 have HF:Hid _:=F
 obtain⟨⟨a0,a1⟩,⟨s0,s1,s2⟩,m0,x0,T3⟩:=F w3 (Tch.refl _ _)
 have k0:=cell_regrown a0;have k1:=cell_regrown m0
 have hcall: ∀d os,Calls Tryz.prog 67 #[.map (some mb),.int .i64 own] (grow (redrawn w3 d) os) fun e w''=>e= .returned (.agg #[.pointer po,.int .i64 io])∧ ∃p:Regrown,w''=grow (redrawn w3 p.d) p.os:=fun d os=>Calls.tch_regrown_of (Hqo.out _ (T3.trans' (tch_regrown w3 ⟨d,os⟩)))
 have heq: ∀(a:Regrown),(binOp .eql 116 (.pointer (some ⟨tb,0,none⟩)) (.pointer po)).run Tryz.prog (grow (redrawn w3 a.d) a.os)= .ok (.bool sm) (grow (redrawn w3 a.d) a.os):=fun a=>Hsm.out _ (T3.trans' (tch_regrown w3 a))
 have hfl:=field_num po io
 clear F t3 hb hn1 hn0 T3 a1 s0 s1 s2 x0
 go_wp2_with fail
 refine wp_region_quiet_below (by kernel_rfl) (by kernel_rfl) ?_
 repeat (quiet_step ((go_at_call 67;exact hcall _ _)))
 refine wpQuiet_nil ?_
 rintro w4 ⟨pp,rfl⟩
 have tG:=tch_regrown w3 pp
 obtain⟨W,hW⟩: ∃W,W=grow (redrawn w3 pp.d) pp.os:=⟨_,rfl⟩
 rw[←hW] at tG ⊢
 clear hW k0 k1 hcall a0 m0 heq hfl
 obtain⟨⟨a0,a1⟩,⟨s0,s1,s2⟩,m0,x0,T4⟩:=HF.out W tG
 have HT4:Hid (Tch (fun _=>False) w W):=T4
 cases sm with
 |true=>
  have Q:=Hqst.out W T4
  clear s0 s1 s2 m0 x0 T4 tG
  go_wp2_with fail
  refine Q.mono ?_
  rintro y w5 ⟨rfl,t5⟩
  clear Q a0 a1
  have HT5:Hid (Tch (fun _=>False) w w5):=HT4.out.trans' t5
  clear t5
  by_cases he4:e=4
  ·subst he4
   go_wp2
   go_ret
   exact⟨by rw[HS.out];rfl,HT5.out⟩
  ·have he1:((e:Int)==4)=false:=by simp;omega
   have heI: ¬(e:Int)=4:=by omega
   go_wp2
   go_ret
   exact⟨by rw[HS.out];simp[he4];omega,HT5.out⟩
 |false=>
  have HS':Hid (m.sees mn mx l own x=(decide (e=3) && (decide ((tx:Int)<mx) && !cc))):=by show _=_;rw[HS.out];rfl
  have k0:=cell_regrown a0;have k1:=cell_regrown a1;have k2:=cell_regrown s1;have k3:=cell_regrown s2;have k4:=cell_regrown x0
  have hcall: ∀d os,Calls Tryz.prog 87 #[.agg #[.pointer (some ⟨tb,0,none⟩),.int .i64 i]] (grow (redrawn W d) os) fun e' w''=>e'= .returned (.int .i64 e)∧ ∃p:Regrown,w''=grow (redrawn W p.d) p.os:=fun d os=>Calls.tch_regrown_of (Hqst.out _ (T4.trans' (tch_regrown W ⟨d,os⟩)))
  have hcon: ∀d os,Calls Tryz.prog 88 #[.slice ao n c,.int .i64 tx] (grow (redrawn W d) os) fun e' w''=>e'= .returned (.bool cc)∧ ∃p:Regrown,w''=grow (redrawn W p.d) p.os:=fun d os=>Calls.tch_regrown_of ((Hqc.out _ (T4.trans' (tch_regrown W ⟨d,os⟩))).mono (fun _ _ ⟨h1,h2⟩=>⟨h1,by rw[h2];exact Tch.refl _ _⟩))
  clear a0 a1 s0 s1 s2 m0 x0 T4 tG HS
  by_cases he3:e=3
  ·subst he3
   have hcall': ∀d os,Calls Tryz.prog 87 #[.agg #[.pointer (some ⟨tb,0,none⟩),.int .i64 i]] (grow (redrawn W d) os) fun e' w''=>e'= .returned (.int .i64 3)∧ ∃p:Regrown,w''=grow (redrawn W p.d) p.os:=hcall
   clear hcall
   by_cases hmx:(tx:Int)<mx
   ·go_wp2_with fail
    refine wp_region_quiet_below (by kernel_rfl) (by kernel_rfl) ?_
    go_big_quiet_step (fail)
    go_big_quiet_step ((go_at_call 87;exact hcall' _ _))
    repeat (go_big_quiet_step (fail))
    go_big_quiet_step ((go_at_call 88;exact hcon _ _))
    repeat (go_big_quiet_step (fail))
    refine wpQuiet_nil ?_
    rintro w5 ⟨pp,rfl⟩
    have HT5:Hid (Tch (fun _=>False) w (grow (redrawn W pp.d) pp.os)):=HT4.out.trans' (tch_regrown W pp)
    clear k0 k1 k2 k3 k4 hcall' hcon
    go_wp2
    go_ret
    exact⟨by rw[HS'.out];simp[hmx],HT5.out⟩
   ·go_wp2_with fail
    have hmx2: ¬(tx:Int)<mx:=by omega
    have hmx3:decide ((tx:Int)<mx)=false:=decide_eq_false hmx2
    refine wp_region_quiet_below (by kernel_rfl) (by kernel_rfl) ?_
    go_big_quiet_step (fail)
    go_big_quiet_step ((go_at_call 87;exact hcall' _ _))
    repeat (go_big_quiet_step (fail))
    refine wpQuiet_nil ?_
    rintro w5 ⟨pp,rfl⟩
    have HT5:Hid (Tch (fun _=>False) w (grow (redrawn W pp.d) pp.os)):=HT4.out.trans' (tch_regrown W pp)
    clear k0 k1 k2 k3 k4 hcall' hcon
    go_wp2
    go_ret
    exact⟨by rw[HS'.out,decide_eq_false (p:=(tx:Int)<mx) (by omega)];rfl,HT5.out⟩
  ·have he1:((e:Int)==3)=false:=by simp;omega
   have heI: ¬(e:Int)=3:=by omega
   go_wp2_with fail
   refine wp_region_quiet_below (by kernel_rfl) (by kernel_rfl) ?_
   go_big_quiet_step (fail)
   go_big_quiet_step ((go_at_call 87;exact hcall _ _))
   repeat (go_big_quiet_step (fail))
   refine wpQuiet_nil ?_
   rintro w5 ⟨pp,rfl⟩
   have HT5:Hid (Tch (fun _=>False) w (grow (redrawn W pp.d) pp.os)):=HT4.out.trans' (tch_regrown W pp)
   clear k0 k1 k2 k3 k4 hcall hcon
   go_wp2
   go_ret
   exact⟨by rw[HS'.out];simp[he3],HT5.out⟩
end Go.Proofs.YtppokgdofgigfaaGreat
