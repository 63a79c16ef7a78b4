import Derived.Test.YtppokgdofgigfaaGreatStaged
namespace Go.Proofs.YtppokgdofgigfaaGreat
open Go
def barFrom (md:Region.Mode) (ops:Array Oper) (S:List Nat):Nat→Nat→Array Bool→Bool
 |0,_,_=>true
 |f+1,p,listed=>(!S.contains p||Region.ready md ops listed==[p]) && barFrom md ops S f (p+1) (listed.setIfInBounds p true)
def YV (P:Program) (o:Oper) (a:Act) (C:Value→World→Prop) (W:World):Prop:=
 ∀(b:Act) (K:Act→World→Prop) (Q:Exit→Act→World→Prop),(∀v W',C v W'→K (b.put o.dst v) W')→o.upon P b K Q ((execOp a.eval o).run P W)
theorem YV.same {P:Program} {o:Oper} {a a':Act} {C:Value→World→Prop} {W:World} (h:YV P o a C W) (he:execOp a'.eval o=execOp a.eval o):YV P o a' C W:=by
 unfold YV at*
 rw[he];exact h
def vOp (P:Program) (ops:Array Oper) (S:List Nat) (C:List Value→World→Prop) (i:Nat) (K:List Value→Act→Prop) (s:List Value) (a:Act):Prop:=
 match ops[i]? with
 |none=>K s a
 |some o=>
  if Region.wanted o (yielded ops a.tmps) then
   (if S.contains i then(∀W,C s W→YV P o a (fun v=>C (s++[v])) W)∧(∀v,(∃W',C (s++[v]) W')→K (s++[v]) (a.put o.dst v)) else∃v,(∀s' W,C (s++s') W→YS P o a (C (s++s')) W v)∧K s (a.put o.dst v))
  else K s (a.put o.dst undef)
theorem vOp_mono {P:Program} {ops:Array Oper} {S:List Nat} {C:List Value→World→Prop} {i:Nat} {K K':List Value→Act→Prop} {s:List Value} {a:Act} (h: ∀s a,K s a→K' s a) (hh:vOp P ops S C i K s a):vOp P ops S C i K' s a:=by
 unfold vOp at*
 split
 ·rename_i ho;simp only[ho] at hh;exact h _ _ hh
 ·rename_i o ho
  simp only[ho] at hh
  split
  ·rename_i hw
   simp only[hw,if_true] at hh
   split
   ·rename_i hs;rw[if_pos hs] at hh;obtain⟨h1,h2⟩:=hh;exact⟨h1,fun v hv=>h _ _ (h2 v hv)⟩
   ·rename_i hs;rw[if_neg hs] at hh;obtain⟨v,h1,h2⟩:=hh;exact⟨v,h1,h _ _ h2⟩
  ·rename_i hw;rw[if_neg hw] at hh;exact h _ _ hh
def anyV (P:Program) (md:Region.Mode) (ops:Array Oper) (S:List Nat) (C:List Value→World→Prop) (Q:List Value→Act→Prop):Nat→Array Bool→List Value→Act→Prop
 |0,listed,s,a=>Region.ready md ops listed=[]∧Q s a
 |f+1,listed,s,a=>(Region.ready md ops listed=[]→Q s a)∧ ∀i∈Region.ready md ops listed,vOp P ops S C i (anyV P md ops S C Q f (listed.setIfInBounds i true)) s a
theorem wpOp_of_vOp {P:Program} {ops:Array Oper} {S:List Nat} {C:List Value→World→Prop} {i:Nat} {s:List Value} {K:List Value→Act→Prop} {K':Act→World→Prop} {Q':Exit→Act→World→Prop} {a:Act} {w:World} (hC:C s w) (h: ∀s a w',C s w'→K s a→K' a w') (hh:vOp P ops S C i K s a):wpOp P ops Q' i K' a w:=by
 unfold vOp at hh
 unfold wpOp
 split
 ·rename_i ho;simp only[ho] at hh;exact h _ _ _ hC hh
 ·rename_i o ho
  simp only[ho] at hh
  split
  ·rename_i hw
   simp only[hw,if_true] at hh
   left
   split at hh
   ·obtain⟨h1,h2⟩:=hh
    exact h1 w hC a K' Q' (fun v W' hW'=>h _ _ _ hW' (h2 v ⟨W',hW'⟩))
   ·obtain⟨v,h1,h2⟩:=hh
    have h1':=h1 [] w (by simpa using hC) a K' Q'
    refine h1' (fun W' hW'=>h _ _ _ (by simpa using hW') h2)
  ·rename_i hw;rw[if_neg hw] at hh;exact h _ _ _ hC hh
theorem wpAny_of_anyV {P:Program} {md:Region.Mode} {ops:Array Oper} {S:List Nat} {C:List Value→World→Prop} {Q:List Value→Act→Prop} {Q':Exit→Act→World→Prop} (hQ: ∀s a w,C s w→Q s a→Q' .normal a w) (f:Nat):
  ∀(listed:Array Bool) (s:List Value) (a:Act) (w:World),C s w→anyV P md ops S C Q f listed s a→wpAny P md ops Q' f listed a w:=by
 induction f with
 |zero=>intro listed s a w hw h;exact⟨h.1,hQ _ _ _ hw h.2⟩
 |succ f ih=>intro listed s a w hw h;exact⟨fun h0=>hQ _ _ _ hw (h.1 h0),fun i hi=>wpOp_of_vOp hw (fun s' a' w' hw' h'=>ih _ s' a' w' hw' h') (h.2 i hi)⟩
def YR (P:Program) (ops:Array Oper) (C:List Value→World→Prop) (o:Oper) (v:Value) (s:List Value) (a:Act):Prop:=
 (Region.wanted o (yielded ops a.tmps)=true∧ ∀s' W,C (s++s') W→YS P o a (C (s++s')) W v)∨
 (Region.wanted o (yielded ops a.tmps)=false∧v=undef)
theorem YR.vOp {P:Program} {ops:Array Oper} {S:List Nat} {C:List Value→World→Prop} {i:Nat} {o:Oper} {v:Value} {s:List Value} {a:Act} (hi:ops[i]? =some o) (hs:S.contains i=false) (hy:YR P ops C o v s a) {K:List Value→Act→Prop} (h:K s (a.put o.dst v)):vOp P ops S C i K s a:=by
 unfold Go.Proofs.YtppokgdofgigfaaGreat.vOp
 simp only[hi]
 rcases hy with⟨hw,hv⟩|⟨hw,rfl⟩
 ·simp only[hw,hs,if_true,Bool.false_eq_true,if_false];exact⟨v,hv,h⟩
 ·simp only[hw,Bool.false_eq_true,if_false];exact h
theorem yr_of_vOp {P:Program} {ops:Array Oper} {S:List Nat} {C:List Value→World→Prop} {i:Nat} {o:Oper} {s:List Value} {a:Act} {K:List Value→Act→Prop} (hi:ops[i]? =some o) (hs:S.contains i=false) (h:vOp P ops S C i K s a): ∃v,YR P ops C o v s a∧K s (a.put o.dst v):=by
 unfold vOp at h
 simp only[hi] at h
 by_cases hw:Region.wanted o (yielded ops a.tmps)=true
 ·simp only[hw,if_true] at h
  rw[if_neg (by rw[hs];exact Bool.false_ne_true)] at h
  obtain⟨v,h1,h2⟩:=h
  exact⟨v,.inl ⟨hw,h1⟩,h2⟩
 ·rw[if_neg hw] at h
  exact⟨undef,.inr ⟨by simpa using hw,rfl⟩,h⟩
theorem YR.keep {P:Program} {ops:Array Oper} {C:List Value→World→Prop} {o:Oper} {v:Value} {s:List Value} {a a':Act} (hy:YR P ops C o v s a) (he:execOp a'.eval o=execOp a.eval o)
  (hw:Region.wanted o (yielded ops a'.tmps)=Region.wanted o (yielded ops a.tmps)) (t:List Value):YR P ops C o v (s++t) a':=by
 rcases hy with⟨h1,h4⟩|⟨h1,h3⟩
 ·refine .inl ⟨hw.trans h1,fun s' W hW=>?_⟩
  rw[List.append_assoc] at hW ⊢
  exact(h4 (t++s') W hW).same he
 ·exact .inr ⟨hw.trans h1,h3⟩
theorem vOp_put {P:Program} {ops:Array Oper} {S:List Nat} {C:List Value→World→Prop} {j:Nat} {oj:Oper} {s:List Value} {a b:Act} {K K':List Value→Act→Prop} (hj:ops[j]? =some oj) (he:execOp a.eval oj=execOp b.eval oj) (hw:Region.wanted oj (yielded ops a.tmps)=Region.wanted oj (yielded ops b.tmps))
  (hh:vOp P ops S C j K s b) (hK: ∀t u,K (s++t) (b.put oj.dst u)→K' (s++t) (a.put oj.dst u)):vOp P ops S C j K' s a:=by
 unfold vOp at*
 simp only[hj] at*
 rw[hw]
 split
 ·rename_i h1
  rw[if_pos h1] at hh
  split
  ·rename_i h2
   rw[if_pos h2] at hh
   exact⟨fun W hW=>(hh.1 W hW).same he,fun v hv=>hK [v] v (hh.2 v hv)⟩
  ·rename_i h2
   rw[if_neg h2] at hh
   obtain⟨v,h3,h4⟩:=hh
   have:=hK [] v (by simpa using h4)
   exact⟨v,fun s' W hW=>(h3 s' W hW).same he,by simpa using this⟩
 ·rename_i h1
  rw[if_neg h1] at hh
  have:=hK [] undef (by simpa using hh)
  simpa using this
theorem anyV_first {P:Program} {md:Region.Mode} {ops:Array Oper} {S:List Nat} {C:List Value→World→Prop} {Q:List Value→Act→Prop} {i:Nat} {oi:Oper} {v:Value} (hi:ops[i]? =some oi) (hsi:S.contains i=false) (hsel: ∀(j:Nat) (o:Oper) cs b,ops[j]? =some o→o.op≠ .select cs b) (f:Nat):
  ∀(listed:Array Bool) (s:List Value) (a:Act),HeadInv md ops ops.size listed→
   (∀j oj,ops[j]? =some oj→j≠i→listed.getD j true=false→(∀e∈oj.after,Region.binds md e=true→e.on≠i)→oi.apart ops oj=true)→
   i∈Region.ready md ops listed→YR P ops C oi v s a→
   anyV P md ops S C Q f (listed.setIfInBounds i true) s (a.put oi.dst v)→anyV P md ops S C Q (f+1) listed s a:=by
 have ne: ∀(listed:Array Bool),i∈Region.ready md ops listed→Region.ready md ops listed≠[]:=fun listed hr h=>by rw[h] at hr;cases hr
 induction f with
 |zero=>
  intro listed s a _ _ hr hy H
  refine⟨fun h0=>absurd h0 (ne _ hr),fun j hj=>?_⟩
  by_cases hji:j=i
  ·subst hji;exact hy.vOp hi hsi H
  ·have:=ready_mono hj hji
   rw[H.1] at this
   cases this
 |succ f ih=>
  intro listed s a inv hfree hr hy H
  refine⟨fun h0=>absurd h0 (ne _ hr),fun j hj=>?_⟩
  by_cases hji:j=i
  ·subst hji;exact hy.vOp hi hsi H
  ·obtain⟨hjun,oj,hoj,hall⟩:=mem_ready.1 hj
   have hjlt:j<ops.size:=(Array.getElem?_eq_some_iff.1 hoj).1
   have hnot: ∀e∈oj.after,Region.binds md e=true→e.on≠i:=fun e he hb heq=>by
    have h1:=hall e he hb
    rw[heq,getD_both (mem_ready.1 hr).1] at h1
    cases h1
   obtain⟨h1,h2,h3⟩:=Oper.apart_spec (hfree j oj hoj hji hjun hnot)
   refine vOp_put hoj (execOp_put oj (fun cs b=>hsel j oj cs b hoj) a oi.dst v h1).symm (wanted_put oj a oi.dst v h1).symm (H.2 j (ready_mono hj hji)) (fun t u hn=>?_)
   refine ih (listed.setIfInBounds j true) (s++t) (a.put oj.dst u) (inv.set hj hjlt) (fun m om hm hmi hun hno=>hfree m om hm hmi ?_ hno) (ready_mono hr (Ne.symm hji)) ?_ ?_
   ·by_cases hjm:j=m
    ·subst hjm;exact hjun
    ·rwa [getD_set_ne true hjm] at hun
   ·exact hy.keep (execOp_put oi (fun cs b=>hsel i oi cs b hi) a oj.dst u h3) (wanted_put oi a oj.dst u h3) t
   ·rw[Array.setIfInBounds_comm _ _ hji, ←Act.put_comm a v u h2]
    exact hn
theorem anyV_turn {P:Program} {md:Region.Mode} {ops:Array Oper} {S:List Nat} {C:List Value→World→Prop} {Q:List Value→Act→Prop} {i f:Nat} {s:List Value} {listed:Array Bool} {a:Act} (hr:Region.ready md ops listed=[i])
  (h:vOp P ops S C i (anyV P md ops S C Q f (listed.setIfInBounds i true)) s a):anyV P md ops S C Q (f+1) listed s a:=by
 refine⟨fun h0=>(by rw[hr] at h0;cases h0),fun j hj=>?_⟩
 rw[hr] at hj
 obtain rfl:j=i:=by simpa using hj
 exact h
def wpBarv (P:Program) (ops:Array Oper) (S:List Nat) (C:List Value→World→Prop) (Q:List Value→Act→Prop):List Oper→Nat→List Value→Act→Prop
 |[],_,s,a=>Q s a
 |o::rest,p,s,a=>
  if Region.wanted o (yielded ops a.tmps) then
   (if S.contains p then(∀W,C s W→YV P o a (fun v=>C (s++[v])) W)∧(∀v,(∃W',C (s++[v]) W')→wpBarv P ops S C Q rest (p+1) (s++[v]) (a.put o.dst v)) else∃v,(∀s' W,C (s++s') W→YS P o a (C (s++s')) W v)∧wpBarv P ops S C Q rest (p+1) s (a.put o.dst v))
  else wpBarv P ops S C Q rest (p+1) s (a.put o.dst undef)
theorem barv_nil {P:Program} {ops:Array Oper} {S:List Nat} {C:List Value→World→Prop} {Q:List Value→Act→Prop} {p:Nat} {s:List Value} {a:Act} (h:Q s a):wpBarv P ops S C Q [] p s a:=h
theorem barv_read {P:Program} {ops:Array Oper} {S:List Nat} {C:List Value→World→Prop} {Q:List Value→Act→Prop} {o:Oper} {rest:List Oper} {p:Nat} {s:List Value} {a:Act} (hw:Region.wanted o (yielded ops a.tmps)=true) (hs:S.contains p=false)
  (h: ∃v,(∀s' W,C (s++s') W→YS P o a (C (s++s')) W v)∧ ∀K:Act→Prop,(∀a,wpBarv P ops S C Q rest (p+1) s a→K a)→K (a.put o.dst v)):wpBarv P ops S C Q (o::rest) p s a:=by
 obtain⟨v,h1,h2⟩:=h
 unfold wpBarv
 rw[if_pos hw,if_neg (by rw[hs];exact Bool.false_ne_true)]
 exact⟨v,h1,h2 _ (fun _ h=>h)⟩
theorem barv_turn {P:Program} {ops:Array Oper} {S:List Nat} {C:List Value→World→Prop} {Q:List Value→Act→Prop} {o:Oper} {rest:List Oper} {p:Nat} {s:List Value} {a:Act} (hw:Region.wanted o (yielded ops a.tmps)=true) (hs:S.contains p=true)
  (h1: ∀W,C s W→YV P o a (fun v=>C (s++[v])) W) (h2: ∀v,(∃W',C (s++[v]) W')→ ∀K:Act→Prop,(∀a,wpBarv P ops S C Q rest (p+1) (s++[v]) a→K a)→K (a.put o.dst v)):wpBarv P ops S C Q (o::rest) p s a:=by
 unfold wpBarv
 rw[if_pos hw,if_pos hs]
 exact⟨h1,fun v hv=>h2 v hv _ (fun _ h=>h)⟩
theorem anyV_lex {P:Program} {md:Region.Mode} {ops:Array Oper} {S:List Nat} {C:List Value→World→Prop} {Q:List Value→Act→Prop} (hsel:Region.noSelect ops=true) (l:List Oper):
  ∀(p:Nat) (listed:Array Bool) (s:List Value) (a:Act),(∀j,l[j]? =ops[p+j]?)→HeadInv md ops ops.size listed→Region.lexFrom md ops l.length p listed=true→barFrom md ops S l.length p listed=true→wpBarv P ops S C Q l p s a→anyV P md ops S C Q l.length listed s a:=by
 induction l with
 |nil=>intro p listed s a _ _ hB _ h;exact⟨by simpa[Region.lexFrom] using hB,h⟩
 |cons o l ih=>
  intro p listed s a hl inv hB hF h
  have h0:ops[p]? =some o:=by simpa using(hl 0).symm
  simp only[List.length_cons,Region.lexFrom,Bool.and_eq_true] at hB
  have hr:p∈Region.ready md ops listed:=by simpa using hB.1.1
  have hst:vOp P ops S C p (fun s a=>wpBarv P ops S C Q l (p+1) s a) s a:=by unfold vOp;simp only[h0];exact h
  simp only[List.length_cons,barFrom,Bool.and_eq_true,Bool.or_eq_true,Bool.not_eq_true'] at hF
  have hl': ∀j,l[j]? =ops[p+1+j]? :=fun j=>by
   have:=hl (j+1)
   simpa[Nat.add_assoc,Nat.add_comm 1 j] using this
  have inv':=inv.set hr (Array.getElem?_eq_some_iff.1 h0).1
  by_cases hs:S.contains p=true
  ·have hrd:Region.ready md ops listed=[p]:=by
    rcases hF.1 with h1|h1
    ·rw[hs] at h1;cases h1
    ·simpa using h1
   exact anyV_turn hrd (vOp_mono (fun s' a' h'=>ih (p+1) _ s' a' hl' inv' hB.2 hF.2 h') hst)
  ·have hsf:S.contains p=false:=by simpa using hs
   obtain⟨v,hy,hK⟩:=yr_of_vOp h0 hsf hst
   exact anyV_first h0 hsf (Region.noSelect_spec hsel) l.length listed s a inv (Region.free_spec h0 hB.1.2) hr hy (ih (p+1) _ _ _ hl' inv' hB.2 hF.2 hK)
theorem wp_region_barv {P:Program} {id:Nat} {Q:Exit→Act→World→Prop} {a:Act} {w:World} {l:List Oper} (S:List Nat) (C:List Value→World→Prop) (hm:P.follows .mixedOrders=true) (hB:Region.lexB .any l.toArray=true) (hS:barFrom .any l.toArray S l.length 0 (Array.replicate l.toArray.size false)=true) (hC:C [] w.drew)
  (h:wpBarv P l.toArray S C (fun s a'=> ∀w',C s w'→Q .normal a' w') l 0 [] a):(Code.region id l.toArray true).wp P Q a w:=by
 simp only[Region.lexB,Bool.and_eq_true] at hB
 have inv0:HeadInv .any l.toArray l.toArray.size (Array.replicate l.toArray.size false):=
  ⟨by simp,fun j oj _ hl=>(by rw[getD_replicate_false] at hl;cases hl),fun t h1 h2=>by omega⟩
 have H:=anyV_lex (md:= .any) hB.1 l 0 _ [] a (by simp) inv0 (by simpa using hB.2) hS h
 refine wp_region_any hm (wpAny_of_anyV (S:=S) (Q:=fun s a'=> ∀w',C s w'→Q .normal a' w') (fun s a w' hw' h=>h w' hw') _ _ [] _ _ hC ?_)
 simpa using H
def Later (p p':Option Value):Prop:=p=none∨p'=p
theorem Later.refl (p:Option Value):Later p p:=Or.inr rfl
theorem Later.some {p:Option Value} {v:Value} (h:Later (some v) p):p=some v:=h.elim (fun h=>by cases h) id
def fOp (P:Program) (ops:Array Oper) (S:List Nat) (f0:Nat) (C:List Value→Option Value→World→Prop) (i:Nat) (K:List Value→Option Value→Act→Prop) (s:List Value) (p:Option Value) (a:Act):Prop:=
 match ops[i]? with
 |none=>K s p a
 |some o=>
  if Region.wanted o (yielded ops a.tmps) then
   (if S.contains i then(∀p',Later p p'→ ∀W,C s p' W→YV P o a (fun v=>C (s++[v]) p') W)∧(∀v,(∃p' W',Later p p'∧C (s++[v]) p' W')→K (s++[v]) p (a.put o.dst v))
    else if i=f0 then(∀W,C s p W→YV P o a (fun v=>C s (some v)) W)∧(∀v,(∃s' W',C (s++s') (some v) W')→K s (some v) (a.put o.dst v))
    else∃v,(∀s' p' W,Later p p'→C (s++s') p' W→YS P o a (C (s++s') p') W v)∧K s p (a.put o.dst v))
  else K s p (a.put o.dst undef)
def anyF (P:Program) (md:Region.Mode) (ops:Array Oper) (S:List Nat) (f0:Nat) (C:List Value→Option Value→World→Prop) (Q:List Value→Option Value→Act→Prop):Nat→Array Bool→List Value→Option Value→Act→Prop
 |0,listed,s,p,a=>Region.ready md ops listed=[]∧Q s p a
 |f+1,listed,s,p,a=>(Region.ready md ops listed=[]→Q s p a)∧ ∀i∈Region.ready md ops listed,fOp P ops S f0 C i (anyF P md ops S f0 C Q f (listed.setIfInBounds i true)) s p a
theorem wpOp_of_fOp {P:Program} {ops:Array Oper} {S:List Nat} {f0:Nat} {C:List Value→Option Value→World→Prop} {i:Nat} {s:List Value} {p:Option Value} {K:List Value→Option Value→Act→Prop} {K':Act→World→Prop} {Q':Exit→Act→World→Prop} {a:Act} {w:World} (hC:C s p w) (h: ∀s p a w',C s p w'→K s p a→K' a w') (hh:fOp P ops S f0 C i K s p a):wpOp P ops Q' i K' a w:=by
 unfold fOp at hh
 unfold wpOp
 split
 ·rename_i ho;simp only[ho] at hh;exact h _ _ _ _ hC hh
 ·rename_i o ho
  simp only[ho] at hh
  split
  ·rename_i hw
   simp only[hw,if_true] at hh
   left
   split at hh
   ·obtain⟨h1,h2⟩:=hh
    exact h1 p (Later.refl p) w hC a K' Q' (fun v W' hW'=>h _ _ _ _ hW' (h2 v ⟨p,W',Later.refl p,hW'⟩))
   ·split at hh
    ·obtain⟨h1,h2⟩:=hh
     exact h1 w hC a K' Q' (fun v W' hW'=>h _ _ _ _ hW' (h2 v ⟨[],W',by simpa using hW'⟩))
    ·obtain⟨v,h1,h2⟩:=hh
     have h1':=h1 [] p w (Later.refl p) (by simpa using hC) a K' Q'
     exact h1' (fun W' hW'=>h _ _ _ _ (by simpa using hW') h2)
  ·rename_i hw;rw[if_neg hw] at hh;exact h _ _ _ _ hC hh
theorem wpAny_of_anyF {P:Program} {md:Region.Mode} {ops:Array Oper} {S:List Nat} {f0:Nat} {C:List Value→Option Value→World→Prop} {Q:List Value→Option Value→Act→Prop} {Q':Exit→Act→World→Prop} (hQ: ∀s p a w,C s p w→Q s p a→Q' .normal a w) (f:Nat):
  ∀(listed:Array Bool) (s:List Value) (p:Option Value) (a:Act) (w:World),C s p w→anyF P md ops S f0 C Q f listed s p a→wpAny P md ops Q' f listed a w:=by
 induction f with
 |zero=>intro listed s p a w hw h;exact⟨h.1,hQ _ _ _ _ hw h.2⟩
 |succ f ih=>intro listed s p a w hw h;exact⟨fun h0=>hQ _ _ _ _ hw (h.1 h0),fun i hi=>wpOp_of_fOp hw (fun s' p' a' w' hw' h'=>ih _ s' p' a' w' hw' h') (h.2 i hi)⟩
def YQ (P:Program) (ops:Array Oper) (C:List Value→Option Value→World→Prop) (o:Oper) (v:Value) (s:List Value) (p:Option Value) (a:Act):Prop:=
 (Region.wanted o (yielded ops a.tmps)=true∧ ∀s' p' W,Later p p'→C (s++s') p' W→YS P o a (C (s++s') p') W v)∨
 (Region.wanted o (yielded ops a.tmps)=false∧v=undef)
theorem YQ.fOp {P:Program} {ops:Array Oper} {S:List Nat} {f0:Nat} {C:List Value→Option Value→World→Prop} {i:Nat} {o:Oper} {v:Value} {s:List Value} {p:Option Value} {a:Act} (hi:ops[i]? =some o) (hs:S.contains i=false) (hf:i≠f0) (hy:YQ P ops C o v s p a) {K:List Value→Option Value→Act→Prop} (h:K s p (a.put o.dst v)):fOp P ops S f0 C i K s p a:=by
 unfold Go.Proofs.YtppokgdofgigfaaGreat.fOp
 simp only[hi]
 rcases hy with⟨hw,hv⟩|⟨hw,rfl⟩
 ·simp only[hw,hs,hf,if_true,Bool.false_eq_true,if_false];exact⟨v,hv,h⟩
 ·simp only[hw,Bool.false_eq_true,if_false];exact h
theorem yq_of_fOp {P:Program} {ops:Array Oper} {S:List Nat} {f0:Nat} {C:List Value→Option Value→World→Prop} {i:Nat} {o:Oper} {s:List Value} {p:Option Value} {a:Act} {K:List Value→Option Value→Act→Prop} (hi:ops[i]? =some o) (hs:S.contains i=false) (hf:i≠f0) (h:fOp P ops S f0 C i K s p a): ∃v,YQ P ops C o v s p a∧K s p (a.put o.dst v):=by
 unfold fOp at h
 simp only[hi] at h
 by_cases hw:Region.wanted o (yielded ops a.tmps)=true
 ·simp only[hw,if_true] at h
  rw[if_neg (by rw[hs];exact Bool.false_ne_true),if_neg hf] at h
  obtain⟨v,h1,h2⟩:=h
  exact⟨v,.inl ⟨hw,h1⟩,h2⟩
 ·rw[if_neg hw] at h
  exact⟨undef,.inr ⟨by simpa using hw,rfl⟩,h⟩
theorem YQ.keep {P:Program} {ops:Array Oper} {C:List Value→Option Value→World→Prop} {o:Oper} {v:Value} {s:List Value} {p:Option Value} {a a':Act} (hy:YQ P ops C o v s p a) (he:execOp a'.eval o=execOp a.eval o)
  (hw:Region.wanted o (yielded ops a'.tmps)=Region.wanted o (yielded ops a.tmps)) (t:List Value) {p':Option Value} (hp:Later p p'):YQ P ops C o v (s++t) p' a':=by
 rcases hy with⟨h1,h4⟩|⟨h1,h3⟩
 ·refine .inl ⟨hw.trans h1,fun s' p'' W hl hW=>?_⟩
  rw[List.append_assoc] at hW ⊢
  refine(h4 (t++s') p'' W ?_ hW).same he
  rcases hp with hp|hp
  ·exact Or.inl hp
  ·rw[hp] at hl;exact hl
 ·exact .inr ⟨hw.trans h1,h3⟩
theorem fOp_put {P:Program} {ops:Array Oper} {S:List Nat} {f0:Nat} {C:List Value→Option Value→World→Prop} {j:Nat} {oj:Oper} {s:List Value} {p:Option Value} {a b:Act} {K K':List Value→Option Value→Act→Prop} (hj:ops[j]? =some oj) (he:execOp a.eval oj=execOp b.eval oj) (hw:Region.wanted oj (yielded ops a.tmps)=Region.wanted oj (yielded ops b.tmps)) (hp0:j=f0→p=none)
  (hh:fOp P ops S f0 C j K s p b) (hK: ∀t p' u,Later p p'→(j≠f0→p'=p)→K (s++t) p' (b.put oj.dst u)→K' (s++t) p' (a.put oj.dst u)):fOp P ops S f0 C j K' s p a:=by
 unfold fOp at*
 simp only[hj] at*
 rw[hw]
 split
 ·rename_i h1
  rw[if_pos h1] at hh
  split
  ·rename_i h2
   rw[if_pos h2] at hh
   exact⟨fun p' hl W hW=>(hh.1 p' hl W hW).same he,fun v hv=>hK [v] p v (Later.refl p) (fun _=>rfl) (hh.2 v hv)⟩
  ·rename_i h2
   rw[if_neg h2] at hh
   split
   ·rename_i h3
    rw[if_pos h3] at hh
    refine⟨fun W hW=>(hh.1 W hW).same he,fun v hv=>?_⟩
    have:=hK [] (some v) v (Or.inl (hp0 h3)) (fun h=>absurd h3 h) (by simpa using hh.2 v hv)
    simpa using this
   ·rename_i h3
    rw[if_neg h3] at hh
    obtain⟨v,h3,h4⟩:=hh
    have:=hK [] p v (Later.refl p) (fun _=>rfl) (by simpa using h4)
    exact⟨v,fun s' p' W hl hW=>(h3 s' p' W hl hW).same he,by simpa using this⟩
 ·rename_i h1
  rw[if_neg h1] at hh
  have:=hK [] p undef (Later.refl p) (fun _=>rfl) (by simpa using hh)
  simpa using this
theorem anyF_first {P:Program} {md:Region.Mode} {ops:Array Oper} {S:List Nat} {f0:Nat} {C:List Value→Option Value→World→Prop} {Q:List Value→Option Value→Act→Prop} {i:Nat} {oi:Oper} {v:Value} (hi:ops[i]? =some oi) (hsi:S.contains i=false) (hfi:i≠f0) (hsel: ∀(j:Nat) (o:Oper) cs b,ops[j]? =some o→o.op≠ .select cs b) (f:Nat):
  ∀(listed:Array Bool) (s:List Value) (p:Option Value) (a:Act),HeadInv md ops ops.size listed→
   (∀j oj,ops[j]? =some oj→j≠i→listed.getD j true=false→(∀e∈oj.after,Region.binds md e=true→e.on≠i)→oi.apart ops oj=true)→
   i∈Region.ready md ops listed→(listed.getD f0 true=false→p=none)→YQ P ops C oi v s p a→
   anyF P md ops S f0 C Q f (listed.setIfInBounds i true) s p (a.put oi.dst v)→anyF P md ops S f0 C Q (f+1) listed s p a:=by
 have ne: ∀(listed:Array Bool),i∈Region.ready md ops listed→Region.ready md ops listed≠[]:=fun listed hr h=>by rw[h] at hr;cases hr
 induction f with
 |zero=>
  intro listed s p a _ _ hr _ hy H
  refine⟨fun h0=>absurd h0 (ne _ hr),fun j hj=>?_⟩
  by_cases hji:j=i
  ·subst hji;exact hy.fOp hi hsi hfi H
  ·have:=ready_mono hj hji
   rw[H.1] at this
   cases this
 |succ f ih=>
  intro listed s p a inv hfree hr hpl hy H
  refine⟨fun h0=>absurd h0 (ne _ hr),fun j hj=>?_⟩
  by_cases hji:j=i
  ·subst hji;exact hy.fOp hi hsi hfi H
  ·obtain⟨hjun,oj,hoj,hall⟩:=mem_ready.1 hj
   have hjlt:j<ops.size:=(Array.getElem?_eq_some_iff.1 hoj).1
   have hnot: ∀e∈oj.after,Region.binds md e=true→e.on≠i:=fun e he hb heq=>by
    have h1:=hall e he hb
    rw[heq,getD_both (mem_ready.1 hr).1] at h1
    cases h1
   obtain⟨h1,h2,h3⟩:=Oper.apart_spec (hfree j oj hoj hji hjun hnot)
   refine fOp_put hoj (execOp_put oj (fun cs b=>hsel j oj cs b hoj) a oi.dst v h1).symm (wanted_put oj a oi.dst v h1).symm (fun e=>hpl (e▸hjun)) (H.2 j (ready_mono hj hji)) (fun t p' u hl hp' hn=>?_)
   refine ih (listed.setIfInBounds j true) (s++t) p' (a.put oj.dst u) (inv.set hj hjlt) (fun m om hm hmi hun hno=>hfree m om hm hmi ?_ hno) (ready_mono hr (Ne.symm hji)) (fun hun=>?_) ?_ ?_
   ·by_cases hjm:j=m
    ·subst hjm;exact hjun
    ·rwa [getD_set_ne true hjm] at hun
   ·by_cases hjf:j=f0
    ·subst hjf
     have hin:j<listed.size:=by
      have hz:=hjun
      unfold Array.getD at hz
      split at hz
      ·assumption
      ·cases hz
     simp[Array.getD,hin] at hun
    ·rw[getD_set_ne true hjf] at hun
     rw[hp' hjf];exact hpl hun
   ·exact hy.keep (execOp_put oi (fun cs b=>hsel i oi cs b hi) a oj.dst u h3) (wanted_put oi a oj.dst u h3) t hl
   ·rw[Array.setIfInBounds_comm _ _ hji, ←Act.put_comm a v u h2]
    exact hn
theorem anyF_only {P:Program} {md:Region.Mode} {ops:Array Oper} {S:List Nat} {f0:Nat} {C:List Value→Option Value→World→Prop} {Q:List Value→Option Value→Act→Prop} {i f:Nat} {s:List Value} {p:Option Value} {listed:Array Bool} {a:Act} (hr:Region.ready md ops listed=[i])
  (h:fOp P ops S f0 C i (anyF P md ops S f0 C Q f (listed.setIfInBounds i true)) s p a):anyF P md ops S f0 C Q (f+1) listed s p a:=by
 refine⟨fun h0=>(by rw[hr] at h0;cases h0),fun j hj=>?_⟩
 rw[hr] at hj
 obtain rfl:j=i:=by simpa using hj
 exact h
theorem anyF_only' {P:Program} {md:Region.Mode} {ops:Array Oper} {S:List Nat} {f0:Nat} {C:List Value→Option Value→World→Prop} {Q:List Value→Option Value→Act→Prop} {i f:Nat} {s:List Value} {p:Option Value} {listed:Array Bool} {a:Act} (hir:i∈Region.ready md ops listed) (hr: ∀j∈Region.ready md ops listed,j=i)
  (h:fOp P ops S f0 C i (anyF P md ops S f0 C Q f (listed.setIfInBounds i true)) s p a):anyF P md ops S f0 C Q (f+1) listed s p a:=by
 refine⟨fun h0=>(by rw[h0] at hir;cases hir),fun j hj=>?_⟩
 obtain rfl:=hr j hj
 exact h
theorem anyF_turn {P:Program} {md:Region.Mode} {ops:Array Oper} {S:List Nat} {f0:Nat} {C:List Value→Option Value→World→Prop} {Q:List Value→Option Value→Act→Prop} {i f:Nat} {oi of:Oper} {s:List Value} {p:Option Value} {listed:Array Bool} {a:Act} (hi:ops[i]? =some oi) (hof:ops[f0]? =some of) (hgd:of.guard=none) (hS:S.contains i=true) (hSf:S.contains f0=false) (hif:i≠f0) (hsel: ∀(j:Nat) (o:Oper) cs b,ops[j]? =some o→o.op≠ .select cs b)
  (HF: ∀s a W,C s none W→YV P of a (fun v=>C s (some v)) W) (hap:oi.apart ops of=true) (hir:i∈Region.ready md ops listed)
  (hr: ∀j∈Region.ready md ops listed,j=i∨j=f0) (hr2:f0∈Region.ready md ops listed→Region.ready md ops (listed.setIfInBounds f0 true)=[i]) (hpl:listed.getD f0 true=false→p=none)
  (h:fOp P ops S f0 C i (anyF P md ops S f0 C Q (f+1) (listed.setIfInBounds i true)) s p a):anyF P md ops S f0 C Q (f+1+1) listed s p a:=by
 refine⟨fun h0=>(by rw[h0] at hir;cases hir),fun j hj=>?_⟩
 rcases hr j hj with rfl|rfl
 ·exact h
 ·have hp:p=none:=hpl (mem_ready.1 hj).1
  subst hp
  obtain⟨h1,h2,h3⟩:=Oper.apart_spec hap
  have hwf: ∀a':Act,Region.wanted of (yielded ops a'.tmps)=true:=fun a'=>by simp[Region.wanted,hgd]
  have hjr:j∈Region.ready md ops (listed.setIfInBounds i true):=ready_mono hj (Ne.symm hif)
  unfold fOp
  simp only[hof,hwf,if_true,hSf,Bool.false_eq_true,if_false]
  refine⟨fun W hW=>HF s a W hW,fun v hv=>?_⟩
  refine anyF_only (hr2 hj) ?_
  have key: ∀s' u (a0:Act),(∃t W',C (s'++t) (some v) W')→anyF P md ops S j C Q (f+1) (listed.setIfInBounds i true) s' none (a0.put oi.dst u)→anyF P md ops S j C Q f ((listed.setIfInBounds j true).setIfInBounds i true) s' (some v) ((a0.put of.dst v).put oi.dst u):=fun s' u a0 hg hA=>by
   have hB:=hA.2 j hjr
   unfold fOp at hB
   simp only[hof,hwf,if_true,hSf,Bool.false_eq_true,if_false] at hB
   have hD:=hB.2 v hg
   rw[Array.setIfInBounds_comm _ _ (Ne.symm hif), ←Act.put_comm a0 u v h2]
   exact hD
  unfold fOp at h ⊢
  simp only[hi] at h ⊢
  have hwi:Region.wanted oi (yielded ops (a.put of.dst v).tmps)=Region.wanted oi (yielded ops a.tmps):=wanted_put oi a of.dst v h3
  have hei:execOp (a.put of.dst v).eval oi=execOp a.eval oi:=execOp_put oi (fun cs b=>hsel i oi cs b hi) a of.dst v h3
  rw[hwi]
  by_cases hw:Region.wanted oi (yielded ops a.tmps)=true
  ·rw[if_pos hw,if_pos hS] at h
   rw[if_pos hw,if_pos hS]
   refine⟨fun p' _ W hW=>(h.1 p' (Or.inl rfl) W hW).same hei,fun u ⟨p',W',hl,hW'⟩=>?_⟩
   have hp':=hl.some
   subst hp'
   exact key (s++[u]) u a ⟨[],W',by simpa using hW'⟩ (h.2 u ⟨_,W',Or.inl rfl,hW'⟩)
  ·rw[if_neg hw] at h
   rw[if_neg hw]
   exact key s undef a hv h
theorem fOp_mono {P:Program} {ops:Array Oper} {S:List Nat} {f0:Nat} {C:List Value→Option Value→World→Prop} {i:Nat} {K K':List Value→Option Value→Act→Prop} {s:List Value} {p:Option Value} {a:Act} (h: ∀s' p' a,(i≠f0→p'=p)→K s' p' a→K' s' p' a) (hh:fOp P ops S f0 C i K s p a):fOp P ops S f0 C i K' s p a:=by
 unfold fOp at*
 split
 ·rename_i ho;simp only[ho] at hh;exact h _ _ _ (fun _=>rfl) hh
 ·rename_i o ho
  simp only[ho] at hh
  by_cases hw:Region.wanted o (yielded ops a.tmps)=true
  ·rw[if_pos hw] at hh ⊢
   by_cases hs:S.contains i=true
   ·rw[if_pos hs] at hh ⊢
    exact⟨hh.1,fun v hv=>h _ _ _ (fun _=>rfl) (hh.2 v hv)⟩
   ·rw[if_neg hs] at hh ⊢
    by_cases hf:i=f0
    ·rw[if_pos hf] at hh ⊢
     exact⟨hh.1,fun v hv=>h _ _ _ (fun e=>absurd hf e) (hh.2 v hv)⟩
    ·rw[if_neg hf] at hh ⊢
     obtain⟨v,h1,h2⟩:=hh
     exact⟨v,h1,h _ _ _ (fun _=>rfl) h2⟩
  ·rw[if_neg hw] at hh ⊢
   exact h _ _ _ (fun _=>rfl) hh
end Go.Proofs.YtppokgdofgigfaaGreat
