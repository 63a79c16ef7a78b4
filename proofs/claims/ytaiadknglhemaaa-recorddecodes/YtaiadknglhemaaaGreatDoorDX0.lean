import Derived.Test.YtaiadknglhemaaaGreatDoorKeeps
import Derived.Test.YtaiadknglhemaaaGreatDoorOrdv
import Derived.Test.YtaiadknglhemaaaGreatDoorCKeeps
import Derived.Test.YtaiadknglhemaaaGreatDoorCFit
import Derived.Test.YtaiadknglhemaaaGreatDoorRV0
import Derived.Deep.LoopGhost
import Derived.Deep.DeepCutAuto
import Derived.Deep.CutRange
import Derived.Test.YtaiadknglhemaaaGreatDoorCName2
namespace Go.Proofs.YtaiadknglhemaaaGreatDoor.C
open Go.RowKit Go Go.Sort
end Go.Proofs.YtaiadknglhemaaaGreatDoor.C
namespace Go.Proofs.YtaiadknglhemaaaGreatDoor.C
open Go.RowKit Go
def MVb (W:World) (v:Value) (cs:List Value) (P:Nat→Nat→Prop):Prop:= ∃ao m c,v= .slice ao m c∧m≤1099511627776∧(0<m→ ∃g,ao=some ⟨g,0,none⟩∧g<W.heap.size∧P g m∧At W g 0 (rep m cs))
theorem MVb.up {W W':World} {v:Value} {cs:List Value} {P P':Nat→Nat→Prop} (h:MVb W v cs P) (hsz:W.heap.size≤W'.heap.size) (hP: ∀g m,g<W.heap.size→P g m→P' g m∧ ∀j,j<m*cs.length→W'.cell? ⟨g,j,none⟩=W.cell? ⟨g,j,none⟩):MVb W' v cs P':=by
 obtain⟨ao,m,c,hv,hm,h⟩:=h
 refine⟨ao,m,c,hv,hm,fun h0=>?_⟩
 obtain⟨g,ha,hg,hp,hc⟩:=h h0
 obtain⟨h1,h2⟩:=hP g m hg hp
 refine⟨g,ha,by omega,h1,fun j u hu=>?_⟩
 have hj:j<m*cs.length:=by rw[←rep_len];exact(List.getElem?_eq_some_iff.1 hu).1
 rw[Nat.zero_add,h2 j hj]
 simpa using hc j u hu
theorem MVb.of {W:World} {base n:Nat} {e:TypeId} {v:Value} {cs:List Value} {P:Nat→Nat→Prop} (h:W.ownsRow base e cs.length v n (rep n cs)) (hn:n≤1099511627776) (hP: ∀g,v.ownBlock=some g→P g n):MVb W v cs P:=by
 obtain⟨ao,c,rfl⟩:=row_slice h
 refine⟨ao,n,c,rfl,hn,fun h0=>?_⟩
 obtain⟨g,rfl,hg,ha⟩:=own_at h h0
 exact⟨g,rfl,hg,hP g rfl,ha⟩
structure LSb (le:TypeId) (W:World) (F:Nat→Prop) (b:Nat) (mk:Nat→List Value) (A:List Value) (rv:Value):Prop where
 all:W.ownsRow 0 le 1 rv A.length A
 ag: ∀g,rv.ownBlock=some g→g≠b∧ ¬F g
 mv: ∀j (hj:j<A.length),MVb W A[j] (mk j) (fun g _=>g≠b∧ ¬F g∧rv.ownBlock≠some g)
structure LGb (le e:TypeId) (W:World) (F:Nat→Prop) (b:Nat) (mk:Nat→List Value) (A:List Value) (rv x:Value) (cs:List Value) (nx:Nat):Prop where
 all:W.ownsRow 0 le 1 rv A.length A
 xr:W.ownsRow 0 e cs.length x nx (rep nx cs)
 ag: ∀g,rv.ownBlock=some g→g≠b∧ ¬F g
 xg: ∀g,x.ownBlock=some g→rv.ownBlock≠some g∧g≠b∧ ¬F g
 mv: ∀j (hj:j<A.length),MVb W A[j] (mk j) (fun g m=>g≠b∧ ¬F g∧rv.ownBlock≠some g∧(x.ownBlock=some g→m≤nx))
theorem LSb.tch {S:Nat→Prop} {le:TypeId} {W W':World} {F:Nat→Prop} {b:Nat} {mk:Nat→List Value} {A:List Value} {rv:Value} (h:LSb le W F b mk A rv) (t:Tch S W W') (hS: ∀i,S i→i=b∨F i):LSb le W' F b mk A rv:=by
 refine⟨own_tch h.all t (fun g e hs=>?_),h.ag,fun j hj=>(h.mv j hj).up t.size (fun g m hg hP=>⟨hP,fun k _=>t.cell (p:=⟨g,k,none⟩) hg (fun hs=>(hS g hs).elim hP.1 hP.2.1)⟩)⟩
 exact(hS g hs).elim (h.ag g e).1 (h.ag g e).2
theorem LSb.fresh {le:TypeId} {W:World} {F F':Nat→Prop} {b:Nat} {mk:Nat→List Value} {A:List Value} {rv:Value} (h:LSb le W F b mk A rv) (hF: ∀i,i<W.heap.size→F' i→F i):LSb le W F' b mk A rv:=by
 refine⟨h.all,fun g e=>⟨(h.ag g e).1,fun hf=>(h.ag g e).2 (hF g (h.all.lt g e).2 hf)⟩,fun j hj=>(h.mv j hj).up (Nat.le_refl _) (fun g m hg hP=>⟨⟨hP.1,fun hf=>hP.2.1 (hF g hg hf),hP.2.2⟩,fun _ _=>rfl⟩)⟩
theorem LSb.enter {le e:TypeId} {W:World} {F:Nat→Prop} {b n:Nat} {mk:Nat→List Value} {A:List Value} {rv x:Value} {cs:List Value} (h:LSb le W (fun i=>F i∨x.ownBlock=some i) b mk A rv) (hx:W.ownsRow 0 e cs.length x n (rep n cs)) (hg: ∀g,x.ownBlock=some g→g≠b∧ ¬F g):LGb le e W F b mk A rv x cs n:=
 ⟨h.all,hx,fun g e=>⟨(h.ag g e).1,fun hf=>(h.ag g e).2 (Or.inl hf)⟩,fun g e=>⟨fun e2=>(h.ag g e2).2 (Or.inr e),hg g e⟩,fun j hj=>(h.mv j hj).up (Nat.le_refl _) (fun _ _ _ hP=>⟨⟨hP.1,fun hf=>hP.2.1 (Or.inl hf),hP.2.2,fun e=>absurd (Or.inr e) hP.2.1⟩,fun _ _=>rfl⟩)⟩
theorem LGb.leave {le e:TypeId} {W:World} {F:Nat→Prop} {b n:Nat} {mk:Nat→List Value} {A:List Value} {rv x:Value} {cs:List Value} (h:LGb le e W F b mk A rv x cs n):LSb le W F b mk A rv:=
 ⟨h.all,h.ag,fun j hj=>(h.mv j hj).up (Nat.le_refl _) (fun _ _ _ hP=>⟨⟨hP.1,hP.2.1,hP.2.2.1⟩,fun _ _=>rfl⟩)⟩
theorem LGb.one {le e:TypeId} {W W1 w1:World} {F:Nat→Prop} {b nx:Nat} {mk:Nat→List Value} {A:List Value} {rv x rv':Value} {cs:List Value} (h:LGb le e W F b mk A rv x cs nx) (t:Tch (fun _=>False) W W1) (hgr:W1.grownBy w1 rv.ownBlock) (hown:w1.ownsRow 0 le 1 rv' (A.length+1) (A++[x])) (hat:rv'.ownBlock=rv.ownBlock∨rv'.ownBlock=some W1.heap.size) (hmk:mk A.length=cs) (hnx:nx≤1099511627776) (hb:b<W.heap.size) (hF: ∀i,F i→i<W.heap.size):
  LGb le e w1 F b mk (A++[x]) rv' x cs nx:=by
 have T:=grown_at t hgr
 have hne: ∀g,g<W.heap.size→rv.ownBlock≠some g→rv'.ownBlock≠some g:=fun g hg h1 h2=>by
  rcases hat with e|e
  ·exact h1 (e▸h2)
  ·rw[e] at h2;injection h2 with h2;have:=t.size;omega
 have hxlt: ∀g,x.ownBlock=some g→g<W.heap.size:=fun g e=>(h.xr.lt g e).2
 have xr':=own_tch h.xr T (fun g e e2=>(h.xg g e).1 e2)
 refine⟨by rw[List.length_append];exact hown,xr',fun g e=>?_,fun g e=>⟨hne g (hxlt g e) (h.xg g e).1,(h.xg g e).2⟩,fun j hj=>?_⟩
 ·rcases hat with e1|e1
  ·rw[e1] at e;exact h.ag g e
  ·rw[e1] at e;injection e with e
   have:=t.size
   exact⟨by omega,fun hf=>by have:=hF g hf;omega⟩
 ·rw[List.length_append,List.length_singleton] at hj
  rcases Nat.lt_or_ge j A.length with hjl|hjl
  ·rw[List.getElem_append_left hjl]
   exact(h.mv j hjl).up T.size (fun g m hg hP=>⟨⟨hP.1,hP.2.1,hne g hg hP.2.2.1,hP.2.2.2⟩,fun k _=>T.cell (p:=⟨g,k,none⟩) hg hP.2.2.1⟩)
  ·obtain rfl:j=A.length:=by omega
   rw[List.getElem_append_right (Nat.le_refl _)]
   simp only[Nat.sub_self,List.getElem_cons_zero]
   rw[hmk]
   exact MVb.of xr' hnx (fun g e=>⟨(h.xg g e).2.1,(h.xg g e).2.2,hne g (hxlt g e) (h.xg g e).1,fun _=>Nat.le_refl _⟩)
theorem LGb.two {le e:TypeId} {W W1 w1:World} {F:Nat→Prop} {b nx:Nat} {mk:Nat→List Value} {A:List Value} {rv x x':Value} {cs:List Value} (h:LGb le e W F b mk A rv x cs nx) (t:Tch (fun _=>False) W W1) (hgr:W1.grownBy w1 x.ownBlock) (hown:w1.ownsRow 0 e cs.length x' (nx+1) (rep (nx+1) cs)) (hat:x'.ownBlock=x.ownBlock∨x'.ownBlock=some W1.heap.size)
  (hk: ∀b j,b<W1.heap.size→(x.ownBlock=some b→j<nx*cs.length)→w1.cell? ⟨b,j,none⟩=W1.cell? ⟨b,j,none⟩) (hb:b<W.heap.size) (hF: ∀i,F i→i<W.heap.size) (hmk: ∀j,(mk j).length=cs.length):LGb le e w1 F b mk A rv x' cs (nx+1):=by
 have T:=grown_at t hgr
 have hne: ∀g,g<W.heap.size→x.ownBlock≠some g→x'.ownBlock≠some g:=fun g hg h1 h2=>by
  rcases hat with e|e
  ·exact h1 (e▸h2)
  ·rw[e] at h2;injection h2 with h2;have:=t.size;omega
 refine⟨own_tch h.all T (fun g e e2=>(h.xg g e2).1 e),hown,h.ag,fun g e=>?_,fun j hj=>?_⟩
 ·rcases hat with e1|e1
  ·rw[e1] at e;exact h.xg g e
  ·rw[e1] at e
   injection e with e
   have:=t.size
   exact⟨fun e2=>by have:=(h.all.lt _ e2).2;omega,by omega,fun hf=>by have:=hF g hf;omega⟩
 ·refine(h.mv j hj).up T.size (fun g m hg hP=>⟨⟨hP.1,hP.2.1,hP.2.2.1,fun e=>?_⟩,fun k hkm=>?_⟩)
  ·by_cases hx:x.ownBlock=some g
   ·have:=hP.2.2.2 hx;omega
   ·exact absurd e (hne g hg hx)
  ·rw[hk g k (Nat.lt_of_lt_of_le hg t.size) (fun e=>by
    have h1:=hP.2.2.2 e
    rw[hmk] at hkm
    exact Nat.lt_of_lt_of_le hkm (Nat.mul_le_mul_right _ h1))]
   exact t.cell (p:=⟨g,k,none⟩) hg (fun h=>h)
theorem LSb.read {le:TypeId} {W:World} {F:Nat→Prop} {b:Nat} {mk:Nat→List Value} {A:List Value} {rv:Value} (h:LSb le W F b mk A rv): ∃ao c,rv= .slice ao A.length c∧ ∀j,j<A.length→ ∃G xo m xc,ao=some ⟨G,0,none⟩∧W.cell? ⟨G,j,none⟩=some (.slice xo m xc)∧m≤1099511627776∧ ∀q,q<m→ ∃g,xo=some ⟨g,0,none⟩∧ ∀i u,(mk j)[i]? =some u→W.cell? ⟨g,q*(mk j).length+i,none⟩=some u:=by
 obtain⟨ao,c,hv⟩:=row_slice h.all
 refine⟨ao,c,hv,fun j hj=>?_⟩
 have hall:=h.all
 rw[hv] at hall
 obtain⟨G,rfl,_,hG⟩:=own_at hall (by omega)
 obtain⟨xo,m,xc,hx,hm,hg⟩:=h.mv j hj
 refine⟨G,xo,m,xc,rfl,?_,hm,fun q hq=>?_⟩
 ·have:=hG j _ (List.getElem?_eq_getElem hj)
  rw[Nat.zero_add,hx] at this
  exact this
 ·obtain⟨g,e,_,_,ha⟩:=hg (by omega)
  refine⟨g,e,fun i u hu=>?_⟩
  have hi:i<(mk j).length:=(List.getElem?_eq_some_iff.1 hu).1
  have:=ha (q*(mk j).length+i) u (by rw[rep_get (mk j) m q i hq hi];exact hu)
  rwa [Nat.zero_add] at this
open Go.Sort
theorem ne_ty9 {w:World} {b b':Nat} {cur cur':Array Value} {t t':TypeId} {fr fr':Nat×Nat} (h:w.heap[b]? =some (.cells cur t fr)) (h':w.heap[b']? =some (.cells cur' t' fr')) (ht:t≠t'):b≠b':=fun e=>by
 subst e
 rw[h] at h'
 injection h' with h'
 injection h' with _ h2
 exact ht h2
theorem own_ty9 {base sz n:Nat} {w:World} {t:TypeId} {v:Value} {xs:List Value} (h:w.ownsRow base t sz v n xs) {g:Nat} (hg:v.ownBlock=some g): ∃cur,w.heap[g]? =some (.cells cur t (0,0)):=by
 rcases h.2 with⟨h1,_⟩|⟨g',c',cur,h1,_,h3,_⟩
 ·rw[h1] at hg;cases hg
 ·rw[h1] at hg
  have e:g'=g:=by simpa[Value.ownBlock] using hg
  subst e
  exact⟨cur,h3⟩
def MCz (e:TypeId) (sz:Nat) (W:World) (v:Value) (n:Nat) (cs:List Value) (q:Nat):Prop:=(v= .slice none 0 0∧n=0)∨ ∃g c cur,v= .slice (some ⟨g,0,none⟩) n c∧W.heap[g]? =some (.cells cur e (0,0))∧n≤c∧c≤maxLen∧cur.size=c*sz∧cur.toList.take (q*sz)=rep q cs
theorem MCz.of {e:TypeId} {sz:Nat} {W:World} {v:Value} {n:Nat} {cs xs:List Value} (h:W.ownsRow 0 e sz v n xs):MCz e sz W v n cs 0:=by
 rcases h.2 with h|⟨g,c,cur,h1,_,h2,h3,h4,h5,_⟩
 ·exact Or.inl h
 ·exact Or.inr ⟨g,c,cur,h1,h2,h3,h4,h5,by simp[rep]⟩
theorem MCz.own {e:TypeId} {sz:Nat} {W:World} {v:Value} {n:Nat} {cs:List Value} (h:MCz e sz W v n cs n) (hcs:cs.length=sz):W.ownsRow 0 e sz v n (rep n cs):=by
 refine⟨by rw[rep_len,hcs],?_⟩
 rcases h with h|⟨g,c,cur,h1,h2,h3,h4,h5,h6⟩
 ·exact Or.inl h
 ·exact Or.inr ⟨g,c,cur,h1,Nat.zero_le _,h2,h3,h4,h5,h6⟩
structure LX (W:World) (e:TypeId) (sz:Nat) (mk:Nat→List Value) (X:List (Value×Nat)) (q:Nat):Prop where
 own: ∀(i:Nat) (x:Value×Nat),X[i]? =some x→ ∃xs,W.ownsRow 0 e sz x.1 x.2 xs
 full: ∀(i:Nat) (x:Value×Nat),i<q→X[i]? =some x→W.ownsRow 0 e sz x.1 x.2 (rep x.2 (mk i))
 ap: ∀(i j:Nat) (x y:Value×Nat) (g:Nat),i≠j→X[i]? =some x→X[j]? =some y→x.1.ownBlock=some g→y.1.ownBlock≠some g
theorem LX.next {W W':World} {e:TypeId} {sz:Nat} {mk:Nat→List Value} {X:List (Value×Nat)} {i:Nat} (h:LX W e sz mk X i) {x:Value×Nat} (hx:X[i]? =some x) (t:Tch (fun g=>x.1.ownBlock=some g) W W') (hm:MCz e sz W' x.1 x.2 (mk i) x.2) (hl:(mk i).length=sz):LX W' e sz mk X (i+1):=by
 have key: ∀(j:Nat) (y:Value×Nat) (xs:List Value),j≠i→X[j]? =some y→W.ownsRow 0 e sz y.1 y.2 xs→W'.ownsRow 0 e sz y.1 y.2 xs:=fun j y xs hj hy ho=>own_tch ho t (fun g hg e=>h.ap j i y x g hj hy hx hg e)
 refine⟨fun j y hy=>?_,fun j y hj hy=>?_,h.ap⟩
 ·by_cases e1:j=i
  ·subst e1
   have e2:y=x:=by rw[hx] at hy;injection hy with hy;exact hy.symm
   subst e2
   exact⟨_,hm.own hl⟩
  ·obtain⟨xs,ho⟩:=h.own j y hy
   exact⟨xs,key j y xs e1 hy ho⟩
 ·by_cases e1:j=i
  ·subst e1
   have e2:y=x:=by rw[hx] at hy;injection hy with hy;exact hy.symm
   subst e2
   exact hm.own hl
  ·exact key j y _ e1 hy (h.full j y (by omega) hy)
theorem LX.no {W W':World} {e:TypeId} {sz:Nat} {mk:Nat→List Value} {X:List (Value×Nat)} {q:Nat} {S:Nat→Prop} (h:LX W e sz mk X q) (t:Tch S W W') (hS: ∀(i:Nat) (x:Value×Nat) (g:Nat),X[i]? =some x→x.1.ownBlock=some g→ ¬S g):LX W' e sz mk X q:=
 ⟨fun i x hx=>by obtain⟨xs,ho⟩:=h.own i x hx;exact⟨xs,own_tch ho t (fun g hg=>hS i x g hx hg)⟩,fun i x hi hx=>own_tch (h.full i x hi hx) t (fun g hg=>hS i x g hx hg),h.ap⟩
def HX (W:World) (le:TypeId) (ho:Option Addr) (m hc:Nat) (X:List (Value×Nat)):Prop:=m=X.length∧W.ownsRow 0 le 1 (.slice ho m hc) m (X.map Prod.fst)
theorem HX.get {W:World} {le:TypeId} {ho:Option Addr} {m hc:Nat} {X:List (Value×Nat)} (h:HX W le ho m hc X) {i:Nat} {x:Value×Nat} (hx:X[i]? =some x): ∃G,ho=some ⟨G,0,none⟩∧W.cell? ⟨G,i,none⟩=some x.1:=by
 have hi:=(List.getElem?_eq_some_iff.1 hx).1
 obtain⟨G,e,_,ha⟩:=own_at h.2 (by have:=h.1;omega)
 have:=ha i x.1 (by rw[List.getElem?_map,hx];rfl)
 rw[Nat.zero_add] at this
 exact⟨G,e,this⟩
theorem HX.tch {W W':World} {le:TypeId} {ho:Option Addr} {m hc:Nat} {X:List (Value×Nat)} (h:HX W le ho m hc X) {S:Nat→Prop} (t:Tch S W W') (hS: ∀g cur,W.heap[g]? =some (.cells cur le (0,0))→ ¬S g):HX W' le ho m hc X:=
 ⟨h.1,own_tch h.2 t (fun g hg=>by obtain⟨cur,hb⟩:=own_ty9 h.2 hg;exact hS g cur hb)⟩
theorem LX.ty {W:World} {e le:TypeId} {sz:Nat} {mk:Nat→List Value} {X:List (Value×Nat)} {q:Nat} (h:LX W e sz mk X q) (hne:e≠le) {i:Nat} {x:Value×Nat} (hx:X[i]? =some x): ∀g cur,W.heap[g]? =some (.cells cur le (0,0))→ ¬x.1.ownBlock=some g:=fun g cur hb hg=>by
 obtain⟨xs,ho⟩:=h.own i x hx
 obtain⟨c2,h2⟩:=own_ty9 ho hg
 exact ne_ty9 h2 hb hne rfl
theorem MCz.step3 {e:TypeId} {W:World} {v:Value} {n q:Nat} {a b d:Value} (h:MCz e 3 W v n [a,b,d] q) (hq:q<n): ∃g c,v= .slice (some ⟨g,0,none⟩) n c∧(∃y,W.cell? ⟨g,q*3,none⟩=some y)∧(∃y,(W.setCell ⟨g,q*3,none⟩ a).cell? ⟨g,q*3+1,none⟩=some y)∧(∃y,((W.setCell ⟨g,q*3,none⟩ a).setCell ⟨g,q*3+1,none⟩ b).cell? ⟨g,q*3+2,none⟩=some y)∧(∀j,W.frozen? ⟨g,j,none⟩=false)∧MCz e 3 (((W.setCell ⟨g,q*3,none⟩ a).setCell ⟨g,q*3+1,none⟩ b).setCell ⟨g,q*3+2,none⟩ d) v n [a,b,d] (q+1)∧Tch (fun k=>v.ownBlock=some k) W (((W.setCell ⟨g,q*3,none⟩ a).setCell ⟨g,q*3+1,none⟩ b).setCell ⟨g,q*3+2,none⟩ d):=by
 rcases h with⟨_,h⟩|⟨g,c,cur,h1,h2,h3,h4,h5,h6⟩
 ·omega
 ·obtain⟨k1,k2,k3,k4⟩:=set3_cells h2 h5 (q:=q) (by omega) a b
  refine⟨g,c,h1,k1,k2,k3,k4,Or.inr ⟨g,c,_,h1,blk_set (blk_set (blk_set h2 _) _) _,h3,h4,by simp[h5],?_⟩,?_⟩
  ·exact mark_step cur q c a b d h5 (by omega) h6
  ·have hv:v.ownBlock=some g:=by rw[h1];rfl
   exact((Tch.setCell (fun k=>v.ownBlock=some k) W ⟨g,q*3,none⟩ _ hv).setCellR _ _ hv).setCellR _ _ hv
theorem MCz.step5 {e:TypeId} {W:World} {v:Value} {n q:Nat} {a b c' d f:Value} (h:MCz e 5 W v n [a,b,c',d,f] q) (hq:q<n): ∃g c,v= .slice (some ⟨g,0,none⟩) n c∧(∃y,W.cell? ⟨g,q*5,none⟩=some y)∧(∃y,(W.setCell ⟨g,q*5,none⟩ a).cell? ⟨g,q*5+1,none⟩=some y)∧(∃y,((W.setCell ⟨g,q*5,none⟩ a).setCell ⟨g,q*5+1,none⟩ b).cell? ⟨g,q*5+2,none⟩=some y)∧(∃y,(((W.setCell ⟨g,q*5,none⟩ a).setCell ⟨g,q*5+1,none⟩ b).setCell ⟨g,q*5+2,none⟩ c').cell? ⟨g,q*5+3,none⟩=some y)∧(∃y,((((W.setCell ⟨g,q*5,none⟩ a).setCell ⟨g,q*5+1,none⟩ b).setCell ⟨g,q*5+2,none⟩ c').setCell ⟨g,q*5+3,none⟩ d).cell? ⟨g,q*5+4,none⟩=some y)∧(∀j,W.frozen? ⟨g,j,none⟩=false)∧MCz e 5 (((((W.setCell ⟨g,q*5,none⟩ a).setCell ⟨g,q*5+1,none⟩ b).setCell ⟨g,q*5+2,none⟩ c').setCell ⟨g,q*5+3,none⟩ d).setCell ⟨g,q*5+4,none⟩ f) v n [a,b,c',d,f] (q+1)∧Tch (fun k=>v.ownBlock=some k) W (((((W.setCell ⟨g,q*5,none⟩ a).setCell ⟨g,q*5+1,none⟩ b).setCell ⟨g,q*5+2,none⟩ c').setCell ⟨g,q*5+3,none⟩ d).setCell ⟨g,q*5+4,none⟩ f):=by
 rcases h with⟨_,h⟩|⟨g,c,cur,h1,h2,h3,h4,h5,h6⟩
 ·omega
 ·obtain⟨k1,k2,k3,k4,k5,k6⟩:=set5_cells h2 h5 (q:=q) (by omega) a b c' d
  refine⟨g,c,h1,k1,k2,k3,k4,k5,k6,Or.inr ⟨g,c,_,h1,blk_set (blk_set (blk_set (blk_set (blk_set h2 _) _) _) _) _,h3,h4,by simp[h5],?_⟩,?_⟩
  ·rw[rep_succ]
   exact set5_step cur q c (rep q [a,b,c',d,f]) a b c' d f h5 (by omega) (by rw[rep_len];rfl) h6
  ·have hv:v.ownBlock=some g:=by rw[h1];rfl
   exact((((Tch.setCell (fun k=>v.ownBlock=some k) W ⟨g,q*5,none⟩ _ hv).setCellR _ _ hv).setCellR _ _ hv).setCellR _ _ hv).setCellR _ _ hv
def oloops:Code→List Code
 | .loop c=>c::oloops c
 | .seq a b=>oloops a++oloops b
 | .block _ c=>oloops c
 | .scope c=>oloops c
 | .cond _ a b=>oloops a++oloops b
 |_=>[]
noncomputable def owB (k:Nat):Code:=(Tryz.f23.body.elim [] oloops).getD k .skip
abbrev mkR6 (i:Nat):List Value:=[.int .i64 (-5),.int .i64 (i:Int),.string ⟨#[]⟩]
abbrev mkL6 (i:Nat):List Value:=[.string ⟨#[]⟩,.int .i64 (-5 - (i:Int)),.bool false]
abbrev mkT6 (i:Nat):List Value:=[.int .i64 (-5 - (i:Int)),.int .i64 0,.string ⟨#[]⟩,.slice none 0 0,.int .i64 0]
end Go.Proofs.YtaiadknglhemaaaGreatDoor.C
namespace Go.Proofs.YtaiadknglhemaaaGreatDoor.C
open Go.Lib
abbrev Ds:=List UInt8×Bool
def dRaw (n:Int) (p:Ds):List UInt8×Ds:=if p.2=true∨n<0∨(p.1.length:Int)<n then([],(p.1,true)) else(p.1.take n.toNat,(p.1.drop n.toNat,false))
def dByte (p:Ds):Nat×Ds:=match p with
 |(b::r,false)=>(b.toNat,(r,false))
 |(l,_)=>(0,(l,true))
def dDg:Nat→Nat→Nat→Ds→Nat×Ds
 |0,_,_,p=>(0,(p.1,true))
 |f+1,i,n,p=>if p.2=true then(0,(p.1,true)) else if (dByte p).1<128 then(n+(dByte p).1 % 128*128 ^ i,(dByte p).2) else dDg f (i+1) (n+(dByte p).1 % 128*128 ^ i) (dByte p).2
def dNum (p:Ds):Nat×Ds:=dDg 8 0 0 p
def dText (p:Ds):ByteArray×Ds:=(⟨(dRaw (dNum p).1 (dNum p).2).1.toArray⟩,(dRaw (dNum p).1 (dNum p).2).2)
def dRow (p:Ds):List Val×Ds:=match decR (dText p).1 with
 |some vs=>(vs,(dText p).2)
 |none=>([],((dText p).2.1,true))
def dCol (p:Ds):Col×Ds:=(⟨(dText p).1,(dByte (dText p).2).1,decide ((dByte (dByte (dText p).2).2).1=1)⟩,(dByte (dByte (dText p).2).2).2)
def dCols:Nat→Ds→List Col→List Col×Ds
 |0,p,l=>(l,p)
 |n+1,p,l=>if p.2=true then(l,p) else dCols n (dCol p).2 (l++[(dCol p).1])
def dTab (p:Ds):Tbl×Ds:=
 let i:=dNum p
 let v:=dNum i.2
 let t:=dText v.2
 let n:=dByte t.2
 let c:=dCols n.1 n.2 []
 let k:=dByte c.2
 (⟨i.1,v.1,t.1,c.1,k.1⟩,k.2)
def dTabs:Nat→Ds→List Tbl→List Tbl×Ds
 |0,p,l=>(l,p)
 |n+1,p,l=>if p.2=true then(l,p) else dTabs n (dTab p).2 (l++[(dTab p).1])
theorem dRaw_r (l r:List UInt8):dRaw l.length (l++r,false)=(l,(r,false)):=by
 unfold dRaw
 rw[if_neg (by simp;omega)]
 simp
theorem dDg_r: ∀(g f i n q:Nat) (r:List UInt8),q<128 ^ f→f≤g→0<f→dDg f i n (dgf g q++r,false)=(n+q*128 ^ i,(r,false))
 |0,f,i,n,q,r,_,h2,h3=>by omega
 |g+1,0,i,n,q,r,_,_,h3=>by omega
 |g+1,f+1,i,n,q,r,h1,h2,_=>by
  by_cases hq:q<128
  ·have e:(UInt8.ofNat q).toNat=q:=by rw[UInt8.toNat_ofNat'];omega
   rw[dgf_last hq]
   unfold dDg
   simp only[List.singleton_append,dByte,e]
   rw[if_neg (by simp),if_pos hq,Nat.mod_eq_of_lt hq]
  ·have e:(UInt8.ofNat (q % 128+128)).toNat=q % 128+128:=by rw[UInt8.toNat_ofNat'];omega
   rw[dgf_more hq]
   unfold dDg
   simp only[List.cons_append,dByte,e]
   rw[if_neg (by simp),if_neg (by omega)]
   have hf:0<f:=by
    rcases Nat.eq_zero_or_pos f with hf|hf
    ·subst hf;simp at h1;omega
    ·exact hf
   have hd:q / 128<128 ^ f:=by
    rw[Nat.div_lt_iff_lt_mul (by omega)]
    rw[Nat.pow_succ] at h1
    exact h1
   rw[dDg_r g f (i+1) _ (q / 128) r hd (by omega) hf]
   have e2:(q % 128+128) % 128=q % 128:=by omega
   rw[e2,Nat.pow_succ]
   refine Prod.ext ?_ rfl
   show n+q % 128*128 ^ i+q / 128*(128 ^ i*128)=n+q*128 ^ i
   have e3:q=q % 128+q / 128*128:=by omega
   obtain⟨P,hP⟩: ∃P,P=128 ^ i:=⟨_,rfl⟩
   rw[←hP]
   have e4:q*P=q % 128*P+q / 128*(P*128):=by
    conv=>lhs;rw[e3]
    rw[Nat.add_mul,Nat.mul_assoc,Nat.mul_comm 128 P]
   rw[e4,Nat.add_assoc]
theorem dNum_r (q:Nat) (r:List UInt8) (h:q<72057594037927936):dNum (dg q++r,false)=(q,(r,false)):=by
 unfold dNum dg
 rw[dDg_r 10 8 0 0 q r (by simpa using h) (by omega) (by omega)]
 simp
theorem dByte_r (b:UInt8) (r:List UInt8):dByte (b::r,false)=(b.toNat,(r,false)):=rfl
theorem dText_r (s:ByteArray) (r:List UInt8) (h:s.size<72057594037927936):dText (textL s++r,false)=(s,(r,false)):=by
 unfold dText textL
 rw[List.append_assoc,dNum_r _ _ h]
 have e:s.data.toList.length=s.size:=by simp
 have:=dRaw_r s.data.toList r
 rw[e] at this
 simp only[this]
theorem dRow_r (vs:List Val) (r:List UInt8) (h0:(encR vs).2=0) (hi: ∀v∈vs,v.i64):dRow (rowL vs++r,false)=(vs,(r,false)):=by
 have hl:=encR_len vs
 have hsz:(⟨(encR vs).1.toArray⟩:ByteArray).size=(encR vs).1.length:=by show(encR vs).1.toArray.size=_;simp
 have e:=thr_row (vs:=vs) (l:=(encR vs).1) (Prod.ext rfl h0) hi
 unfold dRow rowL
 rw[dText_r _ _ (by rw[hsz];omega)]
 simp only[e.1]
theorem dCol_r (c:Col) (r:List UInt8) (h1:nmOk c.nm=true) (h2:kdOk c.k=true):dCol (colL c++r,false)=(c,(r,false)):=by
 have hs:=nm_size h1
 have k1:=byte1 (kd_rng h2).1 (kd_rng h2).2
 unfold dCol colL
 rw[List.append_assoc,dText_r _ _ (by omega)]
 have e:bytesL [c.k,nb c.nl]++r=UInt8.ofNat c.k.toNat::UInt8.ofNat (nb c.nl).toNat::r:=rfl
 simp only[e,dByte_r]
 refine Prod.ext (Col.ext' ⟨rfl,k1,?_⟩) rfl
 show decide ((UInt8.ofNat (nb c.nl).toNat).toNat=1)=c.nl
 cases c.nl<;>rfl
theorem dCols_r: ∀(l:List Col) (m:List Col) (r:List UInt8),(∀c∈l,nmOk c.nm=true∧kdOk c.k=true)→dCols l.length (colsL l++r,false) m=(m++l,(r,false))
 |[],m,r,_=>by simp[dCols,colsL]
 |c::l,m,r,hc=>by
  have e:colsL (c::l)=colL c++colsL l:=List.flatMap_cons
  have h1:=dCol_r c (colsL l++r) (hc c (by simp)).1 (hc c (by simp)).2
  show dCols (l.length+1) _ m=_
  unfold dCols
  rw[e,List.append_assoc,h1]
  simp only
  rw[if_neg (by simp),dCols_r l _ r (fun x hx=>hc x (by simp[hx]))]
  simp
theorem dTab_r (t:Tbl) (r:List UInt8) (ht:RT t):dTab (tabL t++r,false)=(t,(r,false)):=by
 have i1:=ht.id
 have i2:=ht.ver
 have i3:=nm_size ht.nm
 have i4:=ht.len
 have i5:=ht.key
 have e4:(UInt8.ofNat ((t.cols.length:Int)).toNat).toNat=t.cols.length:=by
  have:=byte1 (n:=(t.cols.length:Int)) (by omega) (by omega);omega
 have ea:tabL t++r=dg t.id.toNat++(dg t.ver.toNat++(textL t.nm++(UInt8.ofNat ((t.cols.length:Int)).toNat::(colsL t.cols++(UInt8.ofNat t.key.toNat::r))))):=by
  unfold tabL
  simp only[List.append_assoc]
  rfl
 rw[ea]
 unfold dTab
 simp only[dNum_r _ _ (show t.id.toNat<72057594037927936 by omega),dNum_r _ _ (show t.ver.toNat<72057594037927936 by omega),dText_r t.nm _ (show t.nm.size<72057594037927936 by omega),dByte_r,e4,dCols_r t.cols [] _ ht.cols]
 refine Prod.ext ?_ rfl
 obtain⟨id,ver,nm,cols,key⟩:=t
 simp only at i1 i2 i5 ⊢
 have k1:((id.toNat:Nat):Int)=id:=by omega
 have k2:((ver.toNat:Nat):Int)=ver:=by omega
 have k3:((UInt8.ofNat key.toNat).toNat:Int)=key:=byte1 (by omega) (by simp only at i4;omega)
 rw[k1,k2,k3];simp
theorem dTabs_r: ∀(l:List Tbl) (m:List Tbl) (r:List UInt8),(∀c∈l,RT c)→dTabs l.length (tabsL l++r,false) m=(m++l,(r,false))
 |[],m,r,_=>by simp[dTabs,tabsL]
 |c::l,m,r,hc=>by
  have e:tabsL (c::l)=tabL c++tabsL l:=List.flatMap_cons
  have h1:=dTab_r c (tabsL l++r) (hc c (by simp))
  show dTabs (l.length+1) _ m=_
  unfold dTabs
  rw[e,List.append_assoc,h1]
  simp only
  rw[if_neg (by simp),dTabs_r l _ r (fun x hx=>hc x (by simp[hx]))]
  simp
def dC (k:Int) (c:Nat) (p:Ds):Rc×Ds:=
 let r1:=dNum p
 match c with
 |1=>({ rc0 k with x:=r1.1 },r1.2)
 |2=>let r2:=dNum r1.2;({ rc0 k with x:=r1.1,p:=r2.1 },r2.2)
 |3=>let r2:=dNum r1.2;let r3:=dRow r2.2;({ rc0 k with x:=r1.1,t:=r2.1,n:=r3.1 },r3.2)
 |4=>let r2:=dNum r1.2;let r3:=dRow r2.2;let r4:=dRow r3.2;({ rc0 k with x:=r1.1,t:=r2.1,o:=r3.1,n:=r4.1 },r4.2)
 |5=>let r2:=dNum r1.2;let r3:=dRow r2.2;({ rc0 k with x:=r1.1,t:=r2.1,o:=r3.1 },r3.2)
 |6=>let r2:=dText r1.2;let r3:=dNum r2.2;({ rc0 k with x:=r1.1,nm:=r2.1,org:=r3.1 },r3.2)
 |7=>let r2:=dText r1.2;({ rc0 k with x:=r1.1,nm:=r2.1 },r2.2)
 |8=>let r2:=dTab r1.2;({ rc0 k with x:=r1.1,tb:=r2.1 },r2.2)
 |9=>let r2:=dNum r1.2;({ rc0 k with x:=r1.1,t:=r2.1 },r2.2)
 |10=>let r2:=dNum r1.2;let r3:=dByte r2.2;let r4:=dTabs r3.1 r3.2 [];({ rc0 k with x:=r1.1,t:=r2.1,tbs:=r4.1 },r4.2)
 |_=>(rc0 k,p)
theorem dC_r {r:Rc} (hr:rightC (cls r.k) r) (hc:cutC (cls r.k) r=r) (ho: ∀v∈r.o,v.i64) (hn: ∀v∈r.n,v.i64):dC r.k (cls r.k) (bodyL (cls r.k) r,false)=(r,([],false)):=by
 have hE: ∀l,l++[]=l:=fun l:List UInt8=>List.append_nil l
 have e: ∀(n:Int) (r:List UInt8),bytesL [n]++r=UInt8.ofNat n.toNat::r:=fun _ _=>rfl
 rcases cls_rng r.k with h0|⟨_,_,h1,h2⟩
 ·rw[h0] at hr;exact hr.elim
 ·obtain⟨c,hcc⟩: ∃c,c=cls r.k:=⟨_,rfl⟩
  rw[←hcc] at hr hc h1 h2 ⊢
  clear hcc
  have hc0:c=1∨c=2∨c=3∨c=4∨c=5∨c=6∨c=7∨c=8∨c=9∨c=10:=by omega
  rcases hc0 with rfl|rfl|rfl|rfl|rfl|rfl|rfl|rfl|rfl|rfl
  ·have hr:rtN r.x:=hr
   unfold rtN at hr
   have g1:=dNum_r r.x.toNat [] (by omega)
   rw[hE] at g1
   conv=>rhs;rw[←hc]
   simp only[dC,bodyL,cutC,g1,to_nat (show 0≤r.x by omega)]
  ·have hr:rtN r.x∧rtN r.p∧r.p<r.x:=hr
   unfold rtN at hr
   have g1:=dNum_r r.x.toNat (dg r.p.toNat) (by omega)
   have g2:=dNum_r r.p.toNat [] (by omega)
   rw[hE] at g2
   conv=>rhs;rw[←hc]
   simp only[dC,bodyL,cutC,g1,g2,to_nat (show 0≤r.x by omega),to_nat (show 0≤r.p by omega)]
  ·have hr:rtN r.x∧rtN r.t∧rtRow r.n:=hr
   unfold rtN rtRow at hr
   have g1:=dNum_r r.x.toNat (dg r.t.toNat++rowL r.n) (by omega)
   have g2:=dNum_r r.t.toNat (rowL r.n) (by omega)
   have g3:=dRow_r r.n [] hr.2.2.2 hn
   rw[hE] at g3
   conv=>rhs;rw[←hc]
   simp only[dC,bodyL,cutC,g1,g2,g3,to_nat (show 0≤r.x by omega),to_nat (show 0≤r.t by omega)]
  ·have hr:rtN r.x∧rtN r.t∧rtRow r.o∧rtRow r.n:=hr
   unfold rtN rtRow at hr
   have g1:=dNum_r r.x.toNat (dg r.t.toNat++(rowL r.o++rowL r.n)) (by omega)
   have g2:=dNum_r r.t.toNat (rowL r.o++rowL r.n) (by omega)
   have g3:=dRow_r r.o (rowL r.n) hr.2.2.1.2 ho
   have g4:=dRow_r r.n [] hr.2.2.2.2 hn
   rw[hE] at g4
   conv=>rhs;rw[←hc]
   simp only[dC,bodyL,cutC,g1,g2,g3,g4,to_nat (show 0≤r.x by omega),to_nat (show 0≤r.t by omega)]
  ·have hr:rtN r.x∧rtN r.t∧rtRow r.o:=hr
   unfold rtN rtRow at hr
   have g1:=dNum_r r.x.toNat (dg r.t.toNat++rowL r.o) (by omega)
   have g2:=dNum_r r.t.toNat (rowL r.o) (by omega)
   have g3:=dRow_r r.o [] hr.2.2.2 ho
   rw[hE] at g3
   conv=>rhs;rw[←hc]
   simp only[dC,bodyL,cutC,g1,g2,g3,to_nat (show 0≤r.x by omega),to_nat (show 0≤r.t by omega)]
  ·have hr:rtN r.x∧((r.nm.size=0∧r.org=0)∨(nmOk r.nm=true∧1≤r.org∧r.org≤819208192)):=hr
   unfold rtN at hr
   have hs:r.nm.size≤16∧0≤r.org∧r.org≤819208192:=by
    rcases hr.2 with h|h
    ·omega
    ·have:=nm_size h.1;omega
   have g1:=dNum_r r.x.toNat (textL r.nm++dg r.org.toNat) (by omega)
   have g2:=dText_r r.nm (dg r.org.toNat) (by omega)
   have g3:=dNum_r r.org.toNat [] (by omega)
   rw[hE] at g3
   conv=>rhs;rw[←hc]
   simp only[dC,bodyL,cutC,g1,g2,g3,to_nat (show 0≤r.x by omega),to_nat hs.2.1]
  ·have hr:rtN r.x∧nmOk r.nm=true:=hr
   unfold rtN at hr
   have hs:=nm_size hr.2
   have g1:=dNum_r r.x.toNat (textL r.nm) (by omega)
   have g2:=dText_r r.nm [] (by omega)
   rw[hE] at g2
   conv=>rhs;rw[←hc]
   simp only[dC,bodyL,cutC,g1,g2,to_nat (show 0≤r.x by omega)]
  ·have hr:rtN r.x∧rightE r.tb=0:=hr
   unfold rtN at hr
   have g1:=dNum_r r.x.toNat (tabL r.tb) (by omega)
   have g2:=dTab_r r.tb [] (right_rt hr.2)
   rw[hE] at g2
   conv=>rhs;rw[←hc]
   simp only[dC,bodyL,cutC,g1,g2,to_nat (show 0≤r.x by omega)]
  ·have hr:rtN r.x∧rtN r.t:=hr
   unfold rtN at hr
   have g1:=dNum_r r.x.toNat (dg r.t.toNat) (by omega)
   have g2:=dNum_r r.t.toNat [] (by omega)
   rw[hE] at g2
   conv=>rhs;rw[←hc]
   simp only[dC,bodyL,cutC,g1,g2,to_nat (show 0≤r.x by omega),to_nat (show 0≤r.t by omega)]
  ·have hr:(1≤r.x∧r.x≤2147483648)∧(1≤r.t∧r.t≤2147483648)∧LDp r.tbs r.t:=hr
   have hl:=hr.2.2.len
   have e4:(UInt8.ofNat ((r.tbs.length:Int)).toNat).toNat=r.tbs.length:=by
    have:=byte1 (n:=(r.tbs.length:Int)) (by omega) (by omega);omega
   have g1:=dNum_r r.x.toNat (dg r.t.toNat++(UInt8.ofNat ((r.tbs.length:Int)).toNat::tabsL r.tbs)) (by omega)
   have g2:=dNum_r r.t.toNat (UInt8.ofNat ((r.tbs.length:Int)).toNat::tabsL r.tbs) (by omega)
   have g4:=dTabs_r r.tbs [] [] hr.2.2.rt
   rw[hE] at g4
   conv=>rhs;rw[←hc]
   simp only[dC,bodyL,cutC,g1,g2,e,dByte_r,e4,g4,List.nil_append,to_nat (show 0≤r.x by omega),to_nat (show 0≤r.t by omega)]
end Go.Proofs.YtaiadknglhemaaaGreatDoor.C
