import Derived.Test.YtppokgdofgigfaaGreatVG3
import Derived.Test.YtppokgdofgigfaaGreatFP4
import Derived.Test.YtppokgdofgigfaaGreatXRel
import Derived.Test.YtppokgdofgigfaaGreatFP6
set_option maxHeartbeats 4000000
set_option maxRecDepth 100000
namespace Go.Proofs.YtppokgdofgigfaaGreat.F
open Go.RowKit Go Go.Sort
structure Gh (m m':Mg) (q:Mo) (g:Nat→Bool):Prop where
 nx:m.nx=m'.nx
 on:m.on=m'.on
 tx:m.tx=m'.tx.filter (fun t=> !g t.x)
 dn: ∀t∈m'.tx,g t.x=true→3≤t.st
 bo: ∀t∈m'.tx,g t.x=true→ ∀y∈m'.on,lastX t<y
 bs: ∀t∈m'.tx,g t.x=true→ ∀(k:Nat) (s:Se),q.l[k]? =some s→s.op=true→s.pp=false→lastX t<s.mn
 lo: ∀x,g x=true→x<m'.nx
theorem le_last {m:Mg} (h:Wf m) {n:Int} {t:Tx} {i:Int} (hf:fnd m.tx n=some (t,i)):n≤lastX t:=by
 obtain⟨htm,⟨_,e⟩|⟨k,p,_,_,hp,e,_⟩⟩:=fnd_mem hf
 ·unfold lastX
  cases hl:t.ps.getLast? with
  |none=>simp only;omega
  |some p=>have:=(h.pl t htm p (List.mem_of_getLast? hl)).1;simp only;omega
 ·have hpm:=List.mem_of_getElem? hp
  unfold lastX
  cases hl:t.ps.getLast? with
  |none=>rw[List.getLast?_eq_none_iff] at hl;rw[hl] at hpm;cases hpm
  |some q=>
   simp only
   have hk:=(List.getElem?_eq_some_iff.1 hp).1
   rw[List.getLast?_eq_getElem?] at hl
   have hl2:=(List.getElem?_eq_some_iff.1 hl)
   rcases Nat.lt_or_ge k (t.ps.length - 1) with hlt|hge
   ·have h5:=List.pairwise_iff_getElem.1 (h.pu t htm) k (t.ps.length - 1) hk (by omega) hlt
    have h6:=(List.getElem?_eq_some_iff.1 hp).2
    rw[h6,hl2.2] at h5
    omega
   ·have:k=t.ps.length - 1:=by omega
    rw[this,hl] at hp
    injection hp with hp
    rw[hp];omega
theorem last_lt {m:Mg} (h:Wf m) {t:Tx} (ht:t∈m.tx):lastX t<m.nx:=by
 unfold lastX
 cases hl:t.ps.getLast? with
 |none=>exact(h.lo t ht).2
 |some p=>exact(h.pl t ht p (List.mem_of_getLast? hl)).2
section
variable {m m' m2 m2':Mg} {q q2:Mo} {σ σ2:Nat→Nat} {K K' K2 K2':Nat→List Vn} {g:Nat→Bool} {k:Nat} {s s':Se} {t t':Tx}
theorem Gh.wf (h:Gh m m' q g) (hw:Wf m'):Wf m:=by
 have hm: ∀t∈m.tx,t∈m'.tx:=fun t ht=>by rw[h.tx] at ht;exact(List.mem_filter.1 ht).1
 refine⟨by rw[h.nx];exact hw.n1,by rw[h.nx];exact hw.n2,fun t ht=>by rw[h.nx];exact hw.lo t (hm t ht),fun t ht=>by rw[h.nx];exact hw.pl t (hm t ht),fun t ht=>hw.st t (hm t ht),fun t ht=>hw.ln t (hm t ht),fun t ht=>hw.ar t (hm t ht),by rw[h.tx];exact hw.up.filter _,by rw[h.tx];exact hw.ap.filter _,fun t ht=>hw.pu t (hm t ht),?_⟩
 rw[h.on,hw.on,h.tx,List.filter_filter]
 congr 1
 refine List.filter_congr (fun t ht=>?_)
 by_cases hs:t.st<3
 ·have:g t.x=false:=by
   cases e:g t.x with
   |false=>rfl
   |true=>have:=h.dn t ht e;omega
  simp[hs,this]
 ·simp[hs]
theorem Gh.fnd (h:Gh m m' q g) (hw:Wf m') (n:Int):Proofs.YtppokgdofgigfaaGreat.fnd m.tx n=match Proofs.YtppokgdofgigfaaGreat.fnd m'.tx n with
  |some (t,i)=>if g t.x then none else some (t,i)
  |none=>none:=by
 rw[h.tx,fnd_filter hw]
 cases Proofs.YtppokgdofgigfaaGreat.fnd m'.tx n with
 |none=>rfl
 |some r=>
  obtain⟨t,i⟩:=r
  simp only
  cases g t.x<;>rfl
theorem Gh.gone (h:Gh m m' q g) (hw:Wf m') {n:Int} {t:Tx} {i:Int} (hf:Proofs.YtppokgdofgigfaaGreat.fnd m'.tx n=some (t,i)):Proofs.YtppokgdofgigfaaGreat.fnd m.tx n=none ↔ g t.x=true:=by
 rw[h.fnd hw,hf]
 simp only
 cases g t.x<;>simp
theorem Gh.fg (h:Gh m m' q g) (hw:Wf m'):Fg m m' q:=by
 refine⟨fun n t i e=>?_,fun n t i e e2 k s hs ho hpp=>?_⟩
 ·rw[h.fnd hw] at e
  cases hf:Proofs.YtppokgdofgigfaaGreat.fnd m'.tx n with
  |none=>rw[hf] at e;cases e
  |some r=>
   obtain⟨t2,i2⟩:=r
   rw[hf] at e
   simp only at e
   split at e
   ·cases e
   ·exact e
 ·have hg:=(h.gone hw e).1 e2
  have h1:=h.bs t (fnd_mem e).1 hg k s hs ho hpp
  have h2:=le_last hw e
  omega
theorem Gh.gn (h:Gh m m' q g) (h2:Gh m2 m2' q2 g) (hw:Wf m') (hw2:Wf m2') (hT:Tn m' m2' q2 σ σ2): ∀(n:Int) (t:Tx) (i:Int),Proofs.YtppokgdofgigfaaGreat.fnd m'.tx n=some (t,i)→Proofs.YtppokgdofgigfaaGreat.fnd m2.tx n=none→Proofs.YtppokgdofgigfaaGreat.fnd m.tx n=none:=fun n t i hf e=>by
 obtain⟨t2,hf2,hx⟩:=hT.kn n t i hf
 have:=(h2.gone hw2 hf2).1 e
 rw[hx] at this
 exact(h.gone hw hf).2 this
theorem Gh.open_ (h:Gh m m' q g) (ht:t∈m'.tx) (hst:t.st<3):g t.x=false:=by
 cases e:g t.x with
 |false=>rfl
 |true=>have:=h.dn t ht e;omega
theorem Gh.chg (h:Gh m m' q g) (ht:t∈m'.tx) (hst:t.st<3) (f:Tx→Tx) (hf: ∀u,(f u).x=u.x) (h1:m2.nx=m2'.nx) (h2:m2.on=m2'.on) (h3:m2.tx=upd m.tx t.x f) (h4:m2'.tx=upd m'.tx t.x f) (hnx:m'.nx≤m2'.nx) (hon: ∀y∈m2'.on,y∈m'.on)
  (hR: ∀(k:Nat) (s2:Se),q2.l[k]? =some s2→s2.op=true→s2.pp=false→ ∃(j:Nat) (s:Se),q.l[j]? =some s∧s.op=true∧s.pp=false∧s2.mn=s.mn):Gh m2 m2' q2 g:=by
 have hg:=h.open_ ht hst
 have old: ∀u∈m2'.tx,g u.x=true→u∈m'.tx:=fun u hu e=>by
  rw[h4] at hu
  obtain⟨v,hv,rfl⟩:=List.mem_map.1 hu
  by_cases hx:v.x=t.x
  ·rw[if_pos hx,hf,hx,hg] at e;cases e
  ·rw[if_neg hx];exact hv
 refine⟨h1,h2,?_,fun u hu e=>h.dn u (old u hu e) e,fun u hu e y hy=>h.bo u (old u hu e) e y (hon y hy),fun u hu e k s2 hs ho hpp=>?_,fun x hx=>Nat.lt_of_lt_of_le (h.lo x hx) hnx⟩
 ·rw[h3,h4,h.tx]
  unfold upd
  rw[List.filter_map]
  congr 1
  refine List.filter_congr (fun u _=>?_)
  show(!g u.x)= !g (if u.x=t.x then f u else u).x
  split
  ·rw[hf]
  ·rfl
 ·obtain⟨j,s,a1,a2,a3,a4⟩:=hR k s2 hs ho hpp
  rw[a4];exact h.bs u (old u hu e) e j s a1 a2 a3
theorem tn_same (hst: ∀(n:Int) (t:Tx) (i:Int),fnd m.tx n=some (t,i)→fnd m2.tx n=some (t,i)):Tn m m2 q2 σ σ:=by
 have hs: ∀(n:Int) (t:Tx) (i:Int),fnd m.tx n=some (t,i)→m2.state n=m.state n∧topX m2 n=topX m n:=fun n t i e=>by
  unfold Mg.state topX
  rw[hst n t i e,e];exact⟨rfl,rfl⟩
 exact⟨fun n t i e=>⟨t,hst n t i e,rfl⟩,fun n t i e e4=>by rw[(hs n t i e).1];exact e4,fun n t i e e3=>by rw[(hs n t i e).1,(hs n t i e).2];exact⟨e3,rfl⟩,fun n t i e e3=>.inl (by rw[(hs n t i e).1] at e3;exact e3)⟩
theorem tn_turn (hw:Wf m) (ht:SesTx m s t) (hc:Ch m m2 t t') (ht':SesTx m2 s' t')
  (hwr: ∀i:Int, -1≤i→i<s.ps.length→wrN s' i=wrN s i∧(stdI s' i=true→stdI s i=true)):Tn m m2 q2 σ σ:=by
 have hl3:=ht.lt3
 have hl3':=ht'.lt3
 have key: ∀(n:Int) (u:Tx) (i:Int),fnd m.tx n=some (u,i)→u.x=t.x→u=t:=fun n u i e hx=>hw.uniq u (fnd_mem e).1 t ht.mem hx
 have oth: ∀(n:Int) (u:Tx) (i:Int),fnd m.tx n=some (u,i)→u.x≠t.x→m2.state n=m.state n∧topX m2 n=topX m n:=fun n u i e hx=>by
  refine⟨hc.state_other e hx,?_⟩
  unfold topX
  rw[hc.fn n u i e,e,if_neg hx]
 refine⟨fun n u i e=>⟨_,hc.fn n u i e,?_⟩,fun n u i e e4=>?_,fun n u i e e3=>?_,fun n u i e e3=>?_⟩
 ·split
  ·rename_i hx;rw[hc.x,hx]
  ·rfl
 ·by_cases hx:u.x=t.x
  ·have hu:=key n u i e hx
   subst hu
   have hr:=fnd_rng e
   have hln:u.ps.length=s.ps.length:=by rw[ht.ps,List.length_map]
   unfold Mg.state at e4 ⊢
   rw[e,stE_eq] at e4
   rw[hc.fn n u i e,if_pos rfl,stE_eq]
   have hfa:fate u i=2:=Classical.byContradiction fun hne=>by rw[if_neg hne] at e4;omega
   have h1:=(ses_fate ht i).1 hfa
   have h2:stdI s' i=false:=by
    cases h3:stdI s' i with
    |false=>rfl
    |true=>rw[(hwr i hr.1 (by omega)).2 h3] at h1;cases h1
   rw[if_pos ((ses_fate ht' i).2 h2)]
  ·rw[(oth n u i e hx).1];exact e4
 ·by_cases hx:u.x=t.x
  ·have hu:=key n u i e hx
   subst hu
   unfold Mg.state at e3
   rw[e,stE_eq] at e3
   split at e3<;>omega
  ·rw[(oth n u i e hx).1,(oth n u i e hx).2];exact⟨e3,rfl⟩
 ·by_cases hx:u.x=t.x
  ·unfold Mg.state at e3
   rw[hc.fn n u i e,if_pos hx,stE_eq] at e3
   split at e3<;>omega
  ·rw[(oth n u i e hx).1] at e3;exact .inl e3
theorem tn_fin (hw:Wf m) (ht:SesTx m s t) {f nn:Nat} (hf:f=3∨f=4) (hwh:f=3→ ∀(k:Nat) (s2:Se),q2.l[k]? =some s2→s2.op=true→s2.wh<nn):Tn m (m.fin t.x f) q2 σ (fun x=>if x=t.x then nn else σ x):=by
 have hl3:=ht.lt3
 have hc:=ch_fin hw ht.mem (f:=f) (by omega)
 have key: ∀(n:Int) (u:Tx) (i:Int),fnd m.tx n=some (u,i)→u.x=t.x→u=t:=fun n u i e hx=>hw.uniq u (fnd_mem e).1 t ht.mem hx
 have oth: ∀(n:Int) (u:Tx) (i:Int),fnd m.tx n=some (u,i)→u.x≠t.x→(m.fin t.x f).state n=m.state n∧topX (m.fin t.x f) n=topX m n∧topX m n=u.x:=fun n u i e hx=>by
  refine⟨hc.state_other e hx,?_,?_⟩
  ·unfold topX
   rw[hc.fn n u i e,e,if_neg hx]
  ·unfold topX;rw[e]
 refine⟨fun n u i e=>⟨_,hc.fn n u i e,?_⟩,fun n u i e e4=>?_,fun n u i e e3=>?_,fun n u i e e3=>?_⟩
 ·split
  ·rename_i hx;rw[hc.x,hx]
  ·rfl
 ·by_cases hx:u.x=t.x
  ·have hu:=key n u i e hx
   subst hu
   unfold Mg.state at e4 ⊢
   rw[e,stE_eq] at e4
   rw[hc.fn n u i e,if_pos rfl,stE_eq]
   have hfa:fate u i=2:=Classical.byContradiction fun hne=>by rw[if_neg hne] at e4;omega
   have:fate (setS f u) i=fate u i:=rfl
   rw[this,if_pos hfa]
  ·rw[(oth n u i e hx).1];exact e4
 ·by_cases hx:u.x=t.x
  ·have hu:=key n u i e hx
   subst hu
   unfold Mg.state at e3
   rw[e,stE_eq] at e3
   split at e3<;>omega
  ·obtain⟨o1,o2,o3⟩:=oth n u i e hx
   rw[o1,o2,o3,if_neg hx];exact⟨e3,rfl⟩
 ·by_cases hx:u.x=t.x
  ·have htop:topX (m.fin t.x f) n=t.x:=by
    unfold topX
    rw[hc.fn n u i e,if_pos hx];rfl
   unfold Mg.state at e3
   rw[hc.fn n u i e,if_pos hx,stE_eq] at e3
   have hf3:f=3:=by
    have e5:(setS f t).st=f:=rfl
    rw[e5] at e3
    split at e3<;>omega
   refine .inr (fun k s2 hs ho=>?_)
   rw[htop,if_pos rfl]
   exact hwh hf3 k s2 hs ho
  ·rw[(oth n u i e hx).1] at e3;exact .inl e3
end
def IL (m:Mg) (q:Mo) (K:Nat→List Vn):Prop:= ∃m' K' σ g,Inv m' q K' σ∧Gh m m' q g∧Lf m m' q σ K K'
section
variable {m m':Mg} {q:Mo} {σ:Nat→Nat} {K K':Nat→List Vn} {g:Nat→Bool} {k:Nat} {s s':Se} {t t':Tx}
theorem IL.wf (h:IL m q K):Wf m:=by
 obtain⟨m',K',σ,g,hI,hG,_⟩:=h
 exact hG.wf hI.wf
theorem IL.iv (h:IL m q K):Iv m q K:=by
 have hw:=h.wf
 obtain⟨m',K',σ,g,hI,hG,hL⟩:=h
 exact hL.iv hI hw
theorem IL.ln (h:IL m q K):q.l.length=5:=by
 obtain⟨m',K',σ,g,hI,_⟩:=h
 exact hI.ln
theorem Gh.ses (hG:Gh m m' q g) (ht:SesTx m' s t):SesTx m s t:=
 ⟨by rw[hG.tx];exact List.mem_filter.2 ⟨ht.mem,by rw[hG.open_ ht.mem ht.lt3.2];rfl⟩,ht.x,ht.st,ht.ps⟩
theorem Gh.ses' (hG:Gh m m' q g) (ht:SesTx m s t):SesTx m' s t:=
 ⟨by have:=ht.mem;rw[hG.tx] at this;exact(List.mem_filter.1 this).1,ht.x,ht.st,ht.ps⟩
theorem IL.ses (h:IL m q K) (hs:q.l[k]? =some s) (ho:s.op=true):(∃t,SesTx m s t)∧s.wh≤q.n:=by
 obtain⟨m',K',σ,g,hI,hG,_⟩:=h
 obtain⟨⟨t,ht⟩,_,h3⟩:=hI.ses k s hs ho
 exact⟨⟨t,hG.ses ht⟩,h3⟩
theorem rs_set (hs:q.l[k]? =some s) (now wn:List Nat) (nn:Nat) (h:s'.op=true→s.op=true∧(s'.pp=false→s.pp=false)∧s'.mn=s.mn∧s'.mx=s.mx∧s'.on=s.on∧s'.wh=s.wh):Rs q ⟨q.l.set k s',now,wn,nn⟩:=fun j u hu hou=>.inl (by
 rcases set_get hs hu with⟨e1,e2⟩|⟨_,hu⟩
 ·rw[e2] at hou ⊢
  obtain⟨h1,h2,h3,h4,h5,h6⟩:=h hou
  exact⟨s,by rw[e1];exact hs,h1,h2,h3,h4,h5,h6⟩
 ·exact⟨u,hu,hou,fun e=>e,rfl,rfl,rfl,rfl⟩)
theorem rs_mn {q2:Mo} (hs:q.l[k]? =some s) (hq:q2.l=q.l.set k s') (h:s'.op=true→s.op=true∧(s'.pp=false→s.pp=false)∧s'.mn=s.mn): ∀(j:Nat) (s2:Se),q2.l[j]? =some s2→s2.op=true→s2.pp=false→ ∃(j:Nat) (s:Se),q.l[j]? =some s∧s.op=true∧s.pp=false∧s2.mn=s.mn:=fun j u hu hou hpp=>by
 rw[hq] at hu
 rcases set_get hs hu with⟨e1,e2⟩|⟨_,hu⟩
 ·rw[e2] at hou hpp ⊢
  obtain⟨h1,h2,h3⟩:=h hou
  exact⟨k,s,hs,h1,h2 hpp,h3⟩
 ·exact⟨j,u,hu,hou,hpp,rfl⟩
theorem no_x (K:Nat→List Vn): ∀κ,κ<6→K κ=K κ++(fun _:Nat=>([]:List Vn)) κ:=fun _ _=>(List.append_nil _).symm
theorem IL.turn (h:IL m q K) (hs:q.l[k]? =some s) (ho:s.op=true) (ht:SesTx m s t) {m2:Mg} {mf:Mg→Mg} (hm2:m2=mf m) (hch: ∀m',m'.nx=m.nx→Wf m'→t∈m'.tx→Ch m' (mf m') t t') (f:Tx→Tx) (hf: ∀u,(f u).x=u.x) (h1: ∀m1:Mg,m1.nx=m.nx→(mf m1).nx=m2.nx) (h2: ∀m1:Mg,(mf m1).on=m1.on) (h3: ∀m1:Mg,m1.nx=m.nx→(mf m1).tx=upd m1.tx t.x f)
  (ho':s'.op=true) (ht': ∀m2',t'∈m2'.tx→SesTx m2' s' t') (hx:s'.x=s.x) (hmn:s'.mn=s.mn) (hmx:s'.mx=s.mx) (hon:s'.on=s.on) (hba:s'.base=s.base) (hwh:s'.wh=s.wh) (hws:s'.ws=s.ws) (hpp:s'.pp=false→s.pp=false) (hps:s.ps.length≤s'.ps.length)
  (hwr: ∀i:Int, -1≤i→i<s.ps.length→wrN s' i=wrN s i∧(stdI s' i=true→stdI s i=true)):IL m2 { q with l:=q.l.set k s' } K:=by
 obtain⟨m',K',σ,g,hI,hG,hL⟩:=h
 have ht9:=hG.ses' ht
 have hnx:=hG.nx.symm
 have hc:=hch m' hnx hI.wf ht9.mem
 have hI2:=hI.turn hs ho ht9 hc ho' (ht' _ hc.mem) hx hmx hon hba hwh hws hps hwr
 have hT:Tn m' (mf m') { q with l:=q.l.set k s' } σ σ:=tn_turn hI.wf ht9 hc (ht' _ hc.mem) hwr
 have hG2:Gh m2 (mf m') { q with l:=q.l.set k s' } g:=by
  rw[hm2]
  exact hG.chg ht9.mem ht.lt3.2 f hf (by rw[h1 m' hnx,h1 m rfl]) (by rw[h2,h2];exact hG.on) (h3 m rfl) (h3 m' hnx) hc.nx (fun y hy=>by rw[h2] at hy;exact hy) (rs_mn hs rfl (fun _=>⟨ho,hpp,hmn⟩))
 exact⟨mf m',K',σ,g,hI2,hG2,hL.step hI hI2 (hG2.fg hc.wf) (hG.gn hG2 hI.wf hc.wf hT) (rs_set hs _ _ _ (fun _=>⟨ho,hpp,hmn,hmx,hon,hwh⟩)) hT (fun _=>[]) (fun _ _ _ hv=>by cases hv) (no_x K) (no_x K')⟩
theorem IL.prep (h:IL m q K) (hs:q.l[k]? =some s) (ho:s.op=true) (ht:SesTx m s t) (hpp:s.pp=false):IL (m.prep t.x) { q with l:=q.l.set k { s with pp:=true } } K:=
 h.turn (s':= { s with pp:=true }) (mf:=fun m1=>m1.prep t.x) hs ho ht rfl (fun _ _ hw hm=>ch_prep hw hm ht.lt3.2) (setS 2) (fun _=>rfl) (fun _ e=>e) (fun _=>rfl) (fun _ _=>rfl) ho (fun _ hm=>⟨hm,ht.x,rfl,ht.ps⟩) rfl rfl rfl rfl rfl rfl rfl (fun _=>hpp) (Nat.le_refl _) (fun _ _ _=>⟨rfl,fun h=>h⟩)
theorem IL.ends_ (h:IL m q K) (hs:q.l[k]? =some s) (ho:s.op=true) (ht:SesTx m s t) (j:Nat) (b:Bool):IL (m.endp t.x j (if b then 2 else 1)) { q with l:=q.l.set k (endS s j b) } K:=
 h.turn (s':=endS s j b) (mf:=fun m1=>m1.endp t.x j (if b then 2 else 1)) hs ho ht rfl (fun _ _ hw hm=>ch_endp hw hm (j:Int) (f:=if b then 2 else 1) (by split<;>omega)) (fun u=> { u with ps:=endPs u.ps j (if b then 2 else 1) }) (fun _=>rfl) (fun _ e=>e) (fun _=>rfl) (fun _ _=>rfl) ho (fun _ hm=>endS_tx ht hm) rfl rfl rfl rfl rfl rfl rfl (fun e=>e) (Nat.le_of_eq (psj_len _ _ _ _).symm) (fun i _ _=>endS_wr s j b i)
theorem IL.add (h:IL m q K) (hs:q.l[k]? =some s) (ho:s.op=true) (ht:SesTx m s t) (hpp:s.pp=false) (hn:m.nx≤2147483647) (hl:t.ps.length<64):IL (m.part t (innS s)) { q with l:=q.l.set k (addS s m.nx) } K:=by
 obtain⟨h1,h2,h3,h4⟩:=inn_ok ht hpp
 refine h.turn (s':=addS s m.nx) (t':=addP ⟨m.nx,innS s,0⟩ t) (mf:=fun m1=>m1.part t (innS s)) hs ho ht rfl (fun m' e hw hm=>?_) (addP ⟨m.nx,innS s,0⟩) (fun _=>rfl) (fun m1 e=>by show m1.nx+1=m.nx+1;rw[e]) (fun _=>rfl) (fun m1 e=>by show upd m1.tx t.x (addP ⟨m1.nx,innS s,0⟩)=_;rw[e]) ho (fun m2' hm=>addS_tx ht hm) rfl rfl rfl rfl rfl rfl rfl (fun e=>e) (by show s.ps.length≤(s.ps++[_]).length;rw[List.length_append];omega) (fun i _ hi=>addS_wr s m.nx i hi)
 have:=ch_part hw hm (i:=innS s) ⟨h1,by rw[ht.ps,List.length_map];exact h2⟩ (by rw[e];exact hn) hl
 rw[e] at this
 exact this
theorem IL.write (h:IL m q K) (hs:q.l[k]? =some s) (ho:s.op=true) {i:Int} (h1: -1≤i) (h2:i<s.ps.length) (hstd:stdI s i=true) {κ:Nat} (hnc: ¬ConfP q k s κ) (gn:Bool) (n:Nat):
  IL m { q with l:=q.l.set k { s with ws:=s.ws++[⟨i,κ,gn,n⟩] } } (fun j=>if j=κ then K κ++[⟨wrN s i,gn,n⟩] else K j):=by
 obtain⟨m',K',σ,g,hI,hG,hL⟩:=h
 have hI2:=hI.write hs ho h1 h2 hstd hnc gn n
 obtain⟨⟨t,ht⟩,_,_⟩:=hI.ses k s hs ho
 have ht9:=hG.ses ht
 have hG2:Gh m m' { q with l:=q.l.set k { s with ws:=s.ws++[⟨i,κ,gn,n⟩] } } g:=
  ⟨hG.nx,hG.on,hG.tx,hG.dn,hG.bo,fun u hu e j s2 hs2 ho2 hp2=>by
   obtain⟨j',s3,a1,a2,a3,a4⟩:=rs_mn (q2:= { q with l:=q.l.set k { s with ws:=s.ws++[⟨i,κ,gn,n⟩] } }) (s':= { s with ws:=s.ws++[⟨i,κ,gn,n⟩] }) hs rfl (fun _=>⟨ho,fun e=>e,rfl⟩) j s2 hs2 ho2 hp2
   rw[a4];exact hG.bs u hu e j' s3 a1 a2 a3,hG.lo⟩
 have hT:Tn m' m' { q with l:=q.l.set k { s with ws:=s.ws++[⟨i,κ,gn,n⟩] } } σ σ:=tn_same (fun _ _ _ e=>e)
 have hw:=hG.wf hI.wf
 refine⟨m',_,σ,g,hI2,hG2,hL.step hI hI2 (hG2.fg hI.wf) (hG.gn hG2 hI.wf hI.wf hT) (rs_set hs _ _ _ (fun _=>⟨ho,fun e=>e,rfl,rfl,rfl,rfl⟩)) hT (fun j=>if j=κ then[⟨wrN s i,gn,n⟩] else[]) (fun κ' _ v hv=>?_) (fun κ' _=>?_) (fun κ' _=>?_)⟩
 ·by_cases e:κ'=κ
  ·rw[if_pos e,List.mem_singleton] at hv
   subst hv
   refine⟨⟨t,i,ses_fnd hw ht9 h1 h2⟩,?_⟩
   have:=ses_state hI.wf ht h1 h2
   rw[hstd,if_pos rfl] at this
   have:=ht.lt3
   show m'.state (wrN s i)=1∨m'.state (wrN s i)=2
   omega
  ·rw[if_neg e] at hv;cases hv
 ·show(if κ'=κ then K κ++_ else K κ')=K κ'++(if κ'=κ then _ else _)
  split
  ·rename_i e;rw[e]
  ·exact(List.append_nil _).symm
 ·show(if κ'=κ then K' κ++_ else K' κ')=K' κ'++(if κ'=κ then _ else _)
  split
  ·rename_i e;rw[e]
  ·exact(List.append_nil _).symm
theorem IL.fin (h:IL m q K) (hs:q.l[k]? =some s) (ho:s.op=true) (ht:SesTx m s t) {f:Nat} (hf:f=3∨f=4) (now wn:List Nat) (nn:Nat)
  (hn:nn=if f=3 then q.n+1 else q.n) (hnow: ∀κ,κ<6→now.getD κ 0=if f=3∧wroteS s κ=true then seesS s κ else q.now.getD κ 0) (hwn: ∀κ,κ<6→wn.getD κ 0=if f=3∧wroteS s κ=true then nn else q.wn.getD κ 0):
  IL (m.fin t.x f) ⟨q.l.set k se0,now,wn,nn⟩ K:=by
 obtain⟨m',K',σ,g,hI,hG,hL⟩:=h
 have ht9:=hG.ses' ht
 have hI2:=hI.ends hs ho ht9 hf now wn nn hn hnow hwn
 have hT:Tn m' (m'.fin t.x f) ⟨q.l.set k se0,now,wn,nn⟩ σ (fun x=>if x=t.x then nn else σ x):=tn_fin hI.wf ht9 hf (fun e j s2 hs2 ho2=>by
  rw[if_pos e] at hn
  rcases set_get hs hs2 with⟨_,e2⟩|⟨_,hu⟩
  ·rw[e2] at ho2;cases ho2
  ·have:=(hI.ses j s2 hu ho2).wh;omega)
 have hG2:Gh (m.fin t.x f) (m'.fin t.x f) ⟨q.l.set k se0,now,wn,nn⟩ g:=
  hG.chg ht9.mem ht.lt3.2 (setS f) (fun _=>rfl) hG.nx (by show m.on.filter _=m'.on.filter _;rw[hG.on]) rfl rfl (Nat.le_refl _) (fun y hy=>(List.mem_filter.1 hy).1) (rs_mn (s':=se0) hs rfl (fun e=>by cases e))
 exact⟨_,K',_,g,hI2,hG2,hL.step hI hI2 (hG2.fg hI2.wf) (hG.gn hG2 hI.wf hI2.wf hT) (rs_set hs _ _ _ (fun e=>by cases e)) hT (fun _=>[]) (fun _ _ _ hv=>by cases hv) (no_x K) (no_x K')⟩
theorem on_up (hw:Wf m):m.on.Pairwise (fun a b=>a<b):=by
 rw[hw.on,List.pairwise_map]
 exact hw.up.filter _
theorem on_lt (hw:Wf m) {y:Nat} (hy:y∈m.on):y<m.nx:=by
 rw[hw.on] at hy
 obtain⟨t,ht,rfl⟩:=List.mem_map.1 hy
 exact(hw.lo t (List.mem_filter.1 ht).1).2
theorem head_le (hw:Wf m):m.on.headD m.nx≤m.nx∧ ∀y∈m.on,m.on.headD m.nx≤y:=by
 have h1:=on_up hw
 have h2: ∀y∈m.on,y<m.nx:=fun y hy=>on_lt hw hy
 cases h:m.on with
 |nil=>exact⟨Nat.le_refl _,fun y hy=>by cases hy⟩
 |cons a r=>
  rw[h] at h1 h2
  refine⟨Nat.le_of_lt (h2 a List.mem_cons_self),fun y hy=>?_⟩
  show a≤y
  rcases List.mem_cons.1 hy with e|hy
  ·rw[e];exact Nat.le_refl _
  ·exact Nat.le_of_lt ((List.pairwise_cons.1 h1).1 y hy)
theorem IL.begin (h:IL m q K) (hs:q.l[k]? =some s) (hcl:s.op=false) (hn:m.nx≤2147483647):IL m.begin { q with l:=q.l.set k ⟨true,false,m.nx,m.on.headD m.nx,m.nx,m.on,q.now,q.n,[],[]⟩ } K:=by
 have hw:=h.wf
 obtain⟨m',K',σ,g,hI,hG,hL⟩:=h
 have hI2:=hI.begin hs hcl (by rw[←hG.nx];exact hn)
 rw[←hG.nx, ←hG.on] at hI2
 obtain⟨h1,h2⟩:=head_le hw
 have hT:Tn m' m'.begin { q with l:=q.l.set k ⟨true,false,m.nx,m.on.headD m.nx,m.nx,m.on,q.now,q.n,[],[]⟩ } σ σ:=tn_same (fun n u i e=>by
  show fnd (m'.tx++[_]) n=_
  rw[fnd_snoc,e])
 have old: ∀u∈m'.begin.tx,g u.x=true→u∈m'.tx:=fun u hu e=>by
  rcases List.mem_append.1 hu with hu|hu
  ·exact hu
  ·rw[List.mem_singleton.1 hu] at e
   have:=hG.lo _ e
   simp only at this
   omega
 have hG2:Gh m.begin m'.begin { q with l:=q.l.set k ⟨true,false,m.nx,m.on.headD m.nx,m.nx,m.on,q.now,q.n,[],[]⟩ } g:=by
  refine⟨by show m.nx+1=m'.nx+1;rw[hG.nx],by show m.on++[m.nx]=m'.on++[m'.nx];rw[hG.on,hG.nx],?_,fun u hu e=>hG.dn u (old u hu e) e,fun u hu e y hy=>?_,fun u hu e j s2 hs2 ho2 hp2=>?_,fun x hx=>Nat.lt_succ_of_lt (hG.lo x hx)⟩
  ·show m.tx++[(⟨m.nx,1,[]⟩:Tx)]=(m'.tx++[(⟨m'.nx,1,[]⟩:Tx)]).filter (fun t=> !g t.x)
   rw[List.filter_append, ←hG.tx,hG.nx]
   have:g m'.nx=false:=by
    cases e:g m'.nx with
    |false=>rfl
    |true=>have:=hG.lo _ e;omega
   simp[this]
  ·have hu:=old u hu e
   rcases List.mem_append.1 hy with hy|hy
   ·exact hG.bo u hu e y hy
   ·rw[List.mem_singleton.1 hy];exact last_lt hI.wf hu
  ·have hu:=old u hu e
   rcases set_get hs hs2 with⟨_,e2⟩|⟨_,hs3⟩
   ·rw[e2]
    show lastX u<m.on.headD m.nx
    have b1:=hG.bo u hu e
    rw[←hG.on] at b1
    have b2:=last_lt hI.wf hu
    rw[←hG.nx] at b2
    cases hc:m.on with
    |nil=>exact b2
    |cons a r=>rw[hc] at b1;exact b1 a List.mem_cons_self
   ·exact hG.bs u hu e j s2 hs3 ho2 hp2
 refine⟨_,K',σ,g,hI2,hG2,hL.step hI hI2 (hG2.fg hI2.wf) (hG.gn hG2 hI.wf hI2.wf hT) (fun j u hu hou=>?_) hT (fun _=>[]) (fun _ _ _ hv=>by cases hv) (no_x K) (no_x K')⟩
 rcases set_get hs hu with⟨e1,e2⟩|⟨_,hu⟩
 ·rw[e2];exact .inr ⟨rfl,h1,h2⟩
 ·exact .inl ⟨u,hu,hou,fun e=>e,rfl,rfl,rfl,rfl⟩
theorem IL.vac (h:IL m q K) {below:Int} (h2: ∀y∈m.on,below≤(y:Int)) (h3: ∀(k:Nat) (s:Se),q.l[k]? =some s→s.op=true→s.pp=false→below≤s.mn):
  IL (m.forget below) q (fun κ=>needN m (spL q) (K κ))∧ ∀κ,κ<6→needN (m.forget below) (spL q) (needN m (spL q) (K κ))=needN m (spL q) (K κ):=by
 have hw:=h.wf
 obtain⟨m',K',σ,g,hI,hG,hL⟩:=h
 obtain⟨hV,hV4⟩:=hL.vac hI hw
 obtain⟨g2,hg2⟩: ∃g2:Nat→Bool,g2=fun x=>g x||m'.tx.any (fun t=>decide (t.x=x) && goneT t below):=⟨_,rfl⟩
 have hgx: ∀t∈m'.tx,g2 t.x=(g t.x||goneT t below):=fun t ht=>by
  rw[hg2]
  show(g t.x||m'.tx.any (fun u=>decide (u.x=t.x) && goneT u below))=_
  congr 1
  rw[Bool.eq_iff_iff,List.any_eq_true]
  constructor
  ·rintro⟨u,hu,e⟩
   rw[Bool.and_eq_true,decide_eq_true_eq] at e
   have:=hI.wf.uniq u hu t ht e.1
   rw[←this];exact e.2
  ·exact fun e=>⟨t,ht,by rw[e];simp⟩
 have hgo: ∀t∈m'.tx,g2 t.x=true→g t.x=true∨(3≤t.st∧(lastX t:Int)<below):=fun t ht e=>by
  rw[hgx t ht,Bool.or_eq_true] at e
  refine e.imp id (fun e=>?_)
  unfold goneT at e
  rw[Bool.and_eq_true,decide_eq_true_eq,decide_eq_true_eq] at e
  exact e
 have hG2:Gh (m.forget below) m' q g2:=by
  refine⟨hG.nx,hG.on,?_,fun t ht e=>?_,fun t ht e y hy=>?_,fun t ht e k s hs ho hpp=>?_,fun x hx=>?_⟩
  ·show m.tx.filter (fun t=> !goneT t below)=_
   rw[hG.tx,List.filter_filter]
   refine List.filter_congr (fun t ht=>?_)
   rw[hgx t ht]
   cases g t.x<;>cases goneT t below<;>rfl
  ·rcases hgo t ht e with h|h
   ·exact hG.dn t ht h
   ·exact h.1
  ·rcases hgo t ht e with h|h
   ·exact hG.bo t ht h y hy
   ·rw[←hG.on] at hy
    have:=h2 y hy
    omega
  ·rcases hgo t ht e with h|h
   ·exact hG.bs t ht h k s hs ho hpp
   ·have:=h3 k s hs ho hpp
    omega
  ·rw[hg2] at hx
   have hx:(g x||m'.tx.any (fun t=>decide (t.x=x) && goneT t below))=true:=hx
   rw[Bool.or_eq_true] at hx
   rcases hx with hx|hx
   ·exact hG.lo x hx
   ·obtain⟨u,hu,e⟩:=List.any_eq_true.1 hx
    rw[Bool.and_eq_true,decide_eq_true_eq] at e
    rw[←e.1];exact(hI.wf.lo u hu).2
 have hw2:=hG2.wf hI.wf
 have hL2:Lf (m.forget below) m' q σ (fun κ=>needN m (spL q) (K κ)) K':=by
  refine⟨hG2.fg hI.wf,hV.sn,fun κ hκ v hv e=>?_,hV.key⟩
  cases hf:fnd m.tx v.wr with
  |none=>exact hV.fo κ hκ v hv hf
  |some r=>
   obtain⟨t,i⟩:=r
   have h4:=hV4 κ hκ v hv
   have hfm:=hG.fg hI.wf
   have hf':=hfm.kp _ _ _ hf
   have hgo2:goneT t below=true:=by
    have:fnd (m.tx.filter (fun t=> !goneT t below)) v.wr=none:=e
    rw[fnd_filter hw,hf] at this
    simp only at this
    cases hg:goneT t below with
    |true=>rfl
    |false=>rw[hg] at this;cases this
   unfold goneT at hgo2
   rw[Bool.and_eq_true,decide_eq_true_eq] at hgo2
   have hst:=(hI.wf.st t (fnd_mem hf').1).2
   unfold Mg.state at h4 ⊢
   rw[hf,stE_eq] at h4
   rw[hf',stE_eq]
   by_cases hfa:fate t i=2
   ·rw[if_pos hfa] at h4;exact absurd rfl h4
   ·rw[if_neg hfa] at h4 ⊢
    omega
 refine⟨⟨m',K',σ,g2,hI,hG2,hL2⟩,fun κ hκ=>?_⟩
 have e1:=hL2.nice hI hw2 hκ
 have e2:=hL.nice hI hw hκ
 have e1:needN (m.forget below) (spL q) (needN m (spL q) (K κ))=F.nice m' σ q (needN m (spL q) (K κ)):=e1
 rw[e1,e2,nice_fix]
theorem IL.zero (hI:Inv m q K σ) (hsn: ∀(k:Nat) (s:Se),q.l[k]? =some s→s.op=true→False):IL m q K:=
 ⟨m,K,σ,fun _=>false,hI,⟨rfl,rfl,(List.filter_eq_self.2 (fun _ _=>rfl)).symm,(fun _ _ e=>by cases e),(fun _ _ e=>by cases e),(fun _ _ e=>by cases e),(fun _ e=>by cases e)⟩,Lf.refl hI (fun k s hs ho=>(hsn k s hs ho).elim)⟩
end
set_option maxRecDepth 100000
theorem parts_release {w0:Fr} {w:World} {qb hb mb nq:Nat} {m:Mg} {L:HL} {q:Mo} {A:Nat→Sx} {F:Nat→Prop} (h:LW w0 w qb hb mb nq m L q A F) (hwf:Wf m) {k:Nat} {s:Se} (hs:q.l[k]? =some s) {t:Tx} (ht:SesTx m s t) (hpp:s.pp=false) (hl:s.ps.length≤12) {who key n:Int} (hni: -9223372036854775808≤n∧n≤9223372036854775807):
  Calls Tryz.prog 21 #[.pointer (some ⟨qb,0,none⟩),.pointer (some ⟨qb,2+k*15,none⟩),actV 4 who key n] w fun x w'=> ∃b,x= .returned (.bool b)∧b=true∧((∃F',LW w0 w' qb hb mb nq m L q A F')∨ ∃(j:Nat) (F':Nat→Prop),LW w0 w' qb hb mb nq (m.endp t.x j 1) L { q with l:=q.l.set k (endS s j false) } A F'):=by
 obtain⟨N,hN⟩: ∃N,N=w.heap.size:=⟨_,rfl⟩
 obtain⟨w1,hw1⟩: ∃w1,w1=w.alloc (.cells #[.int .i64 4,.int .i64 who,.int .i64 key,.int .i64 n] 29):=⟨_,rfl⟩
 have tw1:Tch (fun _=>False) w w1:=by rw[hw1];exact Tch.alloc _ _ _
 have bN:w1.heap[N]? =some (.cells #[.int .i64 4,.int .i64 who,.int .i64 key,.int .i64 n] 29 (0,0)):=by rw[hw1,hN];exact alloc_new _ _
 have HAc:Hid (∀W,Tch (fun _=>False) w1 W→W.cell? ⟨N,0,none⟩=some (.int .i64 4)∧W.cell? ⟨N,3,none⟩=some (.int .i64 n)):=fun W tt=>by
  have:=(tt.block N (blk_lt bN) (fun e=>e)).trans bN
  rw[blk_cell this,blk_cell this];exact⟨rfl,rfl⟩
 have HBN:Hid (w1.heap[N]? =some (.cells #[.int .i64 4,.int .i64 who,.int .i64 key,.int .i64 n] 29 (0,0))):=bN
 have HL0:Hid (LW w0 w qb hb mb nq m L q A F):=h
 have HL1:Hid (∀W,Tch (fun _=>False) w1 W→LW w0 W qb hb mb nq m L q A F):=fun W tt=>(h.no tw1).no tt
 have HT1:Hid (Tch (fun _=>False) w w1):=tw1
 have HS:Hid (q.l[k]? =some s):=hs
 have HPk:Hid (∀W (c:Nat),0<c→c≤12→Calls Tryz.prog 7 #[.int .i64 n,.int .i64 c] W fun x w'=>x= .returned (.int .i64 (pkN n c))∧w'=W):=fun W c h1 h2=>pick9_any n c W hni.1 hni.2 h1 (by omega)
 have HOk:Hid (∀(j:Nat) (p:Pr),s.ps[j]? =some p→p.live=true→p.bk=false→fnd m.tx (p.x:Int)=some (t,(j:Int))∧may t (j:Int)=true):=fun j p h1 h2 h3=>part_ok hwf ht hpp h1 h2 h3
 have HPx:Hid (∀(j:Nat) (p:Pr),s.ps[j]? =some p→p.x≤1000000):=fun j p h1=>((h.bd k s hs).pr j p h1).2.2
 obtain⟨n9,hn9⟩: ∃n9,n9=s.ps.length:=⟨_,rfl⟩
 have Hn9:Hid (n9=s.ps.length):=hn9
 have hl9:n9≤12:=by omega
 have H13:Hid (∀W,Tch (fun _=>False) w1 W→SR W qb (2+k*15) s (A k)∧W.cell? ⟨qb,2+k*15+13,none⟩=some (.slice (A k).po n9 (A k).pc)):=fun W tt=>by
  have hR:=(HL1.out W tt).mor.se k s hs
  exact⟨hR,by rw[hn9];exact hR.c 13 _ rfl⟩
 have HW1:Hid (w1=_):=hw1
 have HN:Hid (N=w.heap.size):=hN
 have HLV0:Hid (LV w1 w1 s none 0 []):=⟨Tch.refl _ _,World.ownsRow_nil _ _ _ _,fun x hx=>by cases hx⟩
 have x0:=(HAc.out w1 (Tch.refl _ _)).1
 obtain⟨i0,hi0,hz0,hz1,hz2⟩:=info_parts info_int
 unfold actV
 clear h hwf hs ht hpp hl hn9 hw1 hN bN tw1 hni
 go_enter Tryz.func21,Tryz.ntmps21
 go_upto_region 1 with(fail)
 rw[←HW1.out, ←HN.out]
 go_upto_region 8 with(fail)
 clear x0
 go_wp2_with fail
 go_loopw [11,12] (fun i11 i12 wr=> ∃(l:List Nat) (lo:Option Addr) (lc c:Nat),i11= .slice lo l.length lc∧i12= .int .i64 c∧c≤n9∧l.length≤c∧Hid (LV w1 wr s lo lc l)) (fun _ i12 _=>(n9 - intOf i12).toNat)
 case atStart=>exact⟨[],none,0,0,rfl,rfl,Nat.zero_le _,Nat.le_refl _,HLV0⟩
 case round=>
  obtain⟨l,lo,lc,c,rfl,rfl,hc,hlc,HV⟩:=hrel
  obtain⟨wV,hwV⟩: ∃wV,wV=wr:=⟨_,rfl⟩
  subst hwV
  obtain⟨hR,c13⟩:=H13.out wV HV.out.t
  obtain⟨ll,hll⟩: ∃ll,ll=l.length:=⟨_,rfl⟩
  have Hll:Hid (ll=l.length):=hll
  rw[←hll] at hlc ⊢
  clear hll
  rcases Nat.lt_or_ge c n9 with hcn|hcn
  ·obtain⟨p,hp⟩: ∃p,s.ps[c]? =some p:=⟨_,List.getElem?_eq_getElem (by have:=Hn9.out;omega)⟩
   obtain⟨g,e,k0,k1,k2,k3⟩:=hR.part hp
   rw[e] at c13
   have HAl:Hid (p.live=true→p.bk=false→ ∀x∈l++[c], ∃p,s.ps[x]? =some p∧p.live=true∧p.bk=false):=fun h1 h2 x hx=>by
    rcases List.mem_append.1 hx with hx|hx
    ·exact HV.out.al x hx
    ·rw[List.mem_singleton.1 hx];exact⟨p,hp,h1,h2⟩
   generalize p.live=lv at*
   generalize p.bk=bk at*
   clear hp e hR k0 k1
   cases lv with
   |true=>
    cases bk with
    |false=>
     obtain⟨wB,hwB⟩: ∃wB,wB=wV.alloc (.cells #[.int .i64 c] 3):=⟨_,rfl⟩
     have hB:LV w1 wB s lo lc l:=HV.out.no (by rw[hwB];exact Tch.alloc _ _ _)
     have Hrow:Hid (wB.ownsRow w1.heap.size 3 1 (.slice lo ll lc) ll (icl l)):=by rw[Hll.out];exact hB.ow
     have Hcl:Hid (∀j u,([.int .i64 c]:List Value)[j]? =some u→wB.cell? ((⟨wV.heap.size,0,none⟩:Addr).add j)=some u):=fun j u hu=>by
      rw[add_plain,Nat.zero_add,hwB,blk_cell (alloc_new _ _),List.getElem?_toArray];exact hu
     have HTB:Hid (Tch (fun _=>False) w1 wB):=hB.t
     have HWB:Hid (wB=_):=hwB
     have Hbs:Hid (w1.heap.size≤wB.heap.size):=hB.t.size
     clear hwB hB
     go_wp2_with (at_builtin;have hw0:=HWB.out;rw[←hw0];clear hw0;refine wpList_append_keeps _ rfl _ _ 23 rfl w1.heap.size 3 i0 (.int .i64 0) 1 8 Tryz.underlying23 hi0 hz0 hz1 hz2 rfl (by decide) (.slice lo ll lc) ll (icl l) rfl Hrow.out ⟨wV.heap.size,0,none⟩ 1 1 [.int .i64 c] rfl (by simp) Hcl.out (by simp[Value.oneCell']) (by unfold maxLen;omega) (by omega) Hbs.out ?_;intro v1 w5 hown1 hgr1 hat1 _;have HO:Hid (w5.ownsRow w1.heap.size 3 1 v1 (ll+1) (icl l++[.int .i64 c])):=hown1;have HT:Hid (Tch (fun _=>False) w1 w5):=HTB.out.trans (grown_at (Tch.refl (fun _=>False) wB) hgr1) (fun i hi e=>by have:=row_ge Hrow.out e;omega);obtain⟨o1,c1,rfl⟩:=row_slice hown1;clear hown1 hgr1 hat1)
     go_roundw
     case rel=>exact⟨l++[c],o1,c1,c+1,(by rw[List.length_append,List.length_singleton, ←Hll.out]),(by rfl),by omega,(by rw[List.length_append,List.length_singleton, ←Hll.out];omega),HT.out,(by rw[List.length_append,List.length_singleton, ←Hll.out,icl_snoc];exact HO.out),HAl.out rfl rfl⟩
     case measure=>(simp[intOf]<;>omega)
    |true=>
     go_wp2_with fail
     go_roundw
     case rel=>exact⟨l,lo,lc,c+1,(by rw[←Hll.out]),(by rfl),by omega,(by rw[←Hll.out];omega),HV⟩
     case measure=>(simp[intOf]<;>omega)
   |false=>
    go_wp2_with fail
    go_roundw
    case rel=>exact⟨l,lo,lc,c+1,(by rw[←Hll.out]),(by rfl),by omega,(by rw[←Hll.out];omega),HV⟩
    case measure=>(simp[intOf]<;>omega)
  ·have hcc:c=n9:=by omega
   subst hcc
   have HR9:Hid (SR wV qb (2+k*15) s (A k)):=hR
   clear hR hcn
   rcases Nat.eq_zero_or_pos ll with hz|hz
   ·subst hz
    have HE:Hid (LW w0 wV qb hb mb nq m L q A F):=HL1.out wV HV.out.t
    go_wp2_with fail
    go_ret
    exact⟨_,rfl,rfl,.inl ⟨F,HE.out⟩⟩
   ·have a3:=(HAc.out wV HV.out.t).2
    have a4:=(HAc.out wV HV.out.t).1
    have hzi:((ll:Int)==0)=false:=by rw[beq_eq_false_iff_ne];omega
    obtain⟨j,hj⟩: ∃j,l[pkN n ll]? =some j:=⟨_,List.getElem?_eq_getElem (by rw[←Hll.out];exact pkN_lt n hz)⟩
    obtain⟨p,hp,hpl,hpb⟩:=HV.out.al j (List.mem_of_getElem? hj)
    have hjn:j<c:=by have:=(List.getElem?_eq_some_iff.1 hp).1;have:=Hn9.out;omega
    obtain⟨lg,hlo,_,hla⟩:=slf_of HV.out.ow (by intro e;have:=congrArg List.length e;rw[icl_len] at this;rw[←Hll.out] at this;simp at this;omega)
    have hlc0:=hla (pkN n ll) (.int .i64 j) (by unfold icl;rw[List.getElem?_map,hj];rfl)
    rw[Nat.zero_add] at hlc0
    obtain⟨pk,hpk⟩: ∃pk,pk=pkN n ll:=⟨_,rfl⟩
    have hpkl:pk<ll:=by rw[hpk];exact pkN_lt n hz
    have qp:=HPk.out wV ll hz (by omega)
    rw[←hpk] at qp hlc0
    rw[hlo]
    obtain⟨F',hF'⟩: ∃F':Nat→Prop,F'=fun i=>F i∨w.heap.size≤i∧i<wV.heap.size:=⟨_,rfl⟩
    have hLV:LW w0 wV qb hb mb nq m L q A F':=by rw[hF'];exact HL0.out.fresh (HT1.out.trans' HV.out.t)
    have HNm:Hid (F' N):=by rw[hF'];exact .inr ⟨by rw[←HN.out];exact Nat.le_refl _,Nat.lt_of_lt_of_le (blk_lt HBN.out) HV.out.t.size⟩
    have HbV:Hid (wV.heap[N]? =some (.cells #[.int .i64 4,.int .i64 who,.int .i64 key,.int .i64 n] 29 (0,0))):=(HV.out.t.block N (blk_lt HBN.out) (fun e=>e)).trans HBN.out
    obtain⟨g,hg,k0,k1,k2,k3⟩:=HR9.out.part hp
    have Hg:Hid ((A k).po=some ⟨g,0,none⟩):=hg
    obtain⟨hf,hmay⟩:=HOk.out j p hp hpl hpb
    have hpx:=HPx.out j p hp
    have HLV:Hid (LW w0 wV qb hb mb nq m L q A F'):=hLV
    have Hp:Hid (s.ps[j]? =some p):=hp
    obtain⟨C,hC⟩: ∃C:List Value→World→Prop,C=P1 w0 wV qb hb mb nq (m.endp t.x j 1) L q A F':=⟨_,rfl⟩
    have hKc:Hid (∀s1 W,C s1 W→W.cell? ⟨qb,0,none⟩=some (.pointer (some ⟨mb,0,none⟩))∧W.cell? ⟨qb,2+k*15+13,none⟩=some (.slice (some ⟨g,0,none⟩) c (A k).pc)∧W.cell? ⟨g,j*4,none⟩=some (.int .i64 p.x)):=fun s1 W hW=>by
     rw[hC] at hW
     have hm:MoR W qb mb hb q A:=by
      match s1,hW with
      |[],hW=>exact(HLV.out.no hW).mor
      |[_],hW=>exact hW.2.1.mor
     have hR:=hm.se k s HS.out
     obtain⟨g2,e2,k0',_⟩:=hR.part Hp.out
     rw[hg] at e2
     injection e2 with e2
     have e2:g=g2:=by injection e2
     subst e2
     exact⟨hm.cm,by rw[←hg,Hn9.out];exact hR.c 13 _ rfl,k0'⟩
    have c1:Hid (∀W,C [] W→Calls Tryz.prog 46 #[.pointer (some ⟨mb,0,none⟩),.int .i64 p.x] W fun x W'=> ∃y,x= .returned y∧C [y] W'):=fun W hW=>by
     rw[hC] at hW ⊢
     have hW:Tch (fun _=>False) wV W:=hW
     have hL:=HLV.out.no hW
     refine(releases_h hL.hs hf hmay (by omega) (by omega)).mono ?_
     rintro x W' ⟨rfl,hs2,t2⟩
     exact⟨_,rfl,rfl,hL.kept hs2 t2,(kept_of hW).trans' t2⟩
    have s1:Hid (∀y W,C [y] W→y= .int .i64 0):=fun y W hW=>by
     rw[hC] at hW
     exact hW.1
    have HF:Hid (∀y W,C [y] W→LW w0 W qb hb mb nq (m.endp t.x j 1) L q A F'∧Kept F' wV W):=fun y W hW=>by
     rw[hC] at hW
     exact hW.2
    have h00:Hid (∀W,W=wV→C [] W.drew):=fun W hW=>by rw[hC,hW];exact(Tch.refl _ _).drew
    clear hC hF' hLV hf hmay hpx hp hla hpk hpl hpb hg k0 k1 k2 k3 HOk HPk HLV0 hlo hj
    go_wp2_with fail
    refine qp.mono ?_
    clear qp
    rintro x w4 ⟨rfl,rfl⟩
    go_upto_region 20 with(fail)
    have h01:=h00.out _ rfl
    refine wp_region_ordv [12] C 13 [0,1,2,3,4,5,6,7,8,9,10,11,12] (by kernel_rfl) (by kernel_rfl) h01 ?_
    clear h00 h01 hlc0 a3 a4
    iterate 12
     refine ordv_read rfl (by go_simp) (by rfl) ?_
     apply Exists.intro
     refine⟨fun s' W hW b K Q hK'=>?_,fun K hK'=>?_⟩
     ·obtain⟨q0,q1,q2⟩:=hKc.out _ W hW
      go_simp
      exact hK' W hW
     go_simp
     refine hK' _ ?_
     clear hK' K
    refine ordv_turn rfl (by go_simp) (by rfl) (fun W hW b K Q hK'=>?_) (fun u hu K hK'=>?_)
    ·go_simp
     go_at_call 46
     refine(c1.out W hW).mono ?_
     rintro x w' ⟨y,rfl,h1⟩
     exact hK' y w' h1
    obtain rfl:u= .int .i64 0:=by
     obtain⟨W',hW'⟩:=hu
     exact s1.out u W' hW'
    clear hu c1 s1
    go_simp
    refine hK' _ ?_
    clear hK' K
    refine ordv_nil ?_
    intro w5 hw5
    have h5:=HF.out _ w5 hw5
    have H5:Hid (LW w0 w5 qb hb mb nq (m.endp t.x j 1) L q A F'):=h5.1
    have Hb5:Hid (w5.heap[N]? =some (.cells #[.int .i64 4,.int .i64 who,.int .i64 key,.int .i64 n] 29 (0,0))):=(h5.2.block N (blk_lt HbV.out) (fun e=>e HNm.out)).trans HbV.out
    clear HF hw5 h5 hKc
    have hzL:LW w0 w5 qb hb mb nq (m.endp t.x j 1) L { q with l:=q.l.set k (sj s j false 0) } A F':=by
     rw[sj_zero,set_same HS.out];exact H5.out
    have HZ:Hid _:=hzL
    clear hzL
    simp only[List.drop_succ_cons,List.drop_zero]
    go_wp2_with fail
    go_loopw [15] (fun i15 wr=> ∃d:Nat,i15= .int .i64 d∧d≤c∧Hid (LW w0 wr qb hb mb nq (m.endp t.x j 1) L { q with l:=q.l.set k (sj s j false d) } A F'∧wr.heap[N]? =some (.cells #[.int .i64 4,.int .i64 who,.int .i64 key,.int .i64 n] 29 (0,0)))) (fun i15 _=>(c - intOf i15).toNat)
    case atStart=>exact⟨0,rfl,Nat.zero_le _,HZ.out,Hb5.out⟩
    case round=>
     obtain⟨d,rfl,hd,HQ⟩:=hrel
     obtain⟨wU,hwU⟩: ∃wU,wU=wr:=⟨_,rfl⟩
     subst hwU
     have hq5:k<q.l.length:=(List.getElem?_eq_some_iff.1 HS.out).1
     have hsk:(q.l.set k (sj s j false d))[k]? =some (sj s j false d):=List.getElem?_set_self hq5
     have hR:=HQ.out.1.mor.se k _ hsk
     have c13:wU.cell? ⟨qb,2+k*15+13,none⟩=some (.slice (some ⟨g,0,none⟩) c (A k).pc):=by
      have:=hR.c 13 _ rfl
      rw[←Hg.out,Hn9.out]
      rwa [show(sj s j false d).ps.length=s.ps.length from psj_len _ _ _ _] at this
     rcases Nat.lt_or_ge d c with hdc|hdc
     ·obtain⟨pd,hpd⟩: ∃pd,s.ps[d]? =some pd:=⟨_,List.getElem?_eq_getElem (by have:=Hn9.out;omega)⟩
      have qwi:=within_any wU qb (2+k*15) _ (A k) hR d j (by show d<(psj _ _ _ _).length;rw[psj_len];have:=Hn9.out;omega)
      rw[show within ((sj s j false d).ps.map ptOf) j (sj s j false d).ps.length d=within (s.ps.map ptOf) j s.ps.length d from psj_within _ _ _ _ _] at qwi
      have hpj:=sj_at s j false d hpd
      have hpsz:=psj_succ s.ps j false d hpd
      have HST:Hid (within (s.ps.map ptOf) j s.ps.length d=true→ ∀W,Tch (fun _=>False) wU W→ ∃p9,p9=pd∧g≠N∧g≠qb∧W.frozen? ⟨g,d*4+2,none⟩=false∧W.cell? ⟨g,d*4+2,none⟩=some (.bool pd.live)∧LW w0 (W.setCell ⟨g,d*4+2,none⟩ (.bool false)) qb hb mb nq (m.endp t.x j 1) L { q with l:=q.l.set k (sj s j false (d+1)) } A F'):=fun hw W tt=>by
       have hL:=HQ.out.1.no tt
       obtain⟨e1,e2,e3,e4,e5⟩:=hL.partAt hsk hpj Hg.out
       have e6:=hL.setPr hsk (p':= { pd with live:=false }) hpj 2 (.bool false) (by decide) rfl rfl rfl Hg.out
       refine⟨pd,rfl,fun e=>?_,e2,e3 _,e4,?_⟩
       ·have:=(HL0.out.se k s HS.out).psf g (by rw[Hg.out];rfl)
        have:=HL0.out.lt g this
        have:=HN.out
        omega
       ·rw[show sj s j false (d+1)= { sj s j false d with ps:=(sj s j false d).ps.set d { pd with live:=false } } by
         unfold sj;rw[hpsz,if_pos hw]
         show({ s with ps:=(psj s.ps j false d).set d (endP false pd) } :Se)=_
         unfold endP;rw[Bool.or_false]]
        rw[show({ q with l:=q.l.set k { sj s j false d with ps:=(sj s j false d).ps.set d { pd with live:=false } } } :Mo)= { ({ q with l:=q.l.set k (sj s j false d) } :Mo) with l:=(q.l.set k (sj s j false d)).set k { sj s j false d with ps:=(sj s j false d).ps.set d { pd with live:=false } } } by rw[List.set_set]]
        exact e6
      have HNO:Hid (within (s.ps.map ptOf) j s.ps.length d=false→sj s j false (d+1)=sj s j false d):=fun hw=>by
       show _=_
       unfold sj
       rw[hpsz,if_neg (by rw[hw];decide)]
      clear hpsz hpj hR hsk
      obtain⟨bw,hbw⟩: ∃bw,bw=within (s.ps.map ptOf) j s.ps.length d:=⟨_,rfl⟩
      rw[←hbw] at qwi HST HNO
      have HD:Hid (s.ps[d]? =some pd):=hpd
      clear hbw hpd
      go_wp2_with fail
      refine qwi.mono ?_
      clear qwi c13
      rintro x w6 ⟨rfl,t6⟩
      have H6:Hid (LW w0 w6 qb hb mb nq (m.endp t.x j 1) L { q with l:=q.l.set k (sj s j false d) } A F'):=HQ.out.1.no t6
      have Hb6:Hid (w6.heap[N]? =some (.cells #[.int .i64 4,.int .i64 who,.int .i64 key,.int .i64 n] 29 (0,0))):=(t6.block N (blk_lt HQ.out.2) (fun e=>e)).trans HQ.out.2
      have d13:w6.cell? ⟨qb,2+k*15+13,none⟩=some (.slice (some ⟨g,0,none⟩) c (A k).pc):=by
       have:=(H6.out.mor.se k (sj s j false d) (List.getElem?_set_self hq5)).c 13 _ rfl
       rw[←Hg.out,Hn9.out]
       rwa [show(sj s j false d).ps.length=s.ps.length from psj_len _ _ _ _] at this
      cases bw with
      |true=>
       have hst:=HST.out rfl w6 t6
       clear HST HNO
       obtain⟨p9,_,f1,f2,f3,f4,f5⟩:=hst
       have HE:Hid (LW w0 (w6.setCell ⟨g,d*4+2,none⟩ (.bool false)) qb hb mb nq (m.endp t.x j 1) L { q with l:=q.l.set k (sj s j false (d+1)) } A F'∧(w6.setCell ⟨g,d*4+2,none⟩ (.bool false)).heap[N]? =some (.cells #[.int .i64 4,.int .i64 who,.int .i64 key,.int .i64 n] 29 (0,0))):=⟨f5,(Below.heap_setCell _ _ _ _ (by show N≠g;exact fun e=>f1 e.symm)).trans Hb6.out⟩
       have y0:(w6.setCell ⟨g,d*4+2,none⟩ (.bool false)).cell? ⟨N,0,none⟩=some (.int .i64 4):=by rw[blk_cell HE.out.2];rfl
       clear f5 f1 f2
       go_wp2_with fail
       go_roundw
       case rel=>exact⟨d+1,rfl,hdc,HE⟩
       case measure=>(simp[intOf]<;>omega)
      |false=>
       have hno:=HNO.out rfl
       clear HST HNO
       go_wp2_with fail
       go_roundw
       case rel=>exact⟨d+1,rfl,hdc,by rw[hno];exact H6.out,Hb6.out⟩
       case measure=>(simp[intOf]<;>omega)
     ·have hdd:d=c:=by omega
      subst hdd
      have HE:Hid (LW w0 wU qb hb mb nq (m.endp t.x j 1) L { q with l:=q.l.set k (endS s j false) } A F'):=by
       have:=HQ.out.1
       rwa [Hn9.out,sj_all] at this
      clear hR
      go_wp2_with fail
      go_ret
      exact⟨_,rfl,rfl,.inr ⟨j,F',HE.out⟩⟩
end Go.Proofs.YtppokgdofgigfaaGreat.F
