import Derived.Test.YtppokgdofgigfaaGreatFM4
import Derived.Test.YtppokgdofgigfaaGreatXRel
import Derived.RangeFuncNested
import Derived.RangeFuncBound
import Derived.RangeFuncCalls
import Derived.RangeFuncLeaves
import Derived.Shelf.Abstract
import Derived.Shelf.RegionOpen
import Derived.WalkKit
import Derived.OwnWalkIn
import Derived.TacticsInMore
import Derived.LoopNIn
import Derived.LoopIn
set_option maxHeartbeats 4000000
set_option maxRecDepth 100000
namespace Go.Proofs.YtppokgdofgigfaaGreat.F
section
variable {m m':Mg} {q:Mo} {K:Nat→List Vn} {σ:Nat→Nat} {k:Nat} {s s':Se} {t t':Tx}
theorem Inv.ends (hI:Inv m q K σ) (hs:q.l[k]? =some s) (ho:s.op=true) (ht:SesTx m s t) {f:Nat} (hf:f=3∨f=4) (now wn:List Nat) (nn:Nat)
  (hn:nn=if f=3 then q.n+1 else q.n) (hnow: ∀κ,κ<6→now.getD κ 0=if f=3∧wroteS s κ=true then seesS s κ else q.now.getD κ 0) (hwn: ∀κ,κ<6→wn.getD κ 0=if f=3∧wroteS s κ=true then nn else q.wn.getD κ 0):
  Inv (m.fin t.x f) ⟨q.l.set k se0,now,wn,nn⟩ K (fun x=>if x=t.x then nn else σ x):=by
 have hc:=ch_fin hI.wf ht.mem (f:=f) (by omega)
 have hl3:=ht.lt3
 have hnn:q.n≤nn:=by rw[hn];split<;>omega
 have key3: ∀(n:Int) (u:Tx) (i:Int),fnd m.tx n=some (u,i)→stE (some (u,i))=3→u.x≠t.x:=fun n u i hf h3 e=>by
  have:=hI.wf.uniq u (fnd_mem hf).1 t ht.mem e
  subst this
  rw[stE_eq] at h3
  split at h3<;>omega
 have hap: ∀(j:Nat) (u:Se),j≠k→q.l[j]? =some u→u.op=true→u.x≠s.x:=fun j u hj hu hou e=>hI.ap j k u s hu hs hou ho hj e
 have hset: ∀(j:Nat) (u:Se),(q.l.set k se0)[j]? =some u→u.op=true→j≠k∧q.l[j]? =some u:=fun j u hu hou=>by
  rcases set_get hs hu with⟨e1,e2⟩|h
  ·rw[e2] at hou;cases hou
  ·exact h
 refine⟨hc.wf,by rw[List.length_set];exact hI.ln,fun j u hu hou=>?_,fun j u hu hou=>?_,fun j j' u u' hu hu' hou hou' hne=>?_,fun u hu h3=>?_,fun j u hu hou v hv=>?_,fun κ hκ=>?_⟩
 ·obtain⟨hj,hu⟩:=hset j u hu hou
  exact hI.mx j u hu hou
 ·obtain⟨hj,hu⟩:=hset j u hu hou
  obtain⟨⟨tu,htu⟩,h1,h2⟩:=hI.ses j u hu hou
  have hne:tu.x≠t.x:=by rw[htu.x,ht.x];exact hap j u hj hu hou
  have h3:=hc.fn tu.x tu (-1) (hI.wf.fnd_tx htu.mem)
  rw[if_neg hne] at h3
  exact⟨⟨tu,(fnd_mem h3).1,htu.x,htu.st,htu.ps⟩,h1,Nat.le_trans h2 hnn⟩
 ·obtain⟨hj,hu⟩:=hset j u hu hou
  obtain⟨hj',hu'⟩:=hset j' u' hu' hou'
  exact hI.ap j j' u u' hu hu' hou hou' hne
 ·show 1≤(if u.x=t.x then nn else σ u.x)∧(if u.x=t.x then nn else σ u.x)≤nn
  rcases hc.inn u hu with rfl|⟨hu,hne⟩
  ·have hf3:f=3:=h3
   have:(setS f t).x=t.x:=rfl
   rw[this,if_pos rfl,hn,if_pos hf3];omega
  ·rw[if_neg hne]
   have:=hI.com u hu h3
   omega
 ·obtain⟨hj,hu⟩:=hset j u hu hou
  have hwh:=(hI.ses j u hu hou).wh
  show(v.st=3→(visT u v ↔ (if v.x=t.x then nn else σ v.x)≤u.wh))∧_
  rcases hc.inn v hv with rfl|⟨hv,hne⟩
  ·have hno:=(hI.vis j u hu hou t ht.mem).2 hl3.2
   refine⟨fun h3=>?_,fun h3=>?_⟩
   ·have hf3:f=3:=h3
    have e1:(setS f t).x=t.x:=rfl
    rw[e1,if_pos rfl,hn,if_pos hf3]
    exact⟨fun h=>absurd h hno,fun h=>by omega⟩
   ·have:f<3:=h3
    omega
  ·rw[if_neg hne]
   exact hI.vis j u hu hou v hv
 ·obtain⟨cm,o,hk⟩:=hI.key κ hκ
  have hhas: ∀v∈K κ, ∃u j,fnd (m.fin t.x f).tx v.wr=some (u,j):=fun v hv=>by
   obtain⟨u,j,hf⟩:=hk.has v hv
   exact⟨_,_,hc.fn _ _ _ hf⟩
  have hstt: ∀(v:Vn) (j:Int),fnd m.tx v.wr=some (t,j)→(m.fin t.x f).state v.wr=if fate t j=2 then 4 else f:=fun v j hfv=>by
   unfold Mg.state
   rw[hc.fn _ _ _ hfv,if_pos rfl,stE_eq];rfl
  have hst: ∀v∈K κ,((m.fin t.x f).state v.wr !=4)=true→(m.state v.wr !=4)=true:=fun v hv e=>by
   obtain⟨u,j,hfv⟩:=hk.has v hv
   by_cases hxx:u.x=t.x
   ·have:=hI.wf.uniq u (fnd_mem hfv).1 t ht.mem hxx
    subst this
    rw[hstt v j hfv] at e
    unfold Mg.state
    rw[hfv,stE_eq]
    by_cases hfa:fate u j=2
    ·rw[if_pos hfa] at e;cases e
    ·rw[if_neg hfa];simp;omega
   ·rw[hc.state_other hfv hxx] at e;exact e
  have h1:(K κ).filter (fun v=>(m.fin t.x f).state v.wr !=4)=((K κ).filter (fun v=>m.state v.wr !=4)).filter (fun v=>(m.fin t.x f).state v.wr !=4):=by
   rw[List.filter_filter]
   refine List.filter_congr (fun v hv=>?_)
   cases e:((m.fin t.x f).state v.wr !=4) with
   |false=>rfl
   |true=>rw[hst v hv e];rfl
  have hcm:(cm.map (·.1)).filter (fun v=>(m.fin t.x f).state v.wr !=4)=cm.map (·.1):=by
   refine List.filter_eq_self.2 (fun v hv=>?_)
   obtain⟨p,hp,rfl⟩:=List.mem_map.1 hv
   obtain⟨u,j,hf,h3,_⟩:=hk.com p hp
   rw[hc.state_other hf (key3 _ _ _ hf h3)]
   unfold Mg.state
   rw[hf,h3];rfl
  have hcom: ∀p∈cm, ∃u j,fnd (m.fin t.x f).tx p.1.wr=some (u,j)∧stE (some (u,j))=3∧(if u.x=t.x then nn else σ u.x)=p.2:=fun p hp=>by
   obtain⟨u,j,hf,h3,hσ⟩:=hk.com p hp
   have h4:=hc.fn _ _ _ hf
   have hne:=key3 _ _ _ hf h3
   rw[if_neg hne] at h4
   exact⟨u,j,h4,h3,by rw[if_neg hne];exact hσ⟩
  have hstamp: ∀p∈cm,p.2≤q.n:=fun p hp=>by
   obtain⟨u,j,hf,h3,hσ⟩:=hk.com p hp
   have hu3:u.st=3:=by
    rw[stE_eq] at h3
    split at h3
    ·cases h3
    ·exact h3
   have:=(hI.com u (fnd_mem hf).1 hu3).2
   omega
  have hlt: ∀(j:Nat) (u:Se),(q.l.set k se0)[j]? =some u→u.op=true→u.wh≤q.n:=fun j u hu hou=>(hI.ses j u (hset j u hu hou).2 hou).wh
  by_cases hok:o=some k
  ·obtain⟨s2,hs2,_,hwr,_⟩:=hk.ow k hok
   rw[hs] at hs2;injection hs2 with hs2;subst hs2
   have e1:ownO q o κ=ownV s κ:=by rw[hok];simp only[ownO,hs]
   have hone: ∀(j:Nat) (u:Se),(q.l.set k se0)[j]? =some u→u.op=true→wroteS u κ=true→(none:Option Nat)=some j:=fun j u hu hou hw=>by
    obtain⟨hj,hu⟩:=hset j u hu hou
    have:=hk.one j u hu hou hw
    rw[hok] at this;injection this with this;exact absurd this.symm hj
   have hov: ∀v∈ownV s κ,(m.fin t.x f).state v.wr=f∧ ∃j,fnd (m.fin t.x f).tx v.wr=some (setS f t,j)∧stE (some (setS f t,j))=f:=fun v hv=>by
    obtain⟨j,_,_,_,hsj,hfv,h3⟩:=hI.tops hs ho ht hv
    have hfa: ¬fate t j=2:=fun e=>by rw[(ses_fate ht j).1 e] at hsj;cases hsj
    have h4:=hc.fn _ _ _ hfv
    rw[if_pos rfl] at h4
    refine⟨by rw[hstt v j hfv,if_neg hfa],j,h4,?_⟩
    rw[stE_eq]
    have:fate (setS f t) j=fate t j:=rfl
    rw[this,if_neg hfa];rfl
   rcases hf with rfl|rfl
   ·have hnn3:nn=q.n+1:=hn
    have hself:(ownV s κ).filter (fun v=>(m.fin t.x 3).state v.wr !=4)=ownV s κ:=List.filter_eq_self.2 (fun v hv=>by rw[(hov v hv).1];rfl)
    have hmap:((ownV s κ).map (fun v=>(v,nn))).map (·.1)=ownV s κ:=by rw[List.map_map];exact List.map_id _
    have hne:=ownV_ne hwr
    refine⟨cm++(ownV s κ).map (fun v=>(v,nn)),none,hhas,?_,fun p hp=>?_,(fun j e=>by cases e),hone,?_,?_,?_,fun j u hu hou=>?_⟩
    ·rw[h1,hk.eq,e1,List.filter_append,hcm,hself,List.map_append,hmap]
     exact(List.append_nil _).symm
    ·rcases List.mem_append.1 hp with hp|hp
     ·exact hcom p hp
     ·obtain⟨v,hv,rfl⟩:=List.mem_map.1 hp
      obtain⟨_,j,h4,h5⟩:=hov v hv
      refine⟨_,j,h4,h5,?_⟩
      have:(setS 3 t).x=t.x:=rfl
      rw[this,if_pos rfl]
    ·show now.getD κ 0=_
     rw[hnow κ hκ,if_pos ⟨rfl,hwr⟩,List.map_append,hmap]
     unfold seesS lastV
     rw[List.getLast?_append]
     cases h:(ownV s κ).getLast? with
     |none=>exact absurd (List.getLast?_eq_none_iff.1 h) hne
     |some v=>rfl
    ·show wn.getD κ 0=_
     rw[hwn κ hκ,if_pos ⟨rfl,hwr⟩,List.getLast?_append,List.getLast?_map]
     cases h:(ownV s κ).getLast? with
     |none=>exact absurd (List.getLast?_eq_none_iff.1 h) hne
     |some v=>rfl
    ·rw[List.pairwise_append]
     refine⟨hk.up,?_,fun a ha b hb=>?_⟩
     ·rw[List.pairwise_map]
      exact List.Pairwise.imp (fun _=>Nat.le_refl _) (List.pairwise_of_forall (fun _ _=>trivial):(ownV s κ).Pairwise (fun _ _=>True))
     ·obtain⟨v,hv,rfl⟩:=List.mem_map.1 hb
      have:=hstamp a ha
      show a.2≤nn;omega
    ·have hu2:=hset j u hu hou
     have hw:=hlt j u hu hou
     rw[hk.base j u hu2.2 hou,List.filter_append]
     have:((ownV s κ).map (fun v=>(v,nn))).filter (fun p=>decide (p.2≤u.wh))=[]:=List.filter_eq_nil_iff.2 (fun p hp=>by
      obtain⟨v,_,rfl⟩:=List.mem_map.1 hp
      simp;omega)
     rw[this,List.append_nil]
   ·have hself:(ownV s κ).filter (fun v=>(m.fin t.x 4).state v.wr !=4)=[]:=List.filter_eq_nil_iff.2 (fun v hv=>by rw[(hov v hv).1];simp)
    refine⟨cm,none,hhas,?_,hcom,(fun j e=>by cases e),hone,?_,?_,hk.up,fun j u hu hou=>hk.base j u (hset j u hu hou).2 hou⟩
    ·rw[h1,hk.eq,e1,List.filter_append,hcm,hself];rfl
    ·show now.getD κ 0=_
     rw[hnow κ hκ,if_neg (by simp)];exact hk.now
    ·show wn.getD κ 0=_
     rw[hwn κ hκ,if_neg (by simp)];exact hk.wn
  ·have hnw: ¬wroteS s κ=true:=fun e=>hok (hk.one k s hs ho e)
   have e1:ownO ⟨q.l.set k se0,now,wn,nn⟩ o κ=ownO q o κ:=by
    cases o with
    |none=>rfl
    |some j=>simp only[ownO,set_other (show j≠k from fun e=>hok (by rw[e]))]
   have hov:(ownO q o κ).filter (fun v=>(m.fin t.x f).state v.wr !=4)=ownO q o κ:=by
    cases ho2:o with
    |none=>rfl
    |some j=>
     have hj:j≠k:=fun e=>hok (by rw[ho2,e])
     obtain⟨u,hu,hou,_,_⟩:=hk.ow j ho2
     obtain⟨tu,htu⟩:=(hI.ses j u hu hou).tx
     simp only[ownO,hu]
     refine List.filter_eq_self.2 (fun v hv=>?_)
     obtain⟨jj,_,_,_,_,hfv,h3⟩:=hI.tops hu hou htu hv
     have hne:tu.x≠t.x:=by rw[htu.x,ht.x];exact hap j u hj hu hou
     rw[hc.state_other hfv hne]
     unfold Mg.state
     rw[hfv,h3]
     have:=htu.lt3
     simp;omega
   refine⟨cm,o,hhas,?_,hcom,fun j e=>?_,fun j u hu hou hw=>hk.one j u (hset j u hu hou).2 hou hw,?_,?_,hk.up,fun j u hu hou=>hk.base j u (hset j u hu hou).2 hou⟩
   ·rw[h1,hk.eq,List.filter_append,hcm,hov,e1]
   ·have hj:j≠k:=fun e2=>hok (by rw[e,e2])
    obtain⟨u,hu,hou,hwu,hle⟩:=hk.ow j e
    refine⟨u,by rw[set_other hj];exact hu,hou,hwu,?_⟩
    show wn.getD κ 0≤u.wh
    rw[hwn κ hκ,if_neg (fun e=>hnw e.2)];exact hle
   ·show now.getD κ 0=_
    rw[hnow κ hκ,if_neg (fun e=>hnw e.2)];exact hk.now
   ·show wn.getD κ 0=_
    rw[hwn κ hκ,if_neg (fun e=>hnw e.2)];exact hk.wn
end
end Go.Proofs.YtppokgdofgigfaaGreat.F
namespace Go.Proofs.YtppokgdofgigfaaGreat
open Go.RowKit Go Go.Shelf
attribute [local go_sem] Oper.semAt_some
structure Ver where
 wr:Int
 th:Bool
 n:Nat
 cs:List Value
abbrev VV:=Ver×(Option Addr×Nat)
def VRd (n₀:Nat) (w:World) (ao:Option Addr) (zs:List VV):Prop:=
 (zs=[]∧ao=none)∨ ∃g,ao=some ⟨g,0,none⟩∧g<n₀∧ ∀(k:Nat) z,zs[k]? =some z→w.cell? ⟨g,k*3,none⟩=some (.int .i64 z.1.wr)∧w.cell? ⟨g,k*3+1,none⟩=some (.bool z.1.th)∧w.cell? ⟨g,k*3+2,none⟩=some (.slice z.2.1 z.1.n z.2.2)
theorem VRd.below {n₀:Nat} {A B:World} (h:Below n₀ A B) {ao:Option Addr} {zs:List VV} :VRd n₀ A ao zs→VRd n₀ B ao zs
 | .inl e=>.inl e
 | .inr ⟨g,e,hg,hc⟩=>.inr ⟨g,e,hg,fun k z hz=>by
   obtain⟨c0,c1,c2⟩:=hc k z hz
   exact⟨(h.cell (p:=⟨g,k*3,none⟩) hg).trans c0,(h.cell (p:=⟨g,k*3+1,none⟩) hg).trans c1,(h.cell (p:=⟨g,k*3+2,none⟩) hg).trans c2⟩⟩
def dn (zs:List VV) (r:Nat):List (Nat×VV):=((zs.mapIdx (fun i z=>(i,z))).drop r).reverse
theorem dn_all (zs:List VV):dn zs zs.length=[]:=by simp[dn]
theorem dn_step (zs:List VV) (r:Nat) (z:VV) (h:zs[r]? =some z):dn zs r=dn zs (r+1)++[(r,z)]:=by
 have hr:r<zs.length:=(List.getElem?_eq_some_iff.1 h).1
 have hz:zs[r]=z:=(List.getElem?_eq_some_iff.1 h).2
 unfold dn
 rw[List.drop_eq_getElem_cons (i:=r) (by simp;exact hr),List.reverse_cons]
 simp[hz]
theorem dn_mem {zs:List VV} {r:Nat} {x:Nat×VV} :x∈dn zs r ↔ r≤x.1∧zs[x.1]? =some x.2:=by
 obtain⟨i,z⟩:=x
 unfold dn
 rw[List.mem_reverse]
 constructor
 ·intro h
  obtain⟨j,hj,e⟩:=List.mem_iff_getElem.1 h
  simp only[List.getElem_drop,List.getElem_mapIdx,Prod.mk.injEq] at e
  obtain⟨rfl,rfl⟩:=e
  simp only[List.length_drop,List.length_mapIdx] at hj
  exact⟨by simp,List.getElem?_eq_getElem (by omega)⟩
 ·rintro⟨h1,h2⟩
  simp only at h1 h2
  have hi:i<zs.length:=(List.getElem?_eq_some_iff.1 h2).1
  refine List.mem_iff_getElem.2 ⟨i - r,by simp;omega,?_⟩
  simp only[List.getElem_drop,List.getElem_mapIdx,Prod.mk.injEq]
  have e:r+(i - r)=i:=by omega
  refine⟨e,?_⟩
  have:=(List.getElem?_eq_some_iff.1 h2).2
  simp only[e]
  exact this
theorem dn_len (zs:List VV) (r:Nat):(dn zs r).length=zs.length - r:=by simp[dn]
theorem back1_in (F:Fence) (n:Nat) (h66:F.fn 99) (hro:F.round=none) (hn:1≤n) (l Bs n₀ cap:Nat) (ao:Option Addr) (zs:List VV) (hreach:zs.length≤1000000) (J Jx:List (Nat×VV)→World→Prop)
  (hY: ∀pre x W,J pre W→pre.length<zs.length→zs[x.1]? =some x.2→YieldAt F (n - 1) Tryz.prog l #[.int .i64 (x.1:Int),.agg #[.int .i64 x.2.1.wr,.bool x.2.1.th,.slice x.2.2.1 x.2.1.n x.2.2.2]] W fun e W'=>
   (e= .returned (.bool true)∧J (pre++[x]) W'∧Below n₀ W W')∨(e= .returned (.bool false)∧Jx (pre++[x]) W'))
  (W:World) (hBs:W.cell? ⟨Bs,0,none⟩=some (.slice ao zs.length cap)) (hB:Bs<n₀) (hc:VRd n₀ W ao zs) (h0:J [] W):
  CallsIn F n Tryz.prog 99 #[.func (.yield l) #[] #[],.pointer (some ⟨Bs,0,none⟩)] W fun e W'=>(∃v,e= .returned v)∧
   ((∃ys,ys=dn zs 0∧J ys W')∨(∃pre,(∃k,k≤zs.length∧pre=dn zs k)∧Jx pre W')):=by
 obtain⟨N,hN⟩: ∃N,N=zs.length:=⟨_,rfl⟩
 have h0':J (dn zs N) W:=by rw[hN,dn_all];exact h0
 have hN1:wrap64 ((N:Int) - 1)=(N:Int) - 1:=by unfold wrap64;omega
 rw[←hN] at hBs hreach hY ⊢
 have HN:Hid (N=zs.length):=hN
 clear hN h0
 refine callsIn_of_wp Tryz.func99 rfl h66 ?_ hro
 simp only[Tryz.ntmps99,List.size_toArray,List.length_cons,List.length_nil,Nat.reduceAdd,Nat.reduceSub,Array.replicate_succ,Array.replicate_zero,List.push_toArray,List.append_toArray,List.nil_append,List.cons_append]
 gi_wp2
 gi_loopw [3] (fun i wr=> ∃r:Nat,r≤N∧i= .int .i64 ((r:Int) - 1)∧J (dn zs r) wr∧Below n₀ W wr)
  (fun i _=>(intOf i+1).toNat)
 case atStart=>exact⟨N,Nat.le_refl _,rfl,h0',Below.refl _ _⟩
 case round=>
  obtain⟨r,hr,rfl,hJs,hnx⟩:=hrel
  have hbx:wr.cell? ⟨Bs,0,none⟩=some (.slice ao N cap):=(hnx.cell (p:=⟨Bs,0,none⟩) hB).trans hBs
  cases r with
  |zero=>
   gi_wp2
   go_end0
   exact⟨⟨_,rfl⟩,.inl ⟨_,rfl,hJs⟩⟩
  |succ k=>
   obtain⟨z,hz⟩: ∃z,zs[k]? =some z:=⟨_,List.getElem?_eq_getElem (by have:=HN.out;omega)⟩
   rcases hc.below hnx with⟨e,_⟩|⟨g,rfl,hg,hcs⟩
   ·rw[e] at hz;cases hz
   obtain⟨c0,c1,c2⟩:=hcs k z hz
   have HJ:=dn_step zs k z hz
   obtain⟨fn,tmps,assign,body,hy,hR⟩:=hY _ (k,z) wr hJs (by have:=HN.out;rw[dn_len];omega) hz
   dsimp only at hy
   rw[show(((k+1:Nat):Int) - 1)=(k:Int) by omega]
   have hw1:wrap64 ((k:Int) - 1)=(k:Int) - 1:=by unfold wrap64;omega
   have hk0:(0:Int)≤(k:Int):=by omega
   have hkN:(k:Int)<(N:Int):=by omega
   clear hcs hz
   gi_wp2
   refine hR.mono ?_
   rintro e W3 (⟨rfl,hJ3,hk3⟩|⟨rfl,hJx3⟩)
   ·gi_wp2
    go_roundw
    case rel=>exact⟨k,by omega,rfl,by rw[HJ];exact hJ3,hnx.trans hk3⟩
    case measure=>simp[intOf]
   ·gi_wp2
    refine bodyPost_ret (results_none rfl _ _ _) rfl ?_
    exact⟨⟨_,rfl⟩,.inr ⟨_,⟨k,by omega,HJ.symm⟩,hJx3⟩⟩
theorem back_in (F:Fence) (n:Nat) (h60:F.fn 86) (hro:F.round=none) (a:Option Addr) (len cap:Nat) (w:World):
  CallsIn F n Tryz.prog 86 #[.slice a len cap] w fun e w'=>e= .returned (.func (.func 99) #[] #[.pointer (some ⟨w.heap.size,0,none⟩)])∧w'=w.alloc (.cells #[.slice a len cap] 72):=by
 refine callsIn_of_wp Tryz.func86 rfl h60 ?_ hro
 simp only[Tryz.ntmps86,List.size_toArray,List.length_cons,List.length_nil,Nat.reduceAdd,Nat.reduceSub,Array.replicate_succ,Array.replicate_zero,List.push_toArray,List.append_toArray,List.nil_append,List.cons_append]
 gi_wp2
 go_ret
 exact⟨rfl,rfl⟩
abbrev At (zs:List VV):= { x:Nat×VV // zs[x.1]? =some x.2 }
theorem back_stops (F:Fence) (n:Nat) (h66:F.fn 99) (hro:F.round=none) (hn:1≤n) (Bs n₀ cap:Nat) (ao:Option Addr) (zs:List VV) (hreach:zs.length≤1000000) (w:World) (hB:Bs<n₀) (hn₀:n₀≤w.heap.size)
  (hBs:w.cell? ⟨Bs,0,none⟩=some (.slice ao zs.length cap)) (hc:VRd n₀ w ao zs):
  SeqStopsK F n Tryz.prog 99 #[.pointer (some ⟨Bs,0,none⟩)] (fun x:At zs=>#[Value.int .i64 (x.1.1:Int),.agg #[.int .i64 x.1.2.1.wr,.bool x.1.2.1.th,.slice x.1.2.2.1 x.1.2.1.n x.1.2.2.2]]) (Below n₀)
   (fun ys=>ys.map (·.1)=dn zs 0) (fun pre=> ∃k,k≤zs.length∧pre.map (·.1)=dn zs k) zs.length w:=fun l J Jx W hW _ _ hY h0=>by
 refine(back1_in F n h66 hro hn l Bs n₀ cap ao zs hreach (fun p W=> ∃q:List (At zs),q.map (·.1)=p∧J q W) (fun p W=> ∃q:List (At zs),q.map (·.1)=p∧Jx q W) ?_ W ((hW.cell (p:=⟨Bs,0,none⟩) (by show Bs<_;omega)).trans hBs) hB (hc.below (hW.mono hn₀)) ⟨[],rfl,h0⟩).mono ?_
 ·rintro pre x W1 ⟨q,rfl,hJ⟩ hlen hx
  obtain⟨fn,tmps,assign,body,hy,hR⟩:=hY q ⟨x,hx⟩ W1 hJ (by simpa using hlen)
  refine⟨fn,tmps,assign,body,hy,hR.mono ?_⟩
  rintro e W' (⟨rfl,h1,h2⟩|⟨rfl,h1⟩)
  ·exact .inl ⟨rfl,⟨_,by simp,h1⟩,h2⟩
  ·exact .inr ⟨rfl,⟨_,by simp,h1⟩⟩
 ·rintro e W' ⟨he,⟨ys,rfl,q,hq,hj⟩|⟨pre,⟨k,hk,rfl⟩,q,hq,hj⟩⟩
  ·exact⟨he,.inl ⟨q,hq,hj⟩⟩
  ·exact⟨he,.inr ⟨q,⟨k,hk,hq⟩,hj⟩⟩
attribute [local go_sem] Oper.semAt_some
def PlOut (p:VV→Bool) (zs:List VV) (r:Int):Prop:=
 (r= -1∧ ∀z∈zs,p z=false)∨ ∃(k:Nat) (z:VV),r=k∧zs[k]? =some z∧p z=true∧ ∀(j:Nat) (u:VV),k<j→zs[j]? =some u→p u=false
theorem keeps_tch {B:Nat} {W W':World} (h:Tch (fun _=>False) W W'):KeepsFrom B W W':=⟨h.size,fun k _ _ hk _=>(h.block k (blk_lt hk) (fun h=>h)).trans hk⟩
theorem below_tch {n₀:Nat} {W W':World} (h:Tch (fun _=>False) W W') (hn:n₀≤W.heap.size):Below n₀ W W':=h.below hn (fun _ _ h=>h)
structure Holds (w:World) (zs:List VV) (p:VV→Bool) (fn:Nat) (first caps:Array Value):Prop where
 enters: ∀args w,(callFunc fn args).run Tryz.prog w= .ok (.enter fn args) w
 calls: ∀(z:VV) (W:World),z∈zs→Tch (fun _=>False) w W→Calls Tryz.prog fn (first++#[.agg #[.int .i64 z.1.wr,.bool z.1.th,.slice z.2.1 z.1.n z.2.2]]++caps) W fun e W'=>e= .returned (.bool (p z))∧Tch (fun _=>False) W W'
theorem place_in (n:Nat) (hn:5≤n) (ao:Option Addr) (cap:Nat) (zs:List VV) (hreach:zs.length≤1000000) (w:World) (hc:VRd w.heap.size w ao zs) (p:VV→Bool) (fn:Nat) (first caps:Array Value) (hH:Holds w zs p fn first caps):
  CallsIn Fence.wide n Tryz.prog 56 #[.slice ao zs.length cap,.func (.func fn) first caps] w fun e W'=>(∃r,e= .returned (.int .i64 r)∧PlOut p zs r)∧Tch (fun _=>False) w W':=by
 have h1:1≤n:=by omega
 refine callsIn_of_wp_marks Tryz.func56 rfl trivial ?_ rfl
 simp only[Tryz.ntmps56,List.size_toArray,List.length_cons,List.length_nil,Nat.reduceAdd,Nat.reduceSub,Array.replicate_succ,Array.replicate_zero,List.push_toArray,List.append_toArray,List.nil_append,List.cons_append]
 gi_wp2_with (refine⟨trivial,?_⟩;gi_at_call 86;refine(back_in Fence.wide (n - 1) trivial rfl _ _ _ _).mono ?_;rintro e w' ⟨rfl,rfl⟩)
 have bH:=((Boxed.new w 75 (.func (.func fn) first caps)).alloc (.cells #[.int .i64 0] 3)).alloc (.cells #[.slice ao zs.length cap] 72)
 have bR:=(Boxed.new (w.alloc (.cells #[.func (.func fn) first caps] 75)) 3 (.int .i64 0)).alloc (.cells #[.slice ao zs.length cap] 72)
 have bS:=Boxed.new ((w.alloc (.cells #[.func (.func fn) first caps] 75)).alloc (.cells #[.int .i64 0] 3)) 72 (.slice ao zs.length cap)
 have t0:Tch (fun _=>False) w (((w.alloc (.cells #[.func (.func fn) first caps] 75)).alloc (.cells #[.int .i64 0] 3)).alloc (.cells #[.slice ao zs.length cap] 72)):=((Tch.alloc _ _ _).allocR _).allocR _
 simp only[World.size_alloc] at bR bS
 have hsz:(((w.alloc (.cells #[.func (.func fn) first caps] 75)).alloc (.cells #[.int .i64 0] 3)).alloc (.cells #[.slice ao zs.length cap] 72)).heap.size=w.heap.size+3:=by simp
 obtain⟨W0,hW0⟩: ∃W0,((w.alloc (.cells #[.func (.func fn) first caps] 75)).alloc (.cells #[.int .i64 0] 3)).alloc (.cells #[.slice ao zs.length cap] 72)=W0:=⟨_,rfl⟩
 rw[hW0] at bH bR bS t0 hsz ⊢
 clear hW0
 obtain⟨B,hB⟩: ∃B,B=w.heap.size:=⟨_,rfl⟩
 rw[←hB] at bH bR bS hsz hc ⊢
 have HB:Hid (B=w.heap.size):=hB
 have t0b:Below B w W0:=t0.below (by omega) (fun _ _ h=>h)
 have hc0:VRd (B+3) W0 ao zs:=by
  rcases hc.below t0b with e|⟨g,e,hg,h⟩
  ·exact .inl e
  ·exact .inr ⟨g,e,by omega,h⟩
 clear hB hc
 refine wpIn_rangeFunc_ownH rfl h1 (gf:=99) (lb:=#[.pointer (some ⟨B+1+1,0,none⟩)]) rfl trivial (enters_of Tryz.func99 (by kernel_rfl) rfl)
  (back_stops Fence.wide (n - 1) trivial rfl (by omega) (B+1+1) (B+3) cap ao zs hreach W0 (by omega) (by omega) bS.cell hc0) belowK_t (belowK_b (by omega)) (Below.refl _ _) (fun _=>rfl)
  (fun pre W=>(∀x∈pre,p x.1.2=false)∧Below (B+3) W0 W)
  (fun c pre W=>(c= .ret∧ ∃ini last,pre=ini++[last]∧(∀x∈ini,p x.1.2=false)∧p last.1.2=true∧W.cell? ⟨B+1,0,none⟩=some (.int .i64 (last.1.1:Int)))∧Below B w W)
  (OwnFrom.and (ownFrom_pure _ _) (ownFrom_below (by omega) (by omega)))
  (fun c=>OwnFrom.and (Own.from (fun s A B row hs hg hr=>by obtain⟨hc,ini,last,e1,e2,e3,e4⟩:=hs;exact⟨hc,ini,last,e1,e2,e3,cell_kept e4 hg hr⟩) _) (ownFrom_below (by have:=HB.out;omega) (by omega)))
  ⟨(by simp),Below.refl _ _⟩
  (fun x a' W=> ∃Bx,B+3≤Bx∧W.heap[Bx]? =some (.cells #[.int .i64 x.1.2.1.wr,.bool x.1.2.1.th,.slice x.1.2.2.1 x.1.2.1.n x.1.2.2.2] 69 (0,0))∧a'= { tmps:=#[.slice ao zs.length cap,.func (.func fn) first caps,undef,.pointer (some ⟨B,0,none⟩),.pointer (some ⟨B+1,0,none⟩),.int .i64 (x.1.1:Int),.pointer (some ⟨Bx,0,none⟩),.slice ao zs.length cap,.func (.func 99) #[] #[.pointer (some ⟨B+1+1,0,none⟩)],.int .i64 (x.1.1:Int),.agg #[.int .i64 x.1.2.1.wr,.bool x.1.2.1.th,.slice x.1.2.2.1 x.1.2.1.n x.1.2.2.2],undef,undef,undef,undef],defers:=[] })
  (fun x a'=>?hAx) ?assign ?body ?done ?stop
 case hAx=>
  rintro⟨⟩ A C row ⟨Bx,h2,h3,h4⟩ hg hr
  refine⟨Bx,h2,?_,h4⟩
  rw[hg.block Bx (blk_lt h3) (fun e=>by obtain⟨_,o,ho,hoc⟩:=hr Bx e.symm;rw[h3] at ho;cases ho;cases hoc)];exact h3
 case assign=>
  rintro l pre x W K ⟨hi1,hi2⟩ hK
  have hS:B+3≤W.heap.size:=by have:=hi2.size;omega
  gi_wp2
  exact hK _ _ (keeps_tch (Tch.alloc _ _ _)) (below_tch (Tch.alloc _ _ _) hS) ⟨hi1,hi2.trans (below_tch (Tch.alloc _ _ _) hS)⟩ ⟨W.heap.size,hS,alloc_new _ _,rfl⟩
 case body=>
  rintro l pre x a' W hl ⟨r,hr⟩ ⟨hi1,hi2⟩ ⟨Bx,hBx,hb,rfl⟩ hlt
  have c0:W.cell? ⟨Bx,0,none⟩=some (.int .i64 x.1.2.1.wr):=by rw[blk_cell hb];rfl
  have c1:W.cell? ⟨Bx,1,none⟩=some (.bool x.1.2.1.th):=by rw[blk_cell hb];rfl
  have c2:W.cell? ⟨Bx,2,none⟩=some (.slice x.1.2.2.1 x.1.2.1.n x.1.2.2.2):=by rw[blk_cell hb];rfl
  have cH:W.cell? ⟨B,0,none⟩=some (.func (.func fn) first caps):=(hi2.cell (p:=⟨B,0,none⟩) (by show B<_;omega)).trans bH.cell
  have hd:1≤n - 1 - 1:=by omega
  have hen:=hH.enters
  have hS:B+3≤W.heap.size:=by have:=hi2.size;omega
  have tW:Tch (fun _=>False) w W:=Tch.of_below (t0b.trans (hi2.mono (by omega))) (by have:=HB.out;omega)
  have q:=hH.calls x.1.2 W (List.mem_of_getElem? x.2) tW
  have fR: ∀W',Below (B+3) W0 W'→W'.frozen? ⟨B+1,0,none⟩=false:=fun W' h=>(h.frozen (p:=⟨B+1,0,none⟩) (by show B+1<_;omega)).trans bR.frozen
  have cR: ∀W',Below (B+3) W0 W'→W'.cell? ⟨B+1,0,none⟩=some (.int .i64 0):=fun W' h=>(h.cell (p:=⟨B+1,0,none⟩) (by show B+1<_;omega)).trans bR.cell
  rw[Array.append_singleton] at q
  gi_wp2
  refine⟨trivial,?_⟩
  refine(CallsIn.inRound l (callsIn_wide.2 q)).mono ?_
  rintro e W1 ⟨rfl,t1⟩
  have hi3:=hi2.trans (below_tch t1 hS)
  have fR1:=fR W1 hi3
  have cR1:=cR W1 hi3
  clear fR cR q
  cases hp:p x.1.2
  ·gi_wp2
   exact⟨keeps_tch t1,below_tch t1 hS,⟨fun y hy=>(List.mem_append.1 hy).elim (hi1 y) (fun e=>by simp at e;subst e;exact hp),hi3⟩⟩
  ·gi_wp2
   exact⟨(keeps_tch t1).trans ((KeepsOthers.setCell _ _ _).from _),⟨rfl,pre,x,rfl,hi1,hp,World.cell?_setCell_same' _ _ _ (by rw[cR1];rfl)⟩,(t0b.trans (hi3.mono (by omega))).setCell (p:=⟨B+1,0,none⟩) (by show B≤B+1;omega) _⟩
 case done=>
  rintro D ys W hD hS ⟨hi1,hi2⟩ hK
  have cR:W.cell? ⟨B+1,0,none⟩=some (.int .i64 0):=(hi2.cell (p:=⟨B+1,0,none⟩) (by show B+1<_;omega)).trans bR.cell
  have fR:W.frozen? ⟨B+1,0,none⟩=false:=(hi2.frozen (p:=⟨B+1,0,none⟩) (by show B+1<_;omega)).trans bR.frozen
  gi_wp2
  have hK':=(KeepsOthers.setCell W ⟨B+1,0,none⟩ (.int .i64 (-1))).same D _ hK rfl
  refine⟨by simp,.inl ⟨_,_,rfl,run_takeDeferred hK',?_⟩⟩
  have hc5:=cell_kept (World.cell?_setCell_same' W ⟨B+1,0,none⟩ (.int .i64 (-1)) (by rw[cR];rfl)) (grownBy_putObj' _ D (.deferred none)) (fun r e=>by cases e;exact⟨_,hK',rfl⟩)
  refine⟨.int .i64 (-1),?_,⟨_,rfl,.inl ⟨rfl,fun z hz=>?_⟩⟩,?_⟩
  ·simp[results,Tryz.f56,go_sem,hc5]
  ·obtain⟨i,hi⟩:=List.mem_iff_getElem?.1 hz
   have:(i,z)∈dn zs 0:=dn_mem.2 ⟨Nat.zero_le _,hi⟩
   rw[←hS] at this
   obtain⟨y,hy,e⟩:=List.mem_map.1 this
   have:=hi1 y hy
   rw[e] at this
   exact this
  ·have hE:Below B w (W.setCell ⟨B+1,0,none⟩ (.int .i64 (-1))):=(t0b.trans (hi2.mono (by omega))).setCell (p:=⟨B+1,0,none⟩) (by show B≤B+1;omega) _
   exact Tch.of_below (hE.trans (belowK_b (w:=w) (by have:=HB.out;omega) _ D _ _ (by have:=HB.out;omega) hK' rfl rfl)) (by have:=HB.out;omega)
 case stop=>
  rintro D c pre W hD ⟨k,hk,hpre⟩ ⟨⟨rfl,ini,last,e1,e2,e3,hcr⟩,hB⟩ hK
  gi_wp2
  refine⟨by simp,.inl ⟨_,_,rfl,run_takeDeferred hK,?_⟩⟩
  have hc5:=cell_kept hcr (grownBy_putObj' _ D (.deferred none)) (fun r e=>by cases e;exact⟨_,hK,rfl⟩)
  refine⟨.int .i64 (last.1.1:Int),?_,⟨_,rfl,.inr ⟨last.1.1,last.1.2,rfl,last.2,e3,fun j u hj hu=>?_⟩⟩,?_⟩
  ·simp[results,Tryz.f56,go_sem,hc5]
  ·have hl:last.1.1=k:=by
    rw[e1,List.map_append] at hpre
    rcases Nat.lt_or_ge k zs.length with h|h
    ·rw[dn_step zs k _ (List.getElem?_eq_getElem h)] at hpre
     have:=(List.append_inj' hpre rfl).2
     simp only[List.map_cons,List.map_nil,List.cons.injEq,and_true] at this
     rw[this]
    ·have:k=zs.length:=by omega
     rw[this,dn_all] at hpre
     simp at hpre
   have:(j,u)∈pre.map (·.1):=by rw[hpre];exact dn_mem.2 ⟨by show k≤j;omega,hu⟩
   rw[e1] at this
   obtain⟨y,hy,e⟩:=List.mem_map.1 this
   rcases List.mem_append.1 hy with hy|hy
   ·have:=e2 y hy
    rw[e] at this
    exact this
   ·simp only[List.mem_cons,List.not_mem_nil,or_false] at hy
    subst hy
    rw[e] at hj
    exact absurd hj (Nat.lt_irrefl _)
  ·exact Tch.of_below (hB.trans (belowK_b (w:=w) (by have:=HB.out;omega) W D _ _ (by have:=HB.out;omega) hK rfl rfl)) (by have:=HB.out;omega)
end Go.Proofs.YtppokgdofgigfaaGreat
namespace Go.Proofs.YtppokgdofgigfaaGreat
open Go.RowKit Go Go.Sort
section
variable (hb mb:Nat) (m:Mg) (w:World) (F:Nat→Prop) (hM:MF w mb m F) (c0:w.cell? ⟨hb,0,none⟩=some (.pointer (some ⟨mb,0,none⟩)))
variable (wr:Int) (h1: -9223372036854775808≤wr) (h2:wr≤9223372036854775807) (th:Bool) (ao:Option Addr) (n cap:Nat)
include hM c0 h1 h2
theorem stands_any:Calls Tryz.prog 62 #[.pointer (some ⟨hb,0,none⟩),.agg #[.int .i64 wr,.bool th,.slice ao n cap]] w fun x w'=>x= .returned (.bool ((m.state wr:Int) !=4))∧Tch (fun _=>False) w w':=by
 obtain⟨w0,hw0⟩: ∃w0,w0=w.alloc (.cells #[.int .i64 wr,.bool th,.slice ao n cap] 69):=⟨_,rfl⟩
 have t0:Tch (fun _=>False) w w0:=by rw[hw0];exact Tch.alloc _ _ _
 have b0:w0.heap[w.heap.size]? =some (.cells #[.int .i64 wr,.bool th,.slice ao n cap] 69 (0,0)):=by rw[hw0];exact alloc_new _ _
 have d0:w0.cell? ⟨w.heap.size,0,none⟩=some (.int .i64 wr):=by rw[blk_cell b0];rfl
 have e0:w0.cell? ⟨hb,0,none⟩=some (.pointer (some ⟨mb,0,none⟩)):=by rw[t0.cell (p:=⟨hb,0,none⟩) (cell_lt c0) (fun h=>h)];exact c0
 have cS: ∀d os,Calls Tryz.prog 90 #[.pointer (some ⟨mb,0,none⟩),.int .i64 wr] (grow (redrawn w0 d) os) fun e w''=>e= .returned (.int .i64 (m.state wr))∧ ∃p:Regrown,w''=grow (redrawn w0 p.d) p.os:=fun d os=>Calls.tch_regrown_of (state_f mb m _ F (hM.no (t0.trans' (tch_regrown w0 ⟨d,os⟩))) wr h1 h2)
 obtain⟨st,hst⟩: ∃st,st=m.state wr:=⟨_,rfl⟩
 rw[←hst] at cS ⊢
 have Hw0:Hid _:=hw0
 have HT:Hid (∀p:Regrown,Tch (fun _=>False) w (grow (redrawn w0 p.d) p.os)):=fun p=>t0.trans' (tch_regrown w0 p)
 have d0':=cell_regrown d0
 have e0':=cell_regrown e0
 clear hst hM c0 b0 hw0 t0 h1 h2 d0 e0
 go_enter Tryz.func62,Tryz.ntmps62
 go_wp2_with fail
 have hw0:=Hw0.out
 rw[←hw0]
 clear hw0
 refine wp_region_quiet_below (by kernel_rfl) (by kernel_rfl) ?_
 repeat (go_big_quiet_step ((go_at_call 90;exact cS _ _)))
 refine wpQuiet_nil ?_
 rintro w1 ⟨pp,rfl⟩
 have T:=HT.out pp
 go_wp2_with fail
 go_ret
 exact⟨rfl,T⟩
theorem ongoing_any:Calls Tryz.prog 79 #[.pointer (some ⟨hb,0,none⟩),.agg #[.int .i64 wr,.bool th,.slice ao n cap]] w fun x w'=>x= .returned (.bool (decide (m.state wr=1∨m.state wr=2)))∧Tch (fun _=>False) w w':=by
 obtain⟨w0,hw0⟩: ∃w0,w0=w.alloc (.cells #[.int .i64 wr,.bool th,.slice ao n cap] 69):=⟨_,rfl⟩
 have t0:Tch (fun _=>False) w w0:=by rw[hw0];exact Tch.alloc _ _ _
 have b0:w0.heap[w.heap.size]? =some (.cells #[.int .i64 wr,.bool th,.slice ao n cap] 69 (0,0)):=by rw[hw0];exact alloc_new _ _
 have d0:w0.cell? ⟨w.heap.size,0,none⟩=some (.int .i64 wr):=by rw[blk_cell b0];rfl
 have e0:w0.cell? ⟨hb,0,none⟩=some (.pointer (some ⟨mb,0,none⟩)):=by rw[t0.cell (p:=⟨hb,0,none⟩) (cell_lt c0) (fun h=>h)];exact c0
 have cS: ∀d os,Calls Tryz.prog 90 #[.pointer (some ⟨mb,0,none⟩),.int .i64 wr] (grow (redrawn w0 d) os) fun e w''=>e= .returned (.int .i64 (m.state wr))∧ ∃p:Regrown,w''=grow (redrawn w0 p.d) p.os:=fun d os=>Calls.tch_regrown_of (state_f mb m _ F (hM.no (t0.trans' (tch_regrown w0 ⟨d,os⟩))) wr h1 h2)
 obtain⟨st,hst⟩: ∃st,st=m.state wr:=⟨_,rfl⟩
 rw[←hst] at cS ⊢
 have Hw0:Hid _:=hw0
 have HT:Hid (∀p:Regrown,Tch (fun _=>False) w (grow (redrawn w0 p.d) p.os)):=fun p=>t0.trans' (tch_regrown w0 p)
 have d0':=cell_regrown d0
 have e0':=cell_regrown e0
 clear hst hM c0 b0 hw0 t0 h1 h2 d0 e0
 by_cases h4:st=1
 ·subst h4
  go_enter Tryz.func79,Tryz.ntmps79
  go_wp2_with fail
  have hw0:=Hw0.out
  rw[←hw0]
  clear hw0
  refine wp_region_quiet_below (by kernel_rfl) (by kernel_rfl) ?_
  repeat (go_big_quiet_step ((go_at_call 90;exact cS _ _)))
  refine wpQuiet_nil ?_
  rintro w1 ⟨pp,rfl⟩
  have T:=HT.out pp
  go_wp2_with fail
  go_ret
  exact⟨rfl,T⟩
 ·have h4': ¬(st:Int)=1:=by omega
  have h5':((st:Int)==1)=false:=by simpa using h4'
  have HD:Hid (decide (st=1∨st=2)=((st:Int)==2)):=by
   show _=_
   rw[Bool.eq_iff_iff];simp;omega
  go_enter Tryz.func79,Tryz.ntmps79
  go_wp2_with fail
  have hw0:=Hw0.out
  rw[←hw0]
  clear hw0
  refine wp_region_quiet_below (by kernel_rfl) (by kernel_rfl) ?_
  repeat (go_big_quiet_step ((go_at_call 90;exact cS _ _)))
  refine wpQuiet_nil ?_
  rintro w1 ⟨pp,rfl⟩
  have T:=HT.out pp
  go_wp2_with fail
  go_ret
  exact⟨by rw[HD.out];rfl,T⟩
end
structure SB (w:World) (hb bh bs bx:Nat) (mn mx:Int) (l:List Int) (so:Option Addr) (sc:Nat) (own:Int):Prop where
 h:w.heap[bh]? =some (.cells #[.pointer (some ⟨hb,0,none⟩)] 36 (0,0))
 s:w.heap[bs]? =some (.cells #[.int .i64 mn,.int .i64 mx,.slice so l.length sc] 38 (0,0))
 x:w.heap[bx]? =some (.cells #[.int .i64 own] 3 (0,0))
 ir:IR w so l
theorem SB.no {w w':World} {hb bh bs bx:Nat} {mn mx:Int} {l:List Int} {so:Option Addr} {sc:Nat} {own:Int} (k:SB w hb bh bs bx mn mx l so sc own) (t:Tch (fun _=>False) w w'):SB w' hb bh bs bx mn mx l so sc own:=
 ⟨by rw[t.block bh (blk_lt k.h) (fun h=>h)];exact k.h,by rw[t.block bs (blk_lt k.s) (fun h=>h)];exact k.s,by rw[t.block bx (blk_lt k.x) (fun h=>h)];exact k.x,k.ir.no t⟩
theorem seen1_any (hb mb:Nat) (m:Mg) (w:World) (F:Nat→Prop) (hM:MF w mb m F) (c0:w.cell? ⟨hb,0,none⟩=some (.pointer (some ⟨mb,0,none⟩))) (wr:Int) (h1: -9223372036854775808≤wr) (h2:wr≤9223372036854775807) (th:Bool) (ao:Option Addr) (n cap:Nat) (bh bs bx:Nat) (mn mx:Int) (l:List Int) (so:Option Addr) (sc:Nat) (own:Int) (h3: -9223372036854775808≤own) (h4:own≤9223372036854775807) (hl:l.length≤9223372036854775807) (k:SB w hb bh bs bx mn mx l so sc own):
  Calls Tryz.prog 57 #[.agg #[.int .i64 wr,.bool th,.slice ao n cap],.pointer (some ⟨bh,0,none⟩),.pointer (some ⟨bs,0,none⟩),.pointer (some ⟨bx,0,none⟩)] w fun x w'=>x= .returned (.bool (m.sees mn mx l own wr))∧Tch (fun _=>False) w w':=by
 obtain⟨w0,hw0⟩: ∃w0,w0=w.alloc (.cells #[.int .i64 wr,.bool th,.slice ao n cap] 69):=⟨_,rfl⟩
 have t0:Tch (fun _=>False) w w0:=by rw[hw0];exact Tch.alloc _ _ _
 have b0:w0.heap[w.heap.size]? =some (.cells #[.int .i64 wr,.bool th,.slice ao n cap] 69 (0,0)):=by rw[hw0];exact alloc_new _ _
 have d0:w0.cell? ⟨w.heap.size,0,none⟩=some (.int .i64 wr):=by rw[blk_cell b0];rfl
 have e0:w0.cell? ⟨hb,0,none⟩=some (.pointer (some ⟨mb,0,none⟩)):=by rw[t0.cell (p:=⟨hb,0,none⟩) (cell_lt c0) (fun h=>h)];exact c0
 have k0:=k.no t0
 have g0:w0.cell? ⟨bh,0,none⟩=some (.pointer (some ⟨hb,0,none⟩)):=by rw[blk_cell k0.h];rfl
 have g1:w0.cell? ⟨bs,0,none⟩=some (.int .i64 mn):=by rw[blk_cell k0.s];rfl
 have g2:w0.cell? ⟨bs,1,none⟩=some (.int .i64 mx):=by rw[blk_cell k0.s];rfl
 have g3:w0.cell? ⟨bs,2,none⟩=some (.slice so l.length sc):=by rw[blk_cell k0.s];rfl
 have g4:w0.cell? ⟨bx,0,none⟩=some (.int .i64 own):=by rw[blk_cell k0.x];rfl
 have cS: ∀d os,Calls Tryz.prog 58 #[.pointer (some ⟨mb,0,none⟩),.agg #[.int .i64 mn,.int .i64 mx,.slice so l.length sc],.int .i64 own,.int .i64 wr] (grow (redrawn w0 d) os) fun e w''=>e= .returned (.bool (m.sees mn mx l own wr))∧ ∃p:Regrown,w''=grow (redrawn w0 p.d) p.os:=fun d os=>Calls.tch_regrown_of (sees_f mb m _ F (hM.no (t0.trans' (tch_regrown w0 ⟨d,os⟩))) mn mx l so sc hl (k0.ir.no (tch_regrown w0 ⟨d,os⟩)) own wr h1 h2 h3 h4)
 obtain⟨sv,hsv⟩: ∃sv,sv=m.sees mn mx l own wr:=⟨_,rfl⟩
 rw[←hsv] at cS ⊢
 obtain⟨ln,hln⟩: ∃ln,ln=l.length:=⟨_,rfl⟩
 rw[←hln] at cS g3
 have Hw0:Hid _:=hw0
 have HT:Hid (∀p:Regrown,Tch (fun _=>False) w (grow (redrawn w0 p.d) p.os)):=fun p=>t0.trans' (tch_regrown w0 p)
 have d0':=cell_regrown d0
 have e0':=cell_regrown e0
 have g0':=cell_regrown g0
 have g1':=cell_regrown g1
 have g2':=cell_regrown g2
 have g3':=cell_regrown g3
 have g4':=cell_regrown g4
 clear hsv hln hM c0 b0 hw0 t0 h1 h2 h3 h4 hl d0 e0 g0 g1 g2 g3 g4 k k0
 go_enter Tryz.func57,Tryz.ntmps57
 go_wp2_with fail
 have hw0:=Hw0.out
 rw[←hw0]
 clear hw0
 refine wp_region_quiet_below (by kernel_rfl) (by kernel_rfl) ?_
 repeat (go_big_quiet_step ((go_at_call 58;exact cS _ _)))
 refine wpQuiet_nil ?_
 rintro w1 ⟨pp,rfl⟩
 have T:=HT.out pp
 go_wp2_with fail
 go_ret
 exact⟨rfl,T⟩
theorem seenBy_any (hb:Nat) (mn mx:Int) (so:Option Addr) (ln sc:Nat) (own:Int) (w:World):
  Calls Tryz.prog 30 #[.pointer (some ⟨hb,0,none⟩),.agg #[.int .i64 mn,.int .i64 mx,.slice so ln sc],.int .i64 own] w fun x w'=>x= .returned (.func (.func 57) #[] #[.pointer (some ⟨w.heap.size,0,none⟩),.pointer (some ⟨w.heap.size+1,0,none⟩),.pointer (some ⟨w.heap.size+1+1,0,none⟩)])∧
   w'=((w.alloc (.cells #[.pointer (some ⟨hb,0,none⟩)] 36)).alloc (.cells #[.int .i64 mn,.int .i64 mx,.slice so ln sc] 38)).alloc (.cells #[.int .i64 own] 3):=by
 have hmf: ∀(fn:Fn) (first cap:Array Value) (w:World),(Instr.makeFunc fn first cap).run Tryz.prog w= .ok (.func fn first cap) w:=fun _ _ _ _=>rfl
 go_enter Tryz.func30,Tryz.ntmps30
 go_wp2
 go_ret
 exact⟨rfl,rfl⟩
end Go.Proofs.YtppokgdofgigfaaGreat
