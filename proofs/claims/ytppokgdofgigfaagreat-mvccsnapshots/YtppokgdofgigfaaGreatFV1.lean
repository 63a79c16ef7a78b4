import Derived.Test.YtppokgdofgigfaaGreatFE4
import Derived.Test.YtppokgdofgigfaaGreatFP6
import Derived.Test.YtppokgdofgigfaaGreatXNum2
import Derived.Test.YtppokgdofgigfaaGreatMPl3
set_option maxRecDepth 100000
namespace Go.Proofs.YtppokgdofgigfaaGreat.F
open Go.RowKit Go Go.Sort
set_option maxRecDepth 100000
structure SB (i nq:Nat) (m:Mg) (q:Mo):Prop where
 nq:nq≤3*i
 nx:m.nx≤1+i
 on:m.on.length≤i
 qn:q.n≤i
 now: ∀κ,κ<6→q.now.getD κ 0≤1000
 wn: ∀κ,κ<6→q.wn.getD κ 0≤q.n
 se: ∀(k:Nat) (s:Se),q.l[k]? =some s→s.ws.length≤i∧s.ps.length≤12∧s.on.length≤i
section
variable {i nq nq':Nat} {m m':Mg} {q:Mo} {k kd:Nat} {s s':Se}
theorem SB.up (h:SB i nq m q):SB (i+1) nq m q:=
 ⟨by have:=h.nq;omega,by have:=h.nx;omega,by have:=h.on;omega,by have:=h.qn;omega,h.now,h.wn,fun k s hs=>by have:=h.se k s hs;omega⟩
theorem SB.upN (h:SB i nq m q):SB (i+1) (nq+3) m q:=
 ⟨by have:=h.nq;omega,by have:=h.nx;omega,by have:=h.on;omega,by have:=h.qn;omega,h.now,h.wn,fun k s hs=>by have:=h.se k s hs;omega⟩
theorem SB.set (h:SB i nq m q) (hs:q.l[k]? =some s) (h1:nq'≤nq+3) (h2:m'.nx≤m.nx+1) (h3:m'.on.length≤m.on.length+1) (h4:s'.ws.length≤i+1∧s'.ps.length≤12∧s'.on.length≤i+1):SB (i+1) nq' m' { q with l:=q.l.set k s' } :=
 ⟨by have:=h.nq;omega,by have:=h.nx;omega,by have:=h.on;omega,by have:=h.qn;show q.n≤i+1;omega,h.now,h.wn,fun j u hu=>by
  rcases set_get hs hu with⟨_,e⟩|⟨_,hu⟩
  ·rw[e];exact h4
  ·have:=h.se j u hu;omega⟩
theorem SB.commit (h:SB i nq m q) (hs:q.l[k]? =some s) (hx: ∀κ,κ<6→seesS s κ≤1000) (h2:m'.nx≤m.nx) (h3:m'.on.length≤m.on.length):SB (i+1) nq m' { qj q s 6 with l:=q.l.set k se0 } :=
 ⟨by have:=h.nq;omega,by have:=h.nx;omega,by have:=h.on;omega,by show(qj q s 6).n≤i+1;rw[qj_n];have:=h.qn;omega,fun κ hκ=>by
  show(qj q s 6).now.getD κ 0≤1000
  rw[qj_now q s 6 (by omega) κ hκ]
  split
  ·exact hx κ hκ
  ·exact h.now κ hκ,fun κ hκ=>by
  show(qj q s 6).wn.getD κ 0≤(qj q s 6).n
  rw[qj_wn q s 6 (by omega) κ hκ,qj_n]
  split
  ·exact Nat.le_refl _
  ·have:=h.wn κ hκ;omega,fun j u hu=>by
  rcases set_get hs hu with⟨_,e⟩|⟨_,hu⟩
  ·rw[e];exact⟨Nat.zero_le _,Nat.zero_le _,Nat.zero_le _⟩
  ·have:=h.se j u hu;omega⟩
end
theorem fin_on (m:Mg) (x f:Nat):(m.fin x f).on.length≤m.on.length:=List.length_filter_le _ _
end Go.Proofs.YtppokgdofgigfaaGreat.F
namespace Go.Proofs.YtppokgdofgigfaaGreat.F
section
variable {α β:Type} {P P':α→Bool} {Q:List (α→Bool)} {c a b:List α}
def keepL (P:α→Bool) (Q:List (α→Bool)):List α→List α
 |[]=>[]
 |v::r=>if P v||Q.any (fun p=>p v && !(r.any p)) then v::keepL P Q r else keepL P Q r
theorem keepL_cons (P:α→Bool) (Q:List (α→Bool)) (v:α) (r:List α):keepL P Q (v::r)=if P v||Q.any (fun p=>p v && !(r.any p)) then v::keepL P Q r else keepL P Q r:=rfl
theorem keepL_sub (P:α→Bool) (Q:List (α→Bool)): ∀c:List α,(keepL P Q c).Sublist c
 |[]=>List.Sublist.refl _
 |v::r=>by
  rw[keepL_cons]
  split
  ·exact(keepL_sub P Q r).cons_cons v
  ·exact(keepL_sub P Q r).cons v
theorem any_nil {p:α→Bool} {r:List α} (h:r.any p=false):r.filter p=[]:=List.filter_eq_nil_iff.2 (fun v hv e=>by
 rw[List.any_eq_false] at h
 exact h v hv e)
theorem any_filter {p:α→Bool} {r:List α} (h:r.any p=true): ∃z,(r.filter p).getLast? =some z:=by
 obtain⟨v,hv,e⟩:=List.any_eq_true.1 h
 have:v∈r.filter p:=List.mem_filter.2 ⟨hv,e⟩
 cases hh:(r.filter p).getLast? with
 |none=>rw[List.getLast?_eq_none_iff.1 hh] at this;cases this
 |some z=>exact⟨z,rfl⟩
theorem last_cons {z:α} {l:List α} (v:α) (h:l.getLast? =some z):(v::l).getLast? =some z:=by
 cases l with
 |nil=>cases h
 |cons a l=>rw[List.getLast?_cons_cons];exact h
theorem keepL_last {p:α→Bool} (hp:p∈Q): ∀c:List α,((keepL P Q c).filter p).getLast? =(c.filter p).getLast?
 |[]=>rfl
 |v::r=>by
  have ih:=keepL_last hp r
  cases hr:r.any p with
  |true=>
   obtain⟨z,hz⟩:=any_filter hr
   rw[hz] at ih
   have e1:((v::r).filter p).getLast? =some z:=by
    rw[List.filter_cons]
    split
    ·exact last_cons v hz
    ·exact hz
   rw[e1,keepL_cons]
   split
   ·rw[List.filter_cons]
    split
    ·exact last_cons v ih
    ·exact ih
   ·exact ih
  |false=>
   have e0:=any_nil hr
   have e1:(keepL P Q r).filter p=[]:=List.filter_eq_nil_iff.2 (fun u hu e=>by
    have:=List.filter_eq_nil_iff.1 e0 u ((keepL_sub P Q r).subset hu)
    exact this e)
   cases hv:p v with
   |true=>
    have hc:(P v||Q.any (fun p=>p v && !(r.any p)))=true:=by
     rw[Bool.or_eq_true_iff]
     exact .inr (List.any_eq_true.2 ⟨p,hp,by rw[hv,hr];rfl⟩)
    rw[keepL_cons,if_pos hc,List.filter_cons,List.filter_cons,if_pos hv,if_pos hv,e0,e1]
   |false=>
    rw[keepL_cons]
    have e2:(v::r).filter p=[]:=by rw[List.filter_cons,if_neg (by rw[hv];simp),e0]
    rw[e2]
    split
    ·rw[List.filter_cons,if_neg (by rw[hv];simp),e1]
    ·rw[e1]
theorem any_false_sub {p:α→Bool} {r r':List α} (h:r'.Sublist r) (e:r.any p=false):r'.any p=false:=by
 rw[List.any_eq_false] at e ⊢
 exact fun x hx=>e x (h.subset hx)
theorem keepL_fix (P:α→Bool) (Q:List (α→Bool)): ∀c:List α,keepL P Q (keepL P Q c)=keepL P Q c
 |[]=>rfl
 |v::r=>by
  have ih:=keepL_fix P Q r
  by_cases hc:(P v||Q.any (fun p=>p v && !(r.any p)))=true
  ·have hc2:(P v||Q.any (fun p=>p v && !((keepL P Q r).any p)))=true:=by
    rw[Bool.or_eq_true_iff] at hc ⊢
    refine hc.imp id (fun h=>?_)
    obtain⟨p,hp,h2⟩:=List.any_eq_true.1 h
    refine List.any_eq_true.2 ⟨p,hp,?_⟩
    rw[Bool.and_eq_true_iff] at h2 ⊢
    refine⟨h2.1,?_⟩
    have h3:r.any p=false:=by simpa using h2.2
    rw[any_false_sub (keepL_sub P Q r) h3];rfl
   rw[keepL_cons,if_pos hc,keepL_cons,if_pos hc2,ih]
  ·rw[keepL_cons,if_neg hc,ih]
theorem keepL_suf: ∀a:List α,keepL P Q (a++b)=a++b→keepL P Q b=b
 |[],h=>h
 |v::a,h=>by
  rw[List.cons_append,keepL_cons] at h
  split at h
  ·injection h with _ h
   exact keepL_suf a h
  ·have h1:=(keepL_sub P Q (a++b)).length_le
   rw[h,List.length_cons] at h1
   omega
theorem drop_suf (g:α→Bool) (l:List α):l.takeWhile g++l.dropWhile g=l:=List.takeWhile_append_dropWhile
theorem keepL_drop (g:α→Bool) (h:keepL P Q c=c):keepL P Q (c.dropWhile g)=c.dropWhile g:=
 keepL_suf (c.takeWhile g) (by rw[drop_suf];exact h)
theorem drop_fix (g:α→Bool): ∀l:List α,(l.dropWhile g).dropWhile g=l.dropWhile g
 |[]=>rfl
 |v::r=>by
  cases h:g v with
  |true=>rw[List.dropWhile_cons_of_pos h];exact drop_fix g r
  |false=>rw[List.dropWhile_cons_of_neg (by rw[h];simp),List.dropWhile_cons_of_neg (by rw[h];simp)]
theorem keepL_congr {γ:Type} {L:List γ} {F F':γ→α→Bool} : ∀ {c:List α},(∀v∈c,P v=P' v∧ ∀x∈L,F x v=F' x v)→keepL P (L.map F) c=keepL P' (L.map F') c
 |[],_=>rfl
 |v::r,h=>by
  have ih:=keepL_congr (fun u hu=>h u (List.mem_cons_of_mem _ hu))
  have h0:=h v List.mem_cons_self
  have hr: ∀x∈L,r.any (F x)=r.any (F' x):=fun x hx=>by
   rw[Bool.eq_iff_iff,List.any_eq_true,List.any_eq_true]
   constructor
   ·rintro⟨u,hu,e⟩;exact⟨u,hu,by rw[←(h u (List.mem_cons_of_mem _ hu)).2 x hx];exact e⟩
   ·rintro⟨u,hu,e⟩;exact⟨u,hu,by rw[(h u (List.mem_cons_of_mem _ hu)).2 x hx];exact e⟩
  have hq:((L.map F).any fun p=>p v && !(r.any p))=((L.map F').any fun p=>p v && !(r.any p)):=by
   rw[List.any_map,List.any_map,Bool.eq_iff_iff,List.any_eq_true,List.any_eq_true]
   constructor
   ·rintro⟨x,hx,e⟩
    refine⟨x,hx,?_⟩
    have e:(F x v && !(r.any (F x)))=true:=e
    show(F' x v && !(r.any (F' x)))=true
    rw[←h0.2 x hx, ←hr x hx];exact e
   ·rintro⟨x,hx,e⟩
    refine⟨x,hx,?_⟩
    have e:(F' x v && !(r.any (F' x)))=true:=e
    show(F x v && !(r.any (F x)))=true
    rw[h0.2 x hx,hr x hx];exact e
  rw[keepL_cons,keepL_cons,hq,h0.1,ih]
theorem keepL_app (hq: ∀v∈b, ∀p∈Q,p v=false): ∀a:List α,keepL P Q (a++b)=keepL P Q a++keepL P Q b
 |[]=>rfl
 |v::r=>by
  have ih:=keepL_app hq r
  have e:(Q.any fun p=>p v && !((r++b).any p))=Q.any fun p=>p v && !(r.any p):=by
   have key: ∀p∈Q,(r++b).any p=r.any p:=fun p hp=>by
    rw[List.any_append]
    have:b.any p=false:=by rw[List.any_eq_false];exact fun x hx=>by rw[hq x hx p hp];simp
    rw[this,Bool.or_false]
   rw[Bool.eq_iff_iff,List.any_eq_true,List.any_eq_true]
   constructor
   ·rintro⟨p,hp,e⟩;exact⟨p,hp,by rw[key p hp] at e;exact e⟩
   ·rintro⟨p,hp,e⟩;exact⟨p,hp,by rw[key p hp];exact e⟩
  rw[List.cons_append,keepL_cons,keepL_cons,e,ih]
  split<;>rfl
theorem keepL_all: ∀ {b:List α},(∀v∈b,P v=true)→keepL P Q b=b
 |[],_=>rfl
 |v::r,h=>by
  rw[keepL_cons,if_pos (by rw[h v List.mem_cons_self];rfl),keepL_all (fun u hu=>h u (List.mem_cons_of_mem _ hu))]
theorem keepL_filter {z:α→Bool} : ∀ {c:List α},(∀v∈c,z v=false→P v=false∧ ∀p∈Q,p v=false)→keepL P Q (c.filter z)=keepL P Q c
 |[],_=>rfl
 |v::r,h=>by
  have ih:=keepL_filter (z:=z) (fun u hu=>h u (List.mem_cons_of_mem _ hu))
  cases hz:z v with
  |false=>
   obtain⟨h1,h2⟩:=h v List.mem_cons_self hz
   have hc: ¬(P v||Q.any (fun p=>p v && !(r.any p)))=true:=by
    rw[h1,Bool.false_or,List.any_eq_true]
    rintro⟨p,hp,e⟩
    rw[h2 p hp] at e;cases e
   rw[List.filter_cons,if_neg (by rw[hz];simp),keepL_cons,if_neg hc,ih]
  |true=>
   have key: ∀p∈Q,(r.filter z).any p=r.any p:=fun p hp=>by
    rw[Bool.eq_iff_iff,List.any_eq_true,List.any_eq_true]
    constructor
    ·rintro⟨u,hu,e⟩;exact⟨u,(List.mem_filter.1 hu).1,e⟩
    ·rintro⟨u,hu,e⟩
     refine⟨u,List.mem_filter.2 ⟨hu,?_⟩,e⟩
     cases hu2:z u with
     |true=>rfl
     |false=>rw[(h u (List.mem_cons_of_mem _ hu) hu2).2 p hp] at e;cases e
   have e:(Q.any fun p=>p v && !((r.filter z).any p))=Q.any fun p=>p v && !(r.any p):=by
    rw[Bool.eq_iff_iff,List.any_eq_true,List.any_eq_true]
    constructor
    ·rintro⟨p,hp,e⟩;exact⟨p,hp,by rw[key p hp] at e;exact e⟩
    ·rintro⟨p,hp,e⟩;exact⟨p,hp,by rw[key p hp];exact e⟩
   rw[List.filter_cons,if_pos hz,keepL_cons,keepL_cons,e,ih]
theorem keepL_map (f:α→β) (P:β→Bool) (Q:List (β→Bool)): ∀c:List α,keepL P Q (c.map f)=(keepL (fun v=>P (f v)) (Q.map (fun p v=>p (f v))) c).map f
 |[]=>rfl
 |v::r=>by
  have ih:=keepL_map f P Q r
  have e:(Q.any fun p=>p (f v) && !((r.map f).any p))=(Q.map (fun p v=>p (f v))).any fun p=>p v && !(r.any p):=by
   rw[List.any_map]
   congr 1
   funext p
   show _=(p (f v) && !(r.any (fun v=>p (f v))))
   rw[List.any_map];rfl
  rw[List.map_cons,keepL_cons,keepL_cons,e,ih]
  split<;>rfl
theorem take_mem {g:α→Bool} {v:α} : ∀ {l:List α},v∈l.takeWhile g→g v=true
 |[],h=>by cases h
 |u::r,h=>by
  rw[List.takeWhile_cons] at h
  split at h
  ·rename_i hu
   rcases List.mem_cons.1 h with e|h
   ·rw[e];exact hu
   ·exact take_mem h
  ·cases h
theorem drop_last (g p:α→Bool) (l:List α):((l.dropWhile g).filter p).getLast? =(l.filter p).getLast? ∨((l.dropWhile g).filter p=[]∧ ∃z,(l.filter p).getLast? =some z∧g z=true):=by
 have e:=drop_suf g l
 have e2:l.filter p=(l.takeWhile g).filter p++(l.dropWhile g).filter p:=by rw[←List.filter_append,e]
 cases h:((l.dropWhile g).filter p).getLast? with
 |some z=>rw[e2,List.getLast?_append,h];exact .inl rfl
 |none=>
  have hn:=List.getLast?_eq_none_iff.1 h
  rw[e2,hn,List.append_nil]
  cases h2:((l.takeWhile g).filter p).getLast? with
  |none=>exact .inl rfl
  |some z=>
   have hz:=(List.mem_filter.1 (List.mem_of_getLast? h2)).1
   exact .inr ⟨rfl,z,rfl,take_mem hz⟩
end
structure KS (m:Mg) (q:Mo) (σ:Nat→Nat) (κ:Nat) (c:List Vn) (cm:List (Vn×Nat)) (o:Option Nat):Prop where
 has: ∀v∈c, ∃t i,fnd m.tx v.wr=some (t,i)
 eq:c.filter (fun v=>m.state v.wr !=4)=cm.map (·.1)++ownO q o κ
 com: ∀p∈cm, ∃t i,fnd m.tx p.1.wr=some (t,i)∧stE (some (t,i))=3∧σ t.x=p.2
 ow: ∀(k:Nat),o=some k→ ∃s,q.l[k]? =some s∧s.op=true∧wroteS s κ=true
theorem seen_eqS {m:Mg} {q:Mo} {K:Nat→List Vn} {σ:Nat→Nat} {c:List Vn} (hI:Inv m q K σ) {k:Nat} {s:Se} (hs:q.l[k]? =some s) (ho:s.op=true) {t:Tx} (ht:SesTx m s t) {x i:Int} (hx:fnd m.tx x=some (t,i)) {κ:Nat} {cm:List (Vn×Nat)} {o:Option Nat} (hk:KS m q σ κ c cm o):
  c.filter (fun v=>m.sees s.mn s.mx (onI s) x v.wr)=(cm.filter (fun p=>decide (p.2≤s.wh))).map (·.1)++(if o=some k then ownV s κ else[]):=by
 have hst: ∀v∈c,m.sees s.mn s.mx (onI s) x v.wr=true→(m.state v.wr !=4)=true:=fun v hv e=>by
  obtain⟨u,j,hf⟩:=hk.has v hv
  unfold Mg.sees at e
  unfold Mg.state
  rw[hf] at e ⊢
  simp only at e
  split at e
  ·simpa using e
  ·simp only[Bool.and_eq_true,decide_eq_true_eq] at e
   rw[e.1];rfl
 have h1:c.filter (fun v=>m.sees s.mn s.mx (onI s) x v.wr)=(c.filter (fun v=>m.state v.wr !=4)).filter (fun v=>m.sees s.mn s.mx (onI s) x v.wr):=by
  rw[List.filter_filter]
  refine List.filter_congr (fun v hv=>?_)
  cases e:m.sees s.mn s.mx (onI s) x v.wr with
  |false=>rfl
  |true=>rw[hst v hv e];rfl
 rw[h1,hk.eq,List.filter_append]
 congr 1
 ·rw[List.filter_map]
  congr 1
  refine List.filter_congr (fun p hp=>?_)
  obtain⟨u,j,hf,h3,hσ⟩:=hk.com p hp
  show m.sees s.mn s.mx _ x p.1.wr=_
  unfold Mg.sees
  rw[hf,hx]
  have hu3:u.st=3:=by
   rw[stE_eq] at h3
   split at h3
   ·cases h3
   ·exact h3
  have hne: ¬t.x=u.x:=fun e=>by
   have:=hI.wf.uniq t ht.mem u (fnd_mem hf).1 e
   subst this
   have:=ht.lt3
   omega
  have hv:=((hI.vis k s hs ho u (fnd_mem hf).1).1 hu3)
  simp only[sameTx,decide_eq_false hne,h3]
  rw[←hσ]
  have hmem:((u.x:Int)∈onI s) ↔ u.x∈s.on:=by
   unfold onI
   simp only[List.mem_map]
   constructor
   ·rintro⟨a,ha,e⟩
    have:a=u.x:=by injection e
    rw[←this];exact ha
   ·exact fun h=>⟨_,h,rfl⟩
  unfold visT at hv
  by_cases hle:σ u.x≤s.wh
  ·have:=hv.2 hle
   simp[hle,this.1,hmem,this.2]
  ·have: ¬(u.x<s.mx∧u.x ∉ s.on):=fun e=>hle (hv.1 e)
   simp only[hle,decide_false,Bool.false_eq_true,if_false,decide_true,Bool.true_and]
   by_cases hlt:u.x<s.mx
   ·have hin:u.x∈s.on:=Classical.byContradiction fun e=>this ⟨hlt,e⟩
    simp[hmem,hin]
   ·simp[hlt]
 ·cases o with
  |none=>rfl
  |some k'=>
   obtain⟨s',hs',ho',hwr'⟩:=hk.ow k' rfl
   have e1:ownO q (some k') κ=ownV s' κ:=by simp only[ownO,hs']
   rw[e1]
   obtain⟨t',ht'⟩:=(hI.ses k' s' hs' ho').tx
   have hall: ∀v∈ownV s' κ, ∃j,fnd m.tx v.wr=some (t',j)∧stE (some (t',j))=t'.st:=fun v hv=>by
    obtain⟨w,hw,rfl⟩:=List.mem_map.1 hv
    obtain⟨hw1,hw2⟩:=List.mem_filter.1 hw
    simp only[Bool.and_eq_true,decide_eq_true_eq] at hw2
    have hb:=(hI.ses k' s' hs' ho').ws w hw1
    refine⟨w.pt,ses_fnd hI.wf ht' hb.1 hb.2,?_⟩
    have:=ses_state hI.wf ht' hb.1 hb.2
    rw[hw2.1] at this
    unfold Mg.state at this
    rw[ses_fnd hI.wf ht' hb.1 hb.2] at this
    exact this
   have hl3:=ht'.lt3
   by_cases hkk:k'=k
   ·subst hkk
    rw[hs] at hs'
    injection hs' with hs'
    subst hs'
    rw[if_pos rfl]
    refine List.filter_eq_self.2 (fun v hv=>?_)
    obtain⟨j,hf,h3⟩:=hall v hv
    unfold Mg.sees
    rw[hf,hx]
    have:t.x=t'.x:=by rw[ht.x,ht'.x]
    simp only[sameTx,this,decide_true,if_true,h3]
    simp;omega
   ·rw[if_neg (fun e=>hkk (Option.some.inj e))]
    refine List.filter_eq_nil_iff.2 (fun v hv=>?_)
    obtain⟨j,hf,h3⟩:=hall v hv
    unfold Mg.sees
    rw[hf,hx]
    have: ¬t.x=t'.x:=by rw[ht.x,ht'.x];exact fun e=>hI.ap k k' s s' hs hs' ho ho' (fun e=>hkk e.symm) e
    simp only[sameTx,decide_eq_false this,h3]
    have: ¬t'.st=3:=by omega
    simp[this]
structure Fg (m m':Mg) (q:Mo):Prop where
 kp: ∀(n:Int) (t:Tx) (i:Int),fnd m.tx n=some (t,i)→fnd m'.tx n=some (t,i)
 fg: ∀(n:Int) (t:Tx) (i:Int),fnd m'.tx n=some (t,i)→fnd m.tx n=none→ ∀(k:Nat) (s:Se),q.l[k]? =some s→s.op=true→s.pp=false→n<s.mn
structure Sn (s:Se):Prop where
 le:s.mn≤s.mx
 on: ∀y∈s.on,s.mn≤y
theorem sees_same {m m':Mg} {q:Mo} (hw:Wf m') (hF:Fg m m' q) {k:Nat} {s:Se} (hs:q.l[k]? =some s) (ho:s.op=true) (hpp:s.pp=false) (hsn:Sn s) {x i:Int} {t:Tx} (hx:fnd m.tx x=some (t,i)) (ht:t.st<3) {v:Int} (hv: ∃u j,fnd m'.tx v=some (u,j)) (hf:fnd m.tx v=none→m'.state v=3):
  m.sees s.mn s.mx (onI s) x v=m'.sees s.mn s.mx (onI s) x v:=by
 obtain⟨u,j,hu⟩:=hv
 have hx':=hF.kp _ _ _ hx
 cases h:fnd m.tx v with
 |some r=>
  obtain⟨u2,j2⟩:=r
  have h2:=hF.kp _ _ _ h
  unfold Mg.sees
  rw[h,h2,hx,hx']
 |none=>
  have h3:=hf h
  have hlt:=hF.fg v u j hu h k s hs ho hpp
  have h1:=(hw.fnd_lt hu).1
  unfold Mg.state at h3
  rw[hu] at h3
  have hu3:u.st=3:=by
   rw[stE_eq] at h3
   split at h3
   ·cases h3
   ·exact h3
  have hne: ¬t.x=u.x:=fun e=>by
   have:=hw.uniq t (fnd_mem hx').1 u (fnd_mem hu).1 e
   rw[this] at ht
   omega
  have hux:(u.x:Int)≤v:=by
   obtain⟨hm,⟨_,e⟩|⟨r,p,_,_,hp,e,_⟩⟩:=fnd_mem hu
   ·omega
   ·have:=hw.pl u hm p (List.mem_of_getElem? hp);omega
  have hmx:=hsn.le
  have hmem: ¬(u.x:Int)∈onI s:=fun e=>by
   unfold onI at e
   obtain⟨y,hy,e2⟩:=List.mem_map.1 e
   have:=hsn.on y hy
   have e3:(y:Int)=u.x:=e2
   omega
  have d1:decide (1≤v)=true:=decide_eq_true h1
  have d2:decide (v<(s.mn:Int))=true:=decide_eq_true hlt
  have d3:decide ((u.x:Int)<(s.mx:Int))=true:=decide_eq_true (by omega)
  unfold Mg.sees
  rw[h,hu,hx']
  simp only[sameTx,decide_eq_false hne,h3,d1,d2,d3]
  simp[hmem]
structure CR (q:Mo) (cm cm0:List (Vn×Nat)):Prop where
 sub:cm0.Sublist cm
 nw:cm0.getLast? =cm.getLast? ∨(cm0=[]∧ ∃p,cm.getLast? =some p∧p.1.gone=true∧ ∀(k:Nat) (s:Se),q.l[k]? =some s→s.op=true→s.pp=false→p.2≤s.wh)
 sn: ∀(k:Nat) (s:Se),q.l[k]? =some s→s.op=true→s.pp=false→(cm0.filter (fun p=>decide (p.2≤s.wh))).getLast? =(cm.filter (fun p=>decide (p.2≤s.wh))).getLast? ∨(cm0.filter (fun p=>decide (p.2≤s.wh))=[]∧ ∃p,(cm.filter (fun p=>decide (p.2≤s.wh))).getLast? =some p∧p.1.gone=true)
structure Lf (m m':Mg) (q:Mo) (σ:Nat→Nat) (K K':Nat→List Vn):Prop where
 fg:Fg m m' q
 sn: ∀(k:Nat) (s:Se),q.l[k]? =some s→s.op=true→Sn s
 fo: ∀κ,κ<6→ ∀v∈K κ,fnd m.tx v.wr=none→m'.state v.wr=3
 key: ∀κ,κ<6→ ∃cm o cm0,KOk m' q σ κ (K' κ) cm o∧CR q cm cm0∧KS m' q σ κ (K κ) cm0 o
theorem Lf.seen {m m':Mg} {q:Mo} {σ:Nat→Nat} {K K':Nat→List Vn} (h:Lf m m' q σ K K') (hI:Inv m' q K' σ) {k:Nat} {s:Se} (hs:q.l[k]? =some s) (ho:s.op=true) (hpp:s.pp=false) {t:Tx} (ht:SesTx m' s t) {x i:Int} (hx:fnd m.tx x=some (t,i)) {κ:Nat} (hκ:κ<6):
  ∃cm o cm0,KOk m' q σ κ (K' κ) cm o∧CR q cm cm0∧KS m' q σ κ (K κ) cm0 o∧(K κ).filter (fun v=>m.sees s.mn s.mx (onI s) x v.wr)=(cm0.filter (fun p=>decide (p.2≤s.wh))).map (·.1)++(if o=some k then ownV s κ else[]):=by
 obtain⟨cm,o,cm0,h1,h2,h3⟩:=h.key κ hκ
 refine⟨cm,o,cm0,h1,h2,h3,?_⟩
 have e:=seen_eqS hI hs ho ht (h.fg.kp _ _ _ hx) h3
 rw[←e]
 refine List.filter_congr (fun v hv=>?_)
 exact sees_same hI.wf h.fg hs ho hpp (h.sn k s hs ho) hx ht.lt3.2 (h3.has v hv) (h.fo κ hκ v hv)
theorem lastV_app (a b:List Vn):lastV (a++b)=if b=[] then lastV a else lastV b:=by
 unfold lastV
 rw[List.getLast?_append]
 cases hb:b.getLast? with
 |none=>
  have:=List.getLast?_eq_none_iff.1 hb
  rw[if_pos this];rfl
 |some v=>
  have:b≠[]:=fun e=>by rw[e] at hb;cases hb
  rw[if_neg this];rfl
theorem Lf.val {q:Mo} {σ:Nat→Nat} {m':Mg} {κ:Nat} {c:List Vn} {cm cm0:List (Vn×Nat)} {o:Option Nat} (h1:KOk m' q σ κ c cm o) (h2:CR q cm cm0) {k:Nat} {s:Se} (hs:q.l[k]? =some s) (ho:s.op=true) (hpp:s.pp=false):
  lastV ((cm0.filter (fun p=>decide (p.2≤s.wh))).map (·.1)++(if o=some k then ownV s κ else[]))=seesS s κ:=by
 have hl:lastV ((cm0.filter (fun p=>decide (p.2≤s.wh))).map (·.1))=lastV ((cm.filter (fun p=>decide (p.2≤s.wh))).map (·.1)):=by
  unfold lastV
  rw[List.getLast?_map,List.getLast?_map]
  rcases h2.sn k s hs ho hpp with e|⟨e,p,e2,e3⟩
  ·rw[e]
  ·rw[e,e2]
   show 0=p.1.val
   unfold Vn.val
   rw[e3];rfl
 rw[←seesS_eq h1 hs ho,lastV_app,lastV_app,hl]
section
variable {m:Mg} {q:Mo} {K:Nat→List Vn} {σ:Nat→Nat}
theorem write_decS (hI:Inv m q K σ) {k:Nat} {s:Se} (hs:q.l[k]? =some s) (ho:s.op=true) (hpp:s.pp=false) {t:Tx} (ht:SesTx m s t) {x i:Int} (hx:fnd m.tx x=some (t,i)) {κ:Nat} {c c9:List Vn} {cm9 cm:List (Vn×Nat)} {o:Option Nat} (hk:KOk m q σ κ c9 cm9 o) (hr:CR q cm9 cm) (h3:KS m q σ κ c cm o):
  (ConfP q k s κ→ ∃v,(c.filter (fun v=>m.state v.wr !=4)).getLast? =some v∧m.sees s.mn s.mx (onI s) x v.wr=false)∧
  (¬ConfP q k s κ→((c.filter (fun v=>m.state v.wr !=4)).getLast? =none∧seesS s κ=0)∨ ∃v,(c.filter (fun v=>m.state v.wr !=4)).getLast? =some v∧m.sees s.mn s.mx (onI s) x v.wr=true∧v.val=seesS s κ):=by
 have hseen:=seen_eqS hI hs ho ht hx h3
 have hval:=Lf.val hk hr hs ho hpp
 have hmem: ∀v,v∈c→(m.sees s.mn s.mx (onI s) x v.wr=true ↔ v∈(cm.filter (fun p=>decide (p.2≤s.wh))).map (·.1)++(if o=some k then ownV s κ else[])):=fun v hv=>by
  rw[←hseen,List.mem_filter]
  exact⟨fun e=>⟨hv,e⟩,fun e=>e.2⟩
 have hin: ∀v,(c.filter (fun v=>m.state v.wr !=4)).getLast? =some v→v∈c:=fun v e=>(List.mem_filter.1 (List.mem_of_getLast? e)).1
 rw[h3.eq] at hin ⊢
 cases ho':o with
 |some k'=>
  obtain⟨s',hs',hop',hwr',hle'⟩:=hk.ow k' ho'
  have hne:=ownV_ne hwr'
  have e1:ownO q (some k') κ=ownV s' κ:=by simp only[ownO,hs']
  rw[ho'] at hin hmem hval
  rw[e1] at hin ⊢
  obtain⟨v,hv⟩: ∃v,(ownV s' κ).getLast? =some v:=by
   cases h:(ownV s' κ).getLast? with
   |none=>exact absurd (List.getLast?_eq_none_iff.1 h) hne
   |some v=>exact⟨v,rfl⟩
  have hlast:(cm.map (·.1)++ownV s' κ).getLast? =some v:=by rw[List.getLast?_append,hv];rfl
  by_cases hkk:k'=k
  ·subst hkk
   rw[hs] at hs';injection hs' with hs';subst hs'
   have hno: ¬ConfP q k' s κ:=by
    rintro(⟨i,s2,hne2,hs2,ho2,hw2⟩|hlt)
    ·have:=hk.one i s2 hs2 ho2 hw2
     rw[ho'] at this;injection this with this;exact hne2 this.symm
    ·omega
   refine⟨fun e=>absurd e hno,fun _=>Or.inr ⟨v,hlast,?_,?_⟩⟩
   ·exact(hmem v (hin v hlast)).2 (List.mem_append_right _ (by rw[if_pos rfl];exact List.mem_of_getLast? hv))
   ·rw[if_pos rfl] at hval
    rw[←hval]
    unfold lastV
    rw[List.getLast?_append,hv];rfl
  ·have hyes:ConfP q k s κ:=Or.inl ⟨k',s',hkk,hs',hop',hwr'⟩
   refine⟨fun _=>⟨v,hlast,?_⟩,fun e=>absurd hyes e⟩
   cases hsv:m.sees s.mn s.mx (onI s) x v.wr with
   |false=>rfl
   |true=>
    have h1:=(hmem v (hin v hlast)).1 hsv
    rw[if_neg (fun e=>hkk (Option.some.inj e)),List.append_nil] at h1
    obtain⟨p,hp,e⟩:=List.mem_map.1 h1
    obtain⟨u,j,hf,h3,_⟩:=h3.com p (List.mem_filter.1 hp).1
    obtain⟨t',ht'⟩:=(hI.ses k' s' hs' hop').tx
    obtain⟨j',_,_,_,_,hf',hst'⟩:=hI.tops hs' hop' ht' (List.mem_of_getLast? hv)
    rw[←e,hf] at hf'
    injection hf' with hf'
    injection hf' with e1 e2
    subst e1 e2
    have:=ht'.lt3
    omega
 |none=>
  have e1:ownO q none κ=[]:=rfl
  rw[ho'] at hin hmem hval
  rw[e1,List.append_nil] at hin ⊢
  rw[if_neg (by simp),List.append_nil] at hval
  have hnw: ∀(i:Nat) (s2:Se),q.l[i]? =some s2→s2.op=true→ ¬wroteS s2 κ=true:=fun i s2 h1 h2 h3=>by
   have:=hk.one i s2 h1 h2 h3
   rw[ho'] at this;cases this
  have hwn:=hk.wn
  cases hc:cm.getLast? with
  |none=>
   have hcn:=List.getLast?_eq_none_iff.1 hc
   have hno: ¬ConfP q k s κ:=by
    rintro(⟨i,s2,_,hs2,ho2,hw2⟩|hlt)
    ·exact hnw i s2 hs2 ho2 hw2
    ·rcases hr.nw with e|⟨_,p,e,_,hp⟩
     ·rw[hc] at e
      rw[←e] at hwn
      simp only at hwn;omega
     ·rw[e] at hwn
      have:=hp k s hs ho hpp
      simp only at hwn;omega
   subst hcn
   exact⟨fun e=>absurd e hno,fun _=>Or.inl ⟨rfl,hval.symm⟩⟩
  |some p=>
   have hp:p∈cm:=List.mem_of_getLast? hc
   have hc9:cm9.getLast? =some p:=by
    rcases hr.nw with e|⟨e,_⟩
    ·rw[←e];exact hc
    ·rw[e] at hc;cases hc
   rw[hc9] at hwn
   have hl:(cm.map (·.1)).getLast? =some p.1:=by rw[List.getLast?_map,hc];rfl
   by_cases hle:p.2≤s.wh
   ·have hno: ¬ConfP q k s κ:=by
     rintro(⟨i,s2,_,hs2,ho2,hw2⟩|hlt)
     ·exact hnw i s2 hs2 ho2 hw2
     ·simp only at hwn;omega
    have hfl:(cm.filter (fun p=>decide (p.2≤s.wh))).getLast? =some p:=by
     obtain⟨l,rfl⟩: ∃l,cm=l++[p]:=by
      refine⟨cm.dropLast,?_⟩
      have h0:cm≠[]:=fun e=>by rw[e] at hc;cases hc
      have h1:=List.dropLast_concat_getLast h0
      have h2:=List.getLast?_eq_some_getLast h0
      rw[hc] at h2;injection h2 with h2
      rw[h2,h1]
     rw[List.filter_append]
     have:List.filter (fun p=>decide (p.2≤s.wh)) [p]=[p]:=by simp[hle]
     rw[this,List.getLast?_append];rfl
    refine⟨fun e=>absurd e hno,fun _=>Or.inr ⟨p.1,hl,?_,?_⟩⟩
    ·exact(hmem p.1 (hin p.1 hl)).2 (by rw[if_neg (by simp),List.append_nil];exact List.mem_map.2 ⟨p,List.mem_of_getLast? hfl,rfl⟩)
    ·rw[←hval]
     unfold lastV
     rw[List.getLast?_map,hfl];rfl
   ·have hyes:ConfP q k s κ:=Or.inr (by simp only at hwn;omega)
    refine⟨fun _=>⟨p.1,hl,?_⟩,fun e=>absurd hyes e⟩
    cases hsv:m.sees s.mn s.mx (onI s) x p.1.wr with
    |false=>rfl
    |true=>
     exfalso
     have h1:=(hmem p.1 (hin p.1 hl)).1 hsv
     rw[if_neg (by simp),List.append_nil] at h1
     obtain⟨p2,hp2,e⟩:=List.mem_map.1 h1
     obtain⟨hp2m,hp2l⟩:=List.mem_filter.1 hp2
     obtain⟨u,j,hf,_,hσ⟩:=h3.com p hp
     obtain⟨u2,j2,hf2,_,hσ2⟩:=h3.com p2 hp2m
     rw[e,hf] at hf2
     injection hf2 with hf2
     injection hf2 with e1 e2
     subst e1
     simp only[decide_eq_true_eq] at hp2l
     omega
end
theorem Lf.stand {m m':Mg} {q:Mo} {σ:Nat→Nat} {K K':Nat→List Vn} (h:Lf m m' q σ K K') {κ:Nat} (hκ:κ<6):(K κ).filter (fun v=>m.state v.wr !=4)=(K κ).filter (fun v=>m'.state v.wr !=4):=by
 refine List.filter_congr (fun v hv=>?_)
 cases e:fnd m.tx v.wr with
 |none=>
  have h1:=h.fo κ hκ v hv e
  rw[h1]
  unfold Mg.state
  rw[e];rfl
 |some r=>
  obtain⟨t,i⟩:=r
  have h1:=h.fg.kp _ _ _ e
  unfold Mg.state
  rw[e,h1]
theorem Lf.write {m m':Mg} {q:Mo} {σ:Nat→Nat} {K K':Nat→List Vn} (h:Lf m m' q σ K K') (hI:Inv m' q K' σ) {k:Nat} {s:Se} (hs:q.l[k]? =some s) (ho:s.op=true) (hpp:s.pp=false) {t:Tx} (ht:SesTx m' s t) {x i:Int} (hx:fnd m.tx x=some (t,i)) {κ:Nat} (hκ:κ<6):
  (ConfP q k s κ→ ∃v,((K κ).filter (fun v=>m.state v.wr !=4)).getLast? =some v∧m.sees s.mn s.mx (onI s) x v.wr=false)∧
  (¬ConfP q k s κ→(((K κ).filter (fun v=>m.state v.wr !=4)).getLast? =none∧seesS s κ=0)∨ ∃v,((K κ).filter (fun v=>m.state v.wr !=4)).getLast? =some v∧m.sees s.mn s.mx (onI s) x v.wr=true∧v.val=seesS s κ):=by
 obtain⟨cm,o,cm0,h1,h2,h3⟩:=h.key κ hκ
 have hd:=write_decS hI hs ho hpp ht (h.fg.kp _ _ _ hx) h1 h2 h3
 have hsame: ∀v,((K κ).filter (fun v=>m'.state v.wr !=4)).getLast? =some v→m.sees s.mn s.mx (onI s) x v.wr=m'.sees s.mn s.mx (onI s) x v.wr:=fun v hv=>by
  have hm:v∈K κ:=(List.mem_filter.1 (List.mem_of_getLast? hv)).1
  exact sees_same hI.wf h.fg hs ho hpp (h.sn k s hs ho) hx ht.lt3.2 (h3.has v hm) (h.fo κ hκ v hm)
 rw[h.stand hκ]
 refine⟨fun e=>?_,fun e=>?_⟩
 ·obtain⟨v,e1,e2⟩:=hd.1 e
  exact⟨v,e1,by rw[hsame v e1];exact e2⟩
 ·rcases hd.2 e with e1|⟨v,e1,e2,e3⟩
  ·exact .inl e1
  ·exact .inr ⟨v,e1,by rw[hsame v e1];exact e2,e3⟩
end Go.Proofs.YtppokgdofgigfaaGreat.F
