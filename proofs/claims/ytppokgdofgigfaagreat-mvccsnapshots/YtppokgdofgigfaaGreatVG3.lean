import Derived.Test.YtppokgdofgigfaaGreatFV1
import Derived.Test.YtppokgdofgigfaaGreatFH
namespace Go.Proofs.YtppokgdofgigfaaGreat.F
open Go.RowKit Go Go.Sort
section
variable {m m':Mg} {q:Mo} {K K':Nat→List Vn} {σ:Nat→Nat} {k:Nat} {s:Se} {t:Tx}
theorem get_eqL (hL:Lf m m' q σ K K') (hI:Inv m' q K' σ) (hs:q.l[k]? =some s) (ho:s.op=true) (hpp:s.pp=false) (ht:SesTx m' s t) {x i:Int} (hx:fnd m.tx x=some (t,i)) {κ:Nat} (hκ:κ<6):
  (getV m s.mn s.mx (onI s) x ((K κ).map ver)=none∧seesS s κ=0)∨ ∃(n:Nat) (wr:Int),getV m s.mn s.mx (onI s) x ((K κ).map ver)=some ⟨wr,true,1,rowC n⟩∧seesS s κ=n+1:=by
 obtain⟨cm,o,cm0,k1,k2,_,h1⟩:=hL.seen hI hs ho hpp ht hx hκ
 have h2:=Lf.val k1 k2 hs ho hpp
 rw[←h1] at h2
 have h3:((K κ).map ver).reverse.find? (fun v=>m.sees s.mn s.mx (onI s) x v.wr)=(((K κ).filter (fun v=>m.sees s.mn s.mx (onI s) x v.wr)).getLast?).map ver:=find_last9 (K κ) ver (fun v=>m.sees s.mn s.mx (onI s) x v.wr)
 unfold getV
 rw[h3]
 unfold lastV at h2
 cases hl:((K κ).filter (fun v=>m.sees s.mn s.mx (onI s) x v.wr)).getLast? with
 |none=>rw[hl] at h2;exact Or.inl ⟨rfl,h2.symm⟩
 |some v=>
  rw[hl] at h2
  have h2:v.val=seesS s κ:=h2
  unfold Vn.val at h2
  simp only[Option.map_some,ver]
  cases hg:v.gone with
  |true=>
   rw[hg] at h2
   exact Or.inl ⟨rfl,h2.symm⟩
  |false=>
   rw[hg] at h2
   exact Or.inr ⟨v.n,v.wr,rfl,h2.symm⟩
theorem ins_eqL (hL:Lf m m' q σ K K') (hI:Inv m' q K' σ) (hs:q.l[k]? =some s) (ho:s.op=true) (hpp:s.pp=false) (ht:SesTx m' s t) {x i:Int} (hx:fnd m.tx x=some (t,i)) {κ:Nat} (hκ:κ<6):insE m s.mn s.mx (onI s) x ((K κ).map ver)=wantE q k s κ true:=by
 obtain⟨h1,h2⟩:=hL.write hI hs ho hpp ht hx hκ
 have hc:=confB_iff q hI.ln k s κ
 unfold insE wantE
 rw[std_eq]
 by_cases hC:ConfP q k s κ
 ·rw[hc.2 hC]
  obtain⟨v,e1,e2⟩:=h1 hC
  rw[e1]
  show(if m.sees s.mn s.mx (onI s) x (v.wr:Int) then _ else _)=_
  rw[e2];rfl
 ·have hcf:confB q k s κ=false:=by
   cases e:confB q k s κ with
   |false=>rfl
   |true=>exact absurd (hc.1 e) hC
  rw[hcf]
  rcases h2 hC with⟨e1,e2⟩|⟨v,e1,e2,e3⟩
  ·rw[e1,e2];rfl
  ·rw[e1]
   show(if m.sees s.mn s.mx (onI s) x (v.wr:Int) then(if (ver v).th then 91 else 0) else _)=_
   rw[e2, ←e3]
   unfold Vn.val ver
   cases v.gone<;>rfl
theorem rep_eqL (hL:Lf m m' q σ K K') (hI:Inv m' q K' σ) (hs:q.l[k]? =some s) (ho:s.op=true) (hpp:s.pp=false) (ht:SesTx m' s t) {x i:Int} (hx:fnd m.tx x=some (t,i)) {κ:Nat} (hκ:κ<6):repE m s.mn s.mx (onI s) x ((K κ).map ver)=wantE q k s κ false∧(wantE q k s κ false=0→ ∃(n:Nat) (wr:Int),stdV m ((K κ).map ver)=some ⟨wr,true,1,rowC n⟩∧seesS s κ=n+1):=by
 obtain⟨h1,h2⟩:=hL.write hI hs ho hpp ht hx hκ
 have hc:=confB_iff q hI.ln k s κ
 unfold repE wantE stdV
 rw[std_eq]
 by_cases hC:ConfP q k s κ
 ·rw[hc.2 hC]
  obtain⟨v,e1,e2⟩:=h1 hC
  rw[e1]
  refine⟨?_,fun e=>by cases e⟩
  show(if m.sees s.mn s.mx (onI s) x (v.wr:Int) then _ else _)=_
  rw[e2];rfl
 ·have hcf:confB q k s κ=false:=by
   cases e:confB q k s κ with
   |false=>rfl
   |true=>exact absurd (hc.1 e) hC
  rw[hcf]
  rcases h2 hC with⟨e1,e2⟩|⟨v,e1,e2,e3⟩
  ·rw[e1,e2]
   exact⟨rfl,fun e=>by cases e⟩
  ·rw[e1]
   rw[←e3]
   unfold Vn.val
   cases hg:v.gone with
   |true=>
    refine⟨?_,fun e=>by cases e⟩
    show(if m.sees s.mn s.mx (onI s) x (v.wr:Int) then(if (ver v).th then 0 else 90) else _)=_
    rw[e2]
    have:(ver v).th=false:=by unfold ver;rw[hg];rfl
    rw[this];rfl
   |false=>
    refine⟨?_,fun _=>⟨v.n,v.wr,?_,rfl⟩⟩
    ·show(if m.sees s.mn s.mx (onI s) x (v.wr:Int) then(if (ver v).th then 0 else 90) else _)=_
     rw[e2]
     have:(ver v).th=true:=by unfold ver;rw[hg];rfl
     rw[this];rfl
    ·show some (ver v)=_
     unfold ver
     rw[hg];rfl
theorem Fg.ses (h:Fg m m' q) (hw:Wf m) (ht:SesTx m s t):SesTx m' s t:=
 ⟨(fnd_mem (h.kp _ _ _ (hw.fnd_tx ht.mem))).1,ht.x,ht.st,ht.ps⟩
theorem Lf.iv (hL:Lf m m' q σ K K') (hI:Inv m' q K' σ) (hw:Wf m):Iv m q K:=
 ⟨hw,fun hs ho hpp _ ht _ _ hx _ hκ=>get_eqL hL hI hs ho hpp (hL.fg.ses hw ht) hx hκ,fun hs ho hpp _ ht _ _ hx _ hκ=>ins_eqL hL hI hs ho hpp (hL.fg.ses hw ht) hx hκ,fun hs ho hpp _ ht _ _ hx _ hκ=>rep_eqL hL hI hs ho hpp (hL.fg.ses hw ht) hx hκ⟩
theorem Lf.refl (hI:Inv m q K σ) (hsn: ∀(k:Nat) (s:Se),q.l[k]? =some s→s.op=true→Sn s):Lf m m q σ K K:=by
 refine⟨⟨fun _ _ _ e=>e,fun n t i e e2=>by rw[e] at e2;cases e2⟩,hsn,fun κ hκ v hv e=>?_,fun κ hκ=>?_⟩
 ·obtain⟨cm,o,hk⟩:=hI.key κ hκ
  obtain⟨u,i,hu⟩:=hk.has v hv
  rw[hu] at e;cases e
 ·obtain⟨cm,o,hk⟩:=hI.key κ hκ
  refine⟨cm,o,cm,hk,⟨List.Sublist.refl _,.inl rfl,fun _ _ _ _ _=>.inl rfl⟩,hk.has,hk.eq,hk.com,fun k' e=>?_⟩
  obtain⟨s',h1,h2,h3,_⟩:=hk.ow k' e
  exact⟨s',h1,h2,h3⟩
end
end Go.Proofs.YtppokgdofgigfaaGreat.F
namespace Go.Proofs.YtppokgdofgigfaaGreat.F
def topX (m:Mg) (n:Int):Nat:=match fnd m.tx n with
 |some (t,_)=>t.x
 |none=>0
theorem Inv.own3 {m:Mg} {q:Mo} {K:Nat→List Vn} {σ:Nat→Nat} (hI:Inv m q K σ) {κ:Nat} {o:Option Nat} (ho: ∀(k:Nat),o=some k→ ∃s,q.l[k]? =some s∧s.op=true∧wroteS s κ=true): ∀v∈ownO q o κ,(m.state v.wr==3)=false:=fun v hv=>by
 cases o with
 |none=>cases hv
 |some k=>
  obtain⟨s,hs,hop,_⟩:=ho k rfl
  have e1:ownO q (some k) κ=ownV s κ:=by simp only[ownO,hs]
  rw[e1] at hv
  obtain⟨t,ht⟩:=(hI.ses k s hs hop).tx
  obtain⟨j,_,_,_,_,hf,h3⟩:=hI.tops hs hop ht hv
  have:=ht.lt3
  unfold Mg.state
  rw[hf,h3]
  rw[beq_eq_false_iff_ne]
  omega
end Go.Proofs.YtppokgdofgigfaaGreat.F
namespace Go.Proofs.YtppokgdofgigfaaGreat.F
open Go.RowKit Go Go.Sort
structure Sp where
 mn:Int
 mx:Int
 on:List Int
def onB (m:Mg) (n:Int):Bool:=decide (m.state n=1∨m.state n=2)
def kdB (m:Mg):Option Sp→Int→Bool
 |none,n=>decide (m.state n=3∨m.state n=0)
 |some s,n=>m.sees s.mn s.mx s.on 0 n
def kds (l:List Sp):List (Option Sp):=none::l.map some
def gfa (m:Mg) (l:List Sp) (v:Ver):Bool:= !v.th && (kds l).all (fun x=>kdB m x v.wr)
def needV (m:Mg) (l:List Sp) (c:List Ver):List Ver:=(keepL (fun v=>onB m v.wr) ((kds l).map (fun x v=>kdB m x v.wr)) c).dropWhile (gfa m l)
def needN (m:Mg) (l:List Sp) (c:List Vn):List Vn:=(keepL (fun v=>onB m v.wr) ((kds l).map (fun x v=>kdB m x v.wr)) c).dropWhile (fun v=>v.gone && (kds l).all (fun x=>kdB m x v.wr))
theorem needV_map (m:Mg) (l:List Sp) (c:List Vn):needV m l (c.map ver)=(needN m l c).map ver:=by
 unfold needV needN
 rw[keepL_map,List.map_map,List.dropWhile_map]
 congr 2
 funext v
 show gfa m l (ver v)=_
 unfold gfa ver
 cases v.gone<;>rfl
theorem needN_sub (m:Mg) (l:List Sp) (c:List Vn):(needN m l c).Sublist c:=(List.dropWhile_sublist _).trans (keepL_sub _ _ c)
def opn (q:Mo):List Se:=q.l.filter (fun s=>s.op && !s.pp)
def spS (s:Se):Sp:=⟨s.mn,s.mx,onI s⟩
def spL (q:Mo):List Sp:=(opn q).map spS
theorem opn_mem {q:Mo} {s:Se} (h:s∈opn q): ∃k:Nat,q.l[k]? =some s∧s.op=true∧s.pp=false:=by
 obtain⟨h1,h2⟩:=List.mem_filter.1 h
 obtain⟨k,hk⟩:=List.mem_iff_getElem?.1 h1
 simp only[Bool.and_eq_true,Bool.not_eq_true'] at h2
 exact⟨k,hk,h2.1,h2.2⟩
theorem opn_of {q:Mo} {k:Nat} {s:Se} (hs:q.l[k]? =some s) (ho:s.op=true) (hpp:s.pp=false):s∈opn q:=List.mem_filter.2 ⟨List.mem_of_getElem? hs,by rw[ho,hpp];rfl⟩
def kdN (m':Mg) (σ:Nat→Nat):Option Se→Vn→Bool
 |none,v=>m'.state v.wr==3
 |some s,v=>(m'.state v.wr==3) && decide (σ (topX m' v.wr)≤s.wh)
def kdS (q:Mo):List (Option Se):=none::(opn q).map some
def nice (m':Mg) (σ:Nat→Nat) (q:Mo) (c:List Vn):List Vn:=(keepL (fun v=>onB m' v.wr) ((kdS q).map (kdN m' σ)) c).dropWhile (fun v=>v.gone && (kdS q).all (fun x=>kdN m' σ x v))
theorem zero_none {m:Mg} (h:Wf m):fnd m.tx 0=none:=fnd_no (fun t ht=>⟨by have:=h.lo t ht;omega,fun p hp=>by have:=h.pl t ht p hp;omega⟩)
section
variable {m m':Mg} {q:Mo} {σ:Nat→Nat} {K K':Nat→List Vn}
theorem st_of (hw:Wf m') {n:Int} {t:Tx} {i:Int} (h:fnd m'.tx n=some (t,i)):1≤m'.state n∧(m'.state n=3→t.st=3):=by
 have h1:=hw.st t (fnd_mem h).1
 unfold Mg.state
 rw[h,stE_eq]
 split
 ·exact⟨by omega,fun e=>by omega⟩
 ·exact⟨h1.1,fun e=>e⟩
theorem Lf.st (hL:Lf m m' q σ K K') {κ:Nat} (hκ:κ<6) {v:Vn} (hv:v∈K κ):(fnd m.tx v.wr=none∧m.state v.wr=0∧m'.state v.wr=3)∨((∃r,fnd m.tx v.wr=some r∧fnd m'.tx v.wr=some r)∧m.state v.wr=m'.state v.wr):=by
 cases h:fnd m.tx v.wr with
 |none=>exact .inl ⟨rfl,by unfold Mg.state;rw[h];rfl,hL.fo κ hκ v hv h⟩
 |some r=>
  obtain⟨t,i⟩:=r
  have h2:=hL.fg.kp _ _ _ h
  exact .inr ⟨⟨_,rfl,h2⟩,by unfold Mg.state;rw[h,h2]⟩
theorem Lf.onB (hL:Lf m m' q σ K K') {κ:Nat} (hκ:κ<6) {v:Vn} (hv:v∈K κ):F.onB m v.wr=F.onB m' v.wr:=by
 unfold F.onB
 rcases hL.st hκ hv with⟨_,e1,e2⟩|⟨_,e⟩
 ·rw[e1,e2];rfl
 ·rw[e]
theorem Lf.kd (hL:Lf m m' q σ K K') (hI:Inv m' q K' σ) (hw:Wf m) {κ:Nat} (hκ:κ<6) {v:Vn} (hv:v∈K κ) (x:Option Se) (hx: ∀s,x=some s→ ∃k:Nat,q.l[k]? =some s∧s.op=true∧s.pp=false):kdB m (x.map spS) v.wr=kdN m' σ x v:=by
 obtain⟨cm,o,cm0,_,_,hk⟩:=hL.key κ hκ
 obtain⟨t,i,hf⟩:=hk.has v hv
 obtain⟨s1,s3⟩:=st_of hI.wf hf
 cases x with
 |none=>
  show decide (m.state v.wr=3∨m.state v.wr=0)=(m'.state v.wr==3)
  rcases hL.st hκ hv with⟨_,e1,e2⟩|⟨_,e⟩
  ·rw[e1,e2];rfl
  ·rw[e,Bool.eq_iff_iff,decide_eq_true_eq,beq_iff_eq];omega
 |some s=>
  obtain⟨k,hs,ho,hpp⟩:=hx s rfl
  show m.sees s.mn s.mx (onI s) 0 v.wr=((m'.state v.wr==3) && decide (σ (topX m' v.wr)≤s.wh))
  have htop:topX m' v.wr=t.x:=by unfold topX;rw[hf]
  have hmem:((t.x:Int)∈onI s) ↔ t.x∈s.on:=by
   unfold onI
   simp only[List.mem_map]
   constructor
   ·rintro⟨a,ha,e⟩
    have:a=t.x:=by injection e
    rw[←this];exact ha
   ·exact fun h=>⟨_,h,rfl⟩
  have hvis:=(hI.vis k s hs ho t (fnd_mem hf).1).1
  unfold visT at hvis
  have hux:(t.x:Int)≤v.wr:=by
   obtain⟨hm,⟨_,e⟩|⟨r,p,_,_,hp,e,_⟩⟩:=fnd_mem hf
   ·omega
   ·have:=hI.wf.pl t hm p (List.mem_of_getElem? hp);omega
  have h1v:=(hI.wf.fnd_lt hf).1
  rw[htop]
  rcases hL.st hκ hv with⟨e0,e1,e2⟩|⟨⟨r,e0,e1⟩,e2⟩
  ·have hlt:=hL.fg.fg _ t i hf e0 k s hs ho hpp
   have hsn:=hL.sn k s hs ho
   have hmx:=hsn.le
   have hno:t.x ∉ s.on:=fun e=>by have:=hsn.on _ e;omega
   have hle:=(hvis (s3 e2)).1 ⟨by omega,hno⟩
   unfold Mg.sees
   rw[e0,e2]
   have d1:decide (1≤(v.wr:Int))=true:=decide_eq_true h1v
   have d2:decide ((v.wr:Int)<(s.mn:Int))=true:=decide_eq_true hlt
   simp only[d1,d2,decide_eq_true hle];rfl
  ·rw[hf] at e1
   injection e1 with e1
   subst e1
   unfold Mg.sees
   rw[e0,zero_none hw]
   simp only[sameTx]
   have hst:m'.state v.wr=stE (some (t,i)):=by unfold Mg.state;rw[hf]
   rw[hst]
   rw[hst] at s3
   by_cases h3:stE (some (t,i))=3
   ·have hv3:=hvis (s3 h3)
    rw[h3]
    by_cases hle:σ t.x≤s.wh
    ·have:=hv3.2 hle
     simp[hle,this.1,hmem,this.2]
    ·have: ¬(t.x<s.mx∧t.x ∉ s.on):=fun e=>hle (hv3.1 e)
     by_cases hlt:t.x<s.mx
     ·have hin:t.x∈s.on:=Classical.byContradiction fun e=>this ⟨hlt,e⟩
      simp[hmem,hin,hle]
     ·simp[hlt,hle]
   ·simp[h3]
theorem all_congr {α:Type} {l:List α} {f g:α→Bool} (h: ∀x∈l,f x=g x):l.all f=l.all g:=by
 rw[Bool.eq_iff_iff,List.all_eq_true,List.all_eq_true]
 exact⟨fun e x hx=>by rw[←h x hx];exact e x hx,fun e x hx=>by rw[h x hx];exact e x hx⟩
theorem kds_eq (q:Mo):kds (spL q)=(kdS q).map (Option.map spS):=by
 unfold kds kdS spL
 simp[List.map_map]
theorem kdS_ok {q:Mo} {x:Option Se} (hx:x∈kdS q) (s:Se) (e:x=some s): ∃k:Nat,q.l[k]? =some s∧s.op=true∧s.pp=false:=by
 subst e
 rcases List.mem_cons.1 hx with e|hx
 ·cases e
 ·obtain⟨s2,h2,e⟩:=List.mem_map.1 hx
  injection e with e
  rw[←e];exact opn_mem h2
theorem drop_congr {α:Type} {f g:α→Bool} : ∀ {l:List α},(∀v∈l,f v=g v)→l.dropWhile f=l.dropWhile g
 |[],_=>rfl
 |v::r,h=>by
  have h0:=h v List.mem_cons_self
  cases hg:g v with
  |true=>rw[List.dropWhile_cons_of_pos (by rw[h0];exact hg),List.dropWhile_cons_of_pos hg];exact drop_congr (fun u hu=>h u (List.mem_cons_of_mem _ hu))
  |false=>rw[List.dropWhile_cons_of_neg (by rw[h0,hg];simp),List.dropWhile_cons_of_neg (by rw[hg];simp)]
theorem Lf.nice (hL:Lf m m' q σ K K') (hI:Inv m' q K' σ) (hw:Wf m) {κ:Nat} (hκ:κ<6):needN m (spL q) (K κ)=F.nice m' σ q (K κ):=by
 unfold needN F.nice
 rw[kds_eq,List.map_map]
 have e1:keepL (fun v:Vn=>F.onB m v.wr) ((kdS q).map ((fun x (v:Vn)=>kdB m x v.wr) ∘ Option.map spS)) (K κ)=keepL (fun v:Vn=>F.onB m' v.wr) ((kdS q).map (kdN m' σ)) (K κ):=by
  refine keepL_congr (fun v hv=>⟨hL.onB hκ hv,fun x hx=>?_⟩)
  exact hL.kd hI hw hκ hv x (fun s e=>kdS_ok hx s e)
 rw[e1]
 refine drop_congr (fun v hv=>?_)
 have hv:=(keepL_sub _ _ _).subset hv
 rw[List.all_map]
 congr 1
 exact all_congr (fun x hx=>hL.kd hI hw hκ hv x (fun s e=>kdS_ok hx s e))
end
theorem nice_fix (m':Mg) (σ:Nat→Nat) (q:Mo) (c:List Vn):nice m' σ q (nice m' σ q c)=nice m' σ q c:=by
 unfold nice
 rw[keepL_drop _ (keepL_fix _ _ c),drop_fix]
theorem nice_sub (m':Mg) (σ:Nat→Nat) (q:Mo) (c:List Vn):(nice m' σ q c).Sublist c:=(List.dropWhile_sublist _).trans (keepL_sub _ _ c)
theorem drop_app {α:Type} {g:α→Bool} {b:List α} (hb: ∀v∈b,g v=false): ∀a:List α,(a++b).dropWhile g=a.dropWhile g++b
 |[]=>by
  cases b with
  |nil=>rfl
  |cons v r=>
   have:=hb v List.mem_cons_self
   rw[List.nil_append,List.dropWhile_cons_of_neg (by rw[this];simp)];rfl
 |v::a=>by
  rw[List.cons_append]
  cases hg:g v with
  |true=>rw[List.dropWhile_cons_of_pos hg,List.dropWhile_cons_of_pos hg];exact drop_app hb a
  |false=>rw[List.dropWhile_cons_of_neg (by rw[hg];simp),List.dropWhile_cons_of_neg (by rw[hg];simp)];rfl
section
variable {m m':Mg} {q:Mo} {σ:Nat→Nat} {K K':Nat→List Vn}
theorem Inv.own12 (hI:Inv m q K σ) {κ:Nat} {o:Option Nat} (ho: ∀(k:Nat),o=some k→ ∃s,q.l[k]? =some s∧s.op=true∧wroteS s κ=true): ∀v∈ownO q o κ,m.state v.wr=1∨m.state v.wr=2:=fun v hv=>by
 cases o with
 |none=>cases hv
 |some k=>
  obtain⟨s,hs,hop,_⟩:=ho k rfl
  have e1:ownO q (some k) κ=ownV s κ:=by simp only[ownO,hs]
  rw[e1] at hv
  obtain⟨t,ht⟩:=(hI.ses k s hs hop).tx
  obtain⟨j,_,_,_,_,hf,h3⟩:=hI.tops hs hop ht hv
  have:=ht.lt3
  unfold Mg.state
  rw[hf,h3]
  omega
def stp (m':Mg) (σ:Nat→Nat) (v:Vn):Vn×Nat:=(v,σ (topX m' v.wr))
theorem stp_fst (m':Mg) (σ:Nat→Nat) (l:List Vn):(l.map (stp m' σ)).map (·.1)=l:=by
 rw[List.map_map];exact List.map_id _
theorem stp_filter (m':Mg) (σ:Nat→Nat) (wh:Nat) (l:List Vn):(l.map (stp m' σ)).filter (fun p=>decide (p.2≤wh))=(l.filter (fun v=>decide (σ (topX m' v.wr)≤wh))).map (stp m' σ):=by
 rw[List.filter_map];rfl
theorem KS.vac (hI:Inv m' q K' σ) {κ:Nat} {c:List Vn} {cm cm0:List (Vn×Nat)} {o:Option Nat} (hk:KS m' q σ κ c cm0 o) (hr:CR q cm cm0):
  ∃cm1,KS m' q σ κ (nice m' σ q c) cm1 o∧CR q cm cm1∧ ∀v∈nice m' σ q c,m'.state v.wr≠4:=by
 obtain⟨A,hA⟩: ∃A,A=cm0.map (·.1):=⟨_,rfl⟩
 obtain⟨O,hO⟩: ∃O,O=ownO q o κ:=⟨_,rfl⟩
 have hco: ∀p∈cm0,m'.state p.1.wr=3∧stp m' σ p.1=p:=fun p hp=>by
  obtain⟨t,i,hf,e3,hs⟩:=hk.com p hp
  refine⟨by unfold Mg.state;rw[hf];exact e3,?_⟩
  show(p.1,σ (topX m' p.1.wr))=p
  have:topX m' p.1.wr=t.x:=by unfold topX;rw[hf]
  rw[this,hs]
 have hA3: ∀v∈A,m'.state v.wr=3:=fun v hv=>by
  rw[hA] at hv
  obtain⟨p,hp,rfl⟩:=List.mem_map.1 hv
  exact(hco p hp).1
 have hcm:cm0=A.map (stp m' σ):=by
  rw[hA,List.map_map]
  exact((List.map_congr_left (fun p hp=>(hco p hp).2)).trans (List.map_id _)).symm
 have hO12: ∀v∈O,m'.state v.wr=1∨m'.state v.wr=2:=by rw[hO];exact hI.own12 hk.ow
 have heq:c.filter (fun v=>m'.state v.wr !=4)=A++O:=by rw[hA,hO];exact hk.eq
 have hk3: ∀x v,kdN m' σ x v=true→m'.state v.wr=3:=fun x v e=>by
  cases x with
  |none=>simpa[kdN] using e
  |some s=>simp only[kdN,Bool.and_eq_true,beq_iff_eq] at e;exact e.1
 have hkO: ∀x, ∀v∈O,kdN m' σ x v=false:=fun x v hv=>by
  cases e:kdN m' σ x v with
  |false=>rfl
  |true=>have:=hk3 x v e;have:=hO12 v hv;omega
 have hP4: ∀v∈c,(m'.state v.wr !=4)=false→F.onB m' v.wr=false∧ ∀p∈(kdS q).map (kdN m' σ),p v=false:=fun v _ e=>by
  have e4:m'.state v.wr=4:=by simpa using e
  refine⟨by unfold F.onB;rw[e4];rfl,fun p hp=>?_⟩
  obtain⟨x,_,rfl⟩:=List.mem_map.1 hp
  cases e:kdN m' σ x v with
  |false=>rfl
  |true=>have:=hk3 x v e;omega
 obtain⟨B,hB⟩: ∃B,B=keepL (fun v=>F.onB m' v.wr) ((kdS q).map (kdN m' σ)) A:=⟨_,rfl⟩
 have hkeep:keepL (fun v=>F.onB m' v.wr) ((kdS q).map (kdN m' σ)) c=B++O:=by
  rw[←keepL_filter hP4,heq,keepL_app (fun v hv p hp=>by
   obtain⟨x,_,rfl⟩:=List.mem_map.1 hp
   exact hkO x v hv),keepL_all (b:=O) (fun v hv=>by unfold F.onB;exact decide_eq_true (hO12 v hv)),hB]
 obtain⟨g,hg⟩: ∃g:Vn→Bool,g=fun v=>v.gone && (kdS q).all (fun x=>kdN m' σ x v):=⟨_,rfl⟩
 have hgO: ∀v∈O,g v=false:=fun v hv=>by
  rw[hg]
  have:(kdS q).all (fun x=>kdN m' σ x v)=false:=by
   rw[List.all_eq_false]
   exact⟨none,List.mem_cons_self,by rw[hkO none v hv];simp⟩
  show(v.gone && _)=false
  rw[this,Bool.and_false]
 obtain⟨D,hD⟩: ∃D,D=B.dropWhile g:=⟨_,rfl⟩
 have hn:nice m' σ q c=D++O:=by
  unfold nice
  rw[hkeep, ←hg,drop_app hgO,hD]
 have hDB:D.Sublist B:=by rw[hD];exact List.dropWhile_sublist _
 have hBA:B.Sublist A:=by rw[hB];exact keepL_sub _ _ _
 have hDA:=hDB.trans hBA
 have h4: ∀v∈D++O,m'.state v.wr≠4:=fun v hv=>by
  rcases List.mem_append.1 hv with hv|hv
  ·have:=hA3 v (hDA.subset hv);omega
  ·have:=hO12 v hv;omega
 have hq: ∀x∈kdS q,kdN m' σ x∈(kdS q).map (kdN m' σ):=fun x hx=>List.mem_map.2 ⟨x,hx,rfl⟩
 have hA1: ∀l:List Vn,(∀v∈l,v∈A)→l.filter (kdN m' σ none)=l:=fun l hl=>List.filter_eq_self.2 (fun v hv=>by show(m'.state v.wr==3)=true;rw[hA3 v (hl v hv)];rfl)
 have hAs: ∀(s:Se) (l:List Vn),(∀v∈l,v∈A)→l.filter (kdN m' σ (some s))=l.filter (fun v=>decide (σ (topX m' v.wr)≤s.wh)):=fun s l hl=>List.filter_congr (fun v hv=>by
  show((m'.state v.wr==3) && _)=_
  rw[hA3 v (hl v hv)];rfl)
 have hg1: ∀z,g z=true→z.gone=true∧ ∀x∈kdS q,kdN m' σ x z=true:=fun z hz=>by
  rw[hg] at hz
  have hz:(z.gone && (kdS q).all (fun x=>kdN m' σ x z))=true:=hz
  rw[Bool.and_eq_true,List.all_eq_true] at hz
  exact hz
 rw[hn]
 refine⟨D.map (stp m' σ),⟨fun v hv=>hk.has v ?_,?_,fun p hp=>?_,hk.ow⟩,⟨?_,?_,fun k s hs ho hpp=>?_⟩,h4⟩
 ·rw[←hn] at hv
  exact(nice_sub m' σ q c).subset hv
 ·rw[List.filter_eq_self.2 (fun v hv=>by simpa using h4 v hv),stp_fst,hO]
 ·obtain⟨v,hv,rfl⟩:=List.mem_map.1 hp
  have:stp m' σ v∈cm0:=by rw[hcm];exact List.mem_map.2 ⟨v,hDA.subset hv,rfl⟩
  exact hk.com _ this
 ·have:(D.map (stp m' σ)).Sublist cm0:=by rw[hcm];exact hDA.map _
  exact this.trans hr.sub
 ·have hl:=keepL_last (P:=fun v=>F.onB m' v.wr) (hq none List.mem_cons_self) A
  rw[←hB,hA1 B (fun v hv=>hBA.subset hv),hA1 A (fun _ h=>h)] at hl
  have hd:=drop_last g (kdN m' σ none) B
  rw[←hD,hA1 B (fun v hv=>hBA.subset hv),hA1 D (fun v hv=>hDA.subset hv),hl] at hd
  have hml: ∀l:List Vn,(l.map (stp m' σ)).getLast? =l.getLast?.map (stp m' σ):=fun l=>List.getLast?_map
  have hc0:cm0.getLast? =A.getLast?.map (stp m' σ):=by rw[hcm];exact hml A
  rcases hd with e|⟨e,z,e2,e3⟩
  ·rw[hml D,e, ←hc0]
   rcases hr.nw with h1|⟨h1,h2⟩
   ·exact .inl h1
   ·have:D=[]:=by
     have hA0:A=[]:=by rw[hA,h1];rfl
     rw[hA0] at hDA
     exact List.sublist_nil.1 hDA
    exact .inr ⟨by rw[this];rfl,h2⟩
  ·obtain⟨z1,z2⟩:=hg1 z e3
   refine .inr ⟨by rw[e];rfl,?_⟩
   rcases hr.nw with h1|⟨h1,h2⟩
   ·refine⟨stp m' σ z,by rw[←h1,hc0,e2];rfl,z1,fun k s hs ho hpp=>?_⟩
    have:=z2 (some s) (List.mem_cons_of_mem _ (List.mem_map.2 ⟨s,opn_of hs ho hpp,rfl⟩))
    simp only[kdN,Bool.and_eq_true,decide_eq_true_eq] at this
    exact this.2
   ·exact h2
 ·have hx:some s∈kdS q:=List.mem_cons_of_mem _ (List.mem_map.2 ⟨s,opn_of hs ho hpp,rfl⟩)
  have hl:=keepL_last (P:=fun v=>F.onB m' v.wr) (hq _ hx) A
  have hd:=drop_last g (kdN m' σ (some s)) B
  rw[←hD] at hd
  rw[←hB] at hl
  rw[hl,hAs s A (fun _ h=>h),hAs s D (fun v hv=>hDA.subset hv)] at hd
  have h0:=hr.sn k s hs ho hpp
  rw[hcm,stp_filter] at h0
  rw[stp_filter]
  rcases hd with e|⟨e,z,e2,e3⟩
  ·rw[List.getLast?_map,e, ←List.getLast?_map]
   rcases h0 with h1|⟨h1,h2⟩
   ·exact .inl h1
   ·have h3:=List.map_eq_nil_iff.1 h1
    rw[h3] at e
    have h4:=List.getLast?_eq_none_iff.1 e
    exact .inr ⟨by rw[h4];rfl,h2⟩
  ·refine .inr ⟨by rw[e];rfl,?_⟩
   rcases h0 with h1|⟨h1,h2⟩
   ·refine⟨stp m' σ z,by rw[←h1,List.getLast?_map,e2];rfl,(hg1 z e3).1⟩
   ·exact h2
theorem Lf.vac (hL:Lf m m' q σ K K') (hI:Inv m' q K' σ) (hw:Wf m):Lf m m' q σ (fun κ=>needN m (spL q) (K κ)) K'∧ ∀κ,κ<6→ ∀v∈needN m (spL q) (K κ),m.state v.wr≠4:=by
 refine⟨⟨hL.fg,hL.sn,fun κ hκ v hv e=>hL.fo κ hκ v ((needN_sub _ _ _).subset hv) e,fun κ hκ=>?_⟩,fun κ hκ v hv=>?_⟩
 ·obtain⟨cm,o,cm0,h1,h2,h3⟩:=hL.key κ hκ
  obtain⟨cm1,g1,g2,_⟩:=h3.vac hI h2
  refine⟨cm,o,cm1,h1,g2,?_⟩
  show KS m' q σ κ (needN m (spL q) (K κ)) cm1 o
  rw[hL.nice hI hw hκ]
  exact g1
 ·obtain⟨cm,o,cm0,h1,h2,h3⟩:=hL.key κ hκ
  obtain⟨cm1,_,_,g3⟩:=h3.vac hI h2
  have hv2:=hv
  rw[hL.nice hI hw hκ] at hv2
  have:=g3 v hv2
  rcases hL.st hκ ((needN_sub _ _ _).subset hv) with⟨_,e,_⟩|⟨_,e⟩
  ·omega
  ·rw[e];exact this
end
def Rs (q q2:Mo):Prop:= ∀(k:Nat) (s2:Se),q2.l[k]? =some s2→s2.op=true→(∃s,q.l[k]? =some s∧s.op=true∧(s2.pp=false→s.pp=false)∧s2.mn=s.mn∧s2.mx=s.mx∧s2.on=s.on∧s2.wh=s.wh)∨(s2.wh=q.n∧Sn s2)
structure Tn (m m2:Mg) (q2:Mo) (σ σ2:Nat→Nat):Prop where
 kn: ∀(n:Int) (t:Tx) (i:Int),fnd m.tx n=some (t,i)→ ∃t2,fnd m2.tx n=some (t2,i)∧t2.x=t.x
 s4: ∀(n:Int) (t:Tx) (i:Int),fnd m.tx n=some (t,i)→m.state n=4→m2.state n=4
 s3: ∀(n:Int) (t:Tx) (i:Int),fnd m.tx n=some (t,i)→m.state n=3→m2.state n=3∧σ2 (topX m2 n)=σ (topX m n)
 e3: ∀(n:Int) (t:Tx) (i:Int),fnd m.tx n=some (t,i)→m2.state n=3→m.state n=3∨ ∀(k:Nat) (s2:Se),q2.l[k]? =some s2→s2.op=true→s2.wh<σ2 (topX m2 n)
section
variable {m m' m2 m2':Mg} {q q2:Mo} {σ σ2:Nat→Nat} {K K' K2 K2':Nat→List Vn}
theorem Inv.stamp (hI:Inv m q K σ) {κ:Nat} {c:List Vn} {cm:List (Vn×Nat)} {o:Option Nat} (hk:KS m q σ κ c cm o): ∀p∈cm,p.2≤q.n:=fun p hp=>by
 obtain⟨u,j,hf,h3,hσ⟩:=hk.com p hp
 have hu3:u.st=3:=by
  rw[stE_eq] at h3
  split at h3
  ·cases h3
  ·exact h3
 have:=(hI.com u (fnd_mem hf).1 hu3).2
 omega
theorem KOk.ks {κ:Nat} {c:List Vn} {cm:List (Vn×Nat)} {o:Option Nat} (hk:KOk m q σ κ c cm o):KS m q σ κ c cm o:=
 ⟨hk.has,hk.eq,hk.com,fun k e=>by obtain⟨s,a,b,c,_⟩:=hk.ow k e;exact⟨s,a,b,c⟩⟩
theorem KS.co {κ:Nat} {c:List Vn} {cm:List (Vn×Nat)} {o:Option Nat} (hk:KS m q σ κ c cm o):(∀v∈cm.map (·.1),m.state v.wr=3∧ ∃t i,fnd m.tx v.wr=some (t,i))∧cm=(cm.map (·.1)).map (stp m σ):=by
 have hco: ∀p∈cm,m.state p.1.wr=3∧(∃t i,fnd m.tx p.1.wr=some (t,i))∧stp m σ p.1=p:=fun p hp=>by
  obtain⟨t,i,hf,e3,hs⟩:=hk.com p hp
  refine⟨by unfold Mg.state;rw[hf];exact e3,⟨t,i,hf⟩,?_⟩
  show(p.1,σ (topX m p.1.wr))=p
  have:topX m p.1.wr=t.x:=by unfold topX;rw[hf]
  rw[this,hs]
 refine⟨fun v hv=>?_,?_⟩
 ·obtain⟨p,hp,rfl⟩:=List.mem_map.1 hv
  exact⟨(hco p hp).1,(hco p hp).2.1⟩
 ·rw[List.map_map]
  exact((List.map_congr_left (fun p hp=>(hco p hp).2.2)).trans (List.map_id _)).symm
theorem CR.step {cm cm0 E:List (Vn×Nat)} (h:CR q cm cm0) (hR:Rs q q2) (hn: ∀p∈cm,p.2≤q.n) (hE: ∀p∈E, ∀(k:Nat) (s2:Se),q2.l[k]? =some s2→s2.op=true→s2.wh<p.2):CR q2 (cm++E) (cm0++E):=by
 have hcut: ∀l:List (Vn×Nat), ∀(k:Nat) (s2:Se),q2.l[k]? =some s2→s2.op=true→(l++E).filter (fun p=>decide (p.2≤s2.wh))=l.filter (fun p=>decide (p.2≤s2.wh)):=fun l k s2 hs ho=>by
  rw[List.filter_append]
  have:E.filter (fun p=>decide (p.2≤s2.wh))=[]:=List.filter_eq_nil_iff.2 (fun p hp=>by
   have:=hE p hp k s2 hs ho
   simp;omega)
  rw[this,List.append_nil]
 refine⟨h.sub.append (List.Sublist.refl _),?_,fun k s2 hs ho hpp=>?_⟩
 ·cases hEn:E.getLast? with
  |some z=>rw[List.getLast?_append,List.getLast?_append,hEn];exact .inl rfl
  |none=>
   have e:=List.getLast?_eq_none_iff.1 hEn
   rw[e,List.append_nil,List.append_nil]
   rcases h.nw with h1|⟨h1,p,h2,h3,h4⟩
   ·exact .inl h1
   ·refine .inr ⟨h1,p,h2,h3,fun k s2 hs ho hpp=>?_⟩
    rcases hR k s2 hs ho with⟨s,hs1,ho1,hp1,_,_,_,e6⟩|⟨e6,_⟩
    ·rw[e6];exact h4 k s hs1 ho1 (hp1 hpp)
    ·rw[e6];exact hn p (List.mem_of_getLast? h2)
 ·rw[hcut cm k s2 hs ho,hcut cm0 k s2 hs ho]
  rcases hR k s2 hs ho with⟨s,hs1,ho1,hp1,_,_,_,e6⟩|⟨e6,_⟩
  ·rw[e6];exact h.sn k s hs1 ho1 (hp1 hpp)
  ·rw[e6]
   have hall: ∀l:List (Vn×Nat),(∀p∈l,p∈cm)→l.filter (fun p=>decide (p.2≤q.n))=l:=fun l hl=>List.filter_eq_self.2 (fun p hp=>decide_eq_true (hn p (hl p hp)))
   rw[hall cm (fun _ h=>h),hall cm0 (fun p hp=>h.sub.subset hp)]
   rcases h.nw with h1|⟨h1,p,h2,h3,_⟩
   ·exact .inl h1
   ·exact .inr ⟨h1,p,h2,h3⟩
theorem Lf.step (hI:Inv m' q K' σ) (hI2:Inv m2' q2 K2' σ2) (hL:Lf m m' q σ K K') (hF2:Fg m2 m2' q2) (hgn: ∀(n:Int) (t:Tx) (i:Int),fnd m'.tx n=some (t,i)→fnd m2.tx n=none→fnd m.tx n=none) (hR:Rs q q2) (hT:Tn m' m2' q2 σ σ2)
  (X:Nat→List Vn) (hX: ∀κ,κ<6→ ∀v∈X κ,(∃t i,fnd m2.tx v.wr=some (t,i))∧(m2'.state v.wr=1∨m2'.state v.wr=2)) (hK: ∀κ,κ<6→K2 κ=K κ++X κ) (hK': ∀κ,κ<6→K2' κ=K' κ++X κ):Lf m2 m2' q2 σ2 K2 K2':=by
 refine⟨hF2,fun k s2 hs ho=>?_,fun κ hκ v hv e=>?_,fun κ hκ=>?_⟩
 ·rcases hR k s2 hs ho with⟨s,hs1,ho1,_,e1,e2,e3,_⟩|⟨_,h⟩
  ·have:=hL.sn k s hs1 ho1
   exact⟨by rw[e1,e2];exact this.le,by rw[e1,e3];exact this.on⟩
  ·exact h
 ·rw[hK κ hκ] at hv
  rcases List.mem_append.1 hv with hv|hv
  ·obtain⟨cm,o,cm0,_,_,h3⟩:=hL.key κ hκ
   obtain⟨t,i,hf⟩:=h3.has v hv
   exact(hT.s3 _ t i hf (hL.fo κ hκ v hv (hgn _ t i hf e))).1
  ·obtain⟨⟨t,i,hf⟩,_⟩:=hX κ hκ v hv
   rw[hf] at e;cases e
 ·obtain⟨cm,o,cm0,h1,h2,h3⟩:=hL.key κ hκ
  obtain⟨cm2,o2,g1⟩:=hI2.key κ hκ
  have hxs:=hX κ hκ
  obtain⟨x,hx⟩: ∃x,x=X κ:=⟨_,rfl⟩
  rw[←hx] at hxs
  obtain⟨O,hO⟩: ∃O,O=ownO q o κ:=⟨_,rfl⟩
  obtain⟨O2,hO2⟩: ∃O2,O2=ownO q2 o2 κ:=⟨_,rfl⟩
  obtain⟨n4,hn4⟩: ∃n4:Vn→Bool,n4=fun v=>m2'.state v.wr !=4:=⟨_,rfl⟩
  obtain⟨i3,hi3⟩: ∃i3:Vn→Bool,i3=fun v=>m2'.state v.wr==3:=⟨_,rfl⟩
  obtain⟨a1,a2⟩:=h1.ks.co
  obtain⟨b1,b2⟩:=h3.co
  obtain⟨c1,c2⟩:=g1.ks.co
  obtain⟨A,hA⟩: ∃A,A=cm.map (·.1):=⟨_,rfl⟩
  obtain⟨A0,hA0⟩: ∃A0,A0=cm0.map (·.1):=⟨_,rfl⟩
  obtain⟨A2,hA2⟩: ∃A2,A2=cm2.map (·.1):=⟨_,rfl⟩
  rw[←hA] at a1 a2
  rw[←hA0] at b1 b2
  rw[←hA2] at c1 c2
  have hA03: ∀v∈A++A0,m2'.state v.wr=3∧stp m2' σ2 v=stp m' σ v:=fun v hv=>by
   have h0:m'.state v.wr=3∧ ∃t i,fnd m'.tx v.wr=some (t,i):=by
    rcases List.mem_append.1 hv with hv|hv
    ·exact a1 v hv
    ·exact b1 v hv
   obtain⟨h0,t,i,hf⟩:=h0
   obtain⟨e1,e2⟩:=hT.s3 _ t i hf h0
   exact⟨e1,by show(v,_)=(v,_);rw[e2]⟩
  have cut: ∀(c:List Vn) (cc:List (Vn×Nat)) (B:List Vn),KS m' q σ κ c cc o→B=cc.map (·.1)→(∀v∈B,v∈A++A0)→(c++x).filter n4=B++(O.filter n4++x):=fun c cc B hks hB hm=>by
   have e1:c.filter n4=(c.filter (fun v=>m'.state v.wr !=4)).filter n4:=by
    rw[List.filter_filter]
    refine List.filter_congr (fun v hv=>?_)
    obtain⟨t,i,hf⟩:=hks.has v hv
    cases e:n4 v with
    |false=>rfl
    |true=>
     cases e2:(m'.state v.wr !=4) with
     |true=>rfl
     |false=>
      have e2:m'.state v.wr=4:=by simpa using e2
      have:=hT.s4 _ t i hf e2
      rw[hn4] at e
      simp only[bne_iff_ne,ne_eq] at e
      exact absurd this e
   have e2:B.filter n4=B:=List.filter_eq_self.2 (fun v hv=>by
    rw[hn4]
    show(m2'.state v.wr !=4)=true
    rw[(hA03 v (hm v hv)).1];rfl)
   have e3:x.filter n4=x:=List.filter_eq_self.2 (fun v hv=>by
    rw[hn4]
    have:=(hxs v hv).2
    simp only[bne_iff_ne,ne_eq];omega)
   rw[List.filter_append,e1,hks.eq, ←hB, ←hO,List.filter_append,e2,e3,List.append_assoc]
  have k1:=cut _ cm A h1.ks hA (fun v hv=>List.mem_append_left _ hv)
  have k0:=cut _ cm0 A0 h3 hA0 (fun v hv=>List.mem_append_right _ hv)
  rw[hx, ←hK' κ hκ,hn4,g1.eq, ←hA2, ←hO2, ←hn4, ←hx] at k1
  rw[hx, ←hK κ hκ, ←hx] at k0
  have hO3: ∀v∈O2,i3 v=false:=by
   rw[hO2,hi3]
   exact hI2.own3 (fun k e=>by obtain⟨s,a,b,c,_⟩:=g1.ow k e;exact⟨s,a,b,c⟩)
  have hx3:x.filter i3=[]:=List.filter_eq_nil_iff.2 (fun v hv=>by
   rw[hi3]
   have:=(hxs v hv).2
   simp only[beq_iff_eq];omega)
  obtain⟨E,hE⟩: ∃E,E=(O.filter n4).filter i3:=⟨_,rfl⟩
  have e1:A2=A++E:=by
   have h0:=congrArg (List.filter i3) k1
   rw[List.filter_append,List.filter_append,List.filter_append,hx3,List.append_nil, ←hE] at h0
   rw[List.filter_eq_self.2 (fun v hv=>by rw[hi3];show(m2'.state v.wr==3)=true;rw[(c1 v hv).1];rfl)] at h0
   rw[List.filter_eq_nil_iff.2 (fun v hv=>by rw[hO3 v hv];simp),List.append_nil] at h0
   rw[List.filter_eq_self.2 (fun v hv=>by rw[hi3];show(m2'.state v.wr==3)=true;rw[(hA03 v (List.mem_append_left _ hv)).1];rfl)] at h0
   exact h0
  have e2:O.filter n4++x=E++O2:=by
   rw[e1,List.append_assoc] at k1
   exact(List.append_cancel_left k1).symm
  have hmap: ∀l:List Vn,(∀v∈l,v∈A++A0)→l.map (stp m2' σ2)=l.map (stp m' σ):=fun l hl=>List.map_congr_left (fun v hv=>(hA03 v (hl v hv)).2)
  have e3:cm2=cm++E.map (stp m2' σ2):=by
   rw[c2,e1,List.map_append,hmap A (fun v hv=>List.mem_append_left _ hv), ←a2]
  have hO12: ∀v∈O,m'.state v.wr=1∨m'.state v.wr=2:=by rw[hO];exact hI.own12 h3.ow
  have hOk: ∀v∈O, ∃t i,fnd m'.tx v.wr=some (t,i):=fun v hv=>by
   have:v∈(K κ).filter (fun v=>m'.state v.wr !=4):=by rw[h3.eq, ←hO];exact List.mem_append_right _ hv
   exact h3.has v (List.mem_filter.1 this).1
  have hEO: ∀v∈E,v∈O∧m2'.state v.wr=3:=fun v hv=>by
   rw[hE] at hv
   obtain⟨h5,h6⟩:=List.mem_filter.1 hv
   rw[hi3] at h6
   exact⟨(List.mem_filter.1 h5).1,by simpa using h6⟩
  refine⟨cm2,o2,cm0++E.map (stp m2' σ2),g1,?_,⟨fun v hv=>?_,?_,fun p hp=>?_,g1.ks.ow⟩⟩
  ·rw[e3]
   refine h2.step hR (hI.stamp h1.ks) (fun p hp=>?_)
   obtain⟨v,hv,rfl⟩:=List.mem_map.1 hp
   obtain⟨hvO,hv3⟩:=hEO v hv
   obtain⟨t,i,hf⟩:=hOk v hvO
   rcases hT.e3 _ t i hf hv3 with e|e
   ·have:=hO12 v hvO;omega
   ·exact e
  ·rw[hK κ hκ] at hv
   rcases List.mem_append.1 hv with hv|hv
   ·obtain⟨t,i,hf⟩:=h3.has v hv
    obtain⟨t2,hf2,_⟩:=hT.kn _ t i hf
    exact⟨t2,i,hf2⟩
   ·obtain⟨⟨t,i,hf⟩,_⟩:=hX κ hκ v hv
    exact⟨t,i,hF2.kp _ _ _ hf⟩
  ·rw[←hn4,k0,e2,List.map_append,stp_fst, ←hA0, ←hO2,List.append_assoc]
  ·have hp1:m2'.state p.1.wr=3∧(∃t i,fnd m2'.tx p.1.wr=some (t,i))∧stp m2' σ2 p.1=p:=by
    rcases List.mem_append.1 hp with hp|hp
    ·rw[b2] at hp
     obtain⟨v,hv,rfl⟩:=List.mem_map.1 hp
     obtain⟨t,i,hf⟩:=(b1 v hv).2
     obtain⟨t2,hf2,_⟩:=hT.kn _ t i hf
     obtain⟨f1,f2⟩:=hA03 v (List.mem_append_right _ hv)
     exact⟨f1,⟨t2,i,hf2⟩,f2⟩
    ·obtain⟨v,hv,rfl⟩:=List.mem_map.1 hp
     obtain⟨hvO,hv3⟩:=hEO v hv
     obtain⟨t,i,hf⟩:=hOk v hvO
     obtain⟨t2,hf2,_⟩:=hT.kn _ t i hf
     exact⟨hv3,⟨t2,i,hf2⟩,rfl⟩
   obtain⟨f1,⟨t,i,hf⟩,f2⟩:=hp1
   refine⟨t,i,hf,by unfold Mg.state at f1;rw[hf] at f1;exact f1,?_⟩
   have f3:σ2 (topX m2' p.1.wr)=p.2:=congrArg Prod.snd f2
   have:topX m2' p.1.wr=t.x:=by unfold topX;rw[hf]
   rw[this] at f3;exact f3
end
end Go.Proofs.YtppokgdofgigfaaGreat.F
