import Derived.Test.YtppokgdofgigfaaGreatXPart2
import Derived.Deep.RegionLaw
set_option maxHeartbeats 2000000
set_option maxRecDepth 100000
namespace Go.Proofs.YtppokgdofgigfaaGreat
open Go.RowKit Go Go.Sort
theorem within_step {ps:List Pt} {o a:Int} {k:Nat} {p:Pt} (h:o<a) (hp:ps[a.toNat]? =some p):within ps o (k+1) a=within ps o k p.ar:=by
 simp only[within]
 rw[if_pos h,hp]
theorem within_stop {ps:List Pt} {o a:Int} (k:Nat) (h: ¬o<a):within ps o k a=(a==o):=by
 cases k with
 |zero=>rfl
 |succ k=>simp only[within];rw[if_neg h]
theorem within_congr {ps qs:List Pt} (h:ps.map (·.ar)=qs.map (·.ar)) (o:Int): ∀(k:Nat) (a:Int),within ps o k a=within qs o k a
 |0,_=>rfl
 |k+1,a=>by
  have ih:=within_congr h o k
  have e:(match ps[a.toNat]? with|some p=>p.ar|none=> -1)=(match qs[a.toNat]? with|some p=>p.ar|none=> -1):=by
   have h1:(ps.map (·.ar))[a.toNat]? =(qs.map (·.ar))[a.toNat]? :=by rw[h]
   rw[List.getElem?_map,List.getElem?_map] at h1
   cases hp:ps[a.toNat]? with
   |none=>cases hq:qs[a.toNat]? with
    |none=>rfl
    |some q=>rw[hp,hq] at h1;cases h1
   |some p=>cases hq:qs[a.toNat]? with
    |none=>rw[hp,hq] at h1;cases h1
    |some q=>
     rw[hp,hq] at h1
     simpa using h1
  simp only[within]
  split
  ·rw[ih]
   exact congrArg (within qs o k) e
  ·rfl
theorem within_any (σ:Nat→Option Nat) (tb:Nat) (t:Tx) (a o:Int) (w:World) (h:XB w σ tb t) (h64:t.ps.length≤64) (har: ∀(i:Nat) p,t.ps[i]? =some p→ -1≤p.ar∧p.ar<i) (ha: -1≤a∧a<t.ps.length) (ho:0≤o):
  Calls Tryz.prog 95 #[.pointer (some ⟨tb,0,none⟩),.int .i64 a,.int .i64 o] w fun x w'=>x= .returned (.bool (within t.ps o t.ps.length a))∧w'=w:=by
 obtain⟨v,_,_,c2,hv⟩:=h.c
 obtain⟨ao,cap,rfl⟩:=row_slice hv
 obtain⟨n,hn⟩: ∃n,n=t.ps.length:=⟨_,rfl⟩
 have Hn:Hid (n=t.ps.length):=hn
 rw[←hn] at c2 h64 ha ⊢
 have Hh:Hid (XB w σ tb t):=h
 have Har:Hid _:=har
 obtain⟨r,hr⟩: ∃r,r=within t.ps o n a:=⟨_,rfl⟩
 rw[←hr]
 have Hr:Hid (r=within t.ps o n a):=hr
 have Hc2:Hid (w.cell? ⟨tb,2,none⟩=some (.slice ao n cap)):=c2
 clear hv hn h hr har
 go_enter Tryz.func95,Tryz.ntmps95
 go_wp2_with fail
 go_loopw [1] (fun i wr=> ∃(c:Int) (k:Nat),i= .int .i64 c∧ -1≤c∧c<n∧wr=w∧Hid (c<k∧r=within t.ps o k c)) (fun i _=>(intOf i+1).toNat)
 case atStart=>exact⟨a,n,rfl,ha.1,ha.2,rfl,⟨ha.2,Hr.out⟩⟩
 case round=>
  obtain⟨c,k,rfl,hc1,hc2,hwr,HK⟩:=hrel
  subst hwr
  by_cases hlt:o<c
  ·obtain⟨cn,rfl⟩: ∃cn:Nat,c=cn:=⟨c.toNat,by omega⟩
   have hkl:cn<t.ps.length:=by have:=Hn.out;omega
   obtain⟨p,hp⟩: ∃p,t.ps[cn]? =some p:=⟨_,List.getElem?_eq_getElem hkl⟩
   obtain⟨g,cap',d2,e0,e1,e2⟩:=Hh.out.part hp
   have hpa:=Har.out cn p hp
   have hao:ao=some ⟨g,0,none⟩:=by
    have:=Hc2.out
    rw[d2] at this
    injection this with this
    injection this with this
    exact this.symm
   subst hao
   have HK2:Hid (∃k:Nat,p.ar<k∧r=within t.ps o k p.ar):=by
    obtain⟨h1,h2⟩:=HK.out
    obtain⟨k',rfl⟩: ∃k',k=k'+1:=⟨k - 1,by omega⟩
    exact⟨k',by omega,by rw[h2,within_step hlt (by simpa using hp)]⟩
   have hpn:p.ar<n:=by omega
   obtain⟨pa,hpa'⟩: ∃pa,pa=p.ar:=⟨_,rfl⟩
   rw[←hpa'] at e1 hpa HK2 hpn
   have hcn:(cn:Int)<n:=hc2
   clear hp d2 e0 e2 hpa' hkl
   go_wp2_with fail
   go_roundw
   case rel=>
    obtain⟨k',h1,h2⟩:=HK2.out
    exact⟨pa,k',rfl,by omega,by omega,trivial,⟨h1,h2⟩⟩
   case measure=>simp[intOf];omega
  ·have HE:Hid (r=(c==o)):=by show _=_;rw[HK.out.2,within_stop k hlt]
   go_wp2_with fail
   go_ret
   exact⟨by rw[HE.out];rfl,rfl⟩
def endTo (ps:List Pt) (o:Int) (f k:Nat):List Pt:=ps.mapIdx (fun j p=>if j<k∧within ps o ps.length j=true then { p with ft:=max p.ft f } else p)
theorem endTo_zero (ps:List Pt) (o:Int) (f:Nat):endTo ps o f 0=ps:=by
 apply List.ext_getElem?
 intro j
 simp only[endTo,List.getElem?_mapIdx]
 cases ps[j]? with
 |none=>rfl
 |some p=>simp
theorem endTo_all (ps:List Pt) (o:Int) (f:Nat):endTo ps o f ps.length=endPs ps o f:=by
 apply List.ext_getElem?
 intro j
 simp only[endTo,endPs,List.getElem?_mapIdx]
 cases hp:ps[j]? with
 |none=>rfl
 |some p=>
  have:=(List.getElem?_eq_some_iff.1 hp).1
  simp[this]
theorem endTo_len (ps:List Pt) (o:Int) (f k:Nat):(endTo ps o f k).length=ps.length:=by simp[endTo]
theorem endTo_ar (ps:List Pt) (o:Int) (f k:Nat):(endTo ps o f k).map (·.ar)=ps.map (·.ar):=by
 apply List.ext_getElem?
 intro j
 simp only[endTo,List.getElem?_map,List.getElem?_mapIdx]
 cases ps[j]? with
 |none=>rfl
 |some p=>simp only[Option.map_some];split<;>rfl
theorem endTo_at {ps:List Pt} {k:Nat} {p:Pt} (o:Int) (f:Nat) (hp:ps[k]? =some p):(endTo ps o f k)[k]? =some p:=by
 simp only[endTo,List.getElem?_mapIdx,hp,Option.map_some]
 simp
theorem endTo_skip {ps:List Pt} {k:Nat} {o:Int} (f:Nat) (h:within ps o ps.length k=false):endTo ps o f (k+1)=endTo ps o f k:=by
 apply List.ext_getElem?
 intro j
 simp only[endTo,List.getElem?_mapIdx]
 cases ps[j]? with
 |none=>rfl
 |some p=>
  simp only[Option.map_some]
  by_cases hj:j=k
  ·subst hj;simp[h]
  ·have:j<k+1 ↔ j<k:=by omega
   simp only[this]
theorem endTo_set {ps:List Pt} {k:Nat} {o:Int} {p:Pt} (f:Nat) (hp:ps[k]? =some p) (h:within ps o ps.length k=true):endTo ps o f (k+1)=(endTo ps o f k).set k { p with ft:=max p.ft f } :=by
 apply List.ext_getElem?
 intro j
 have hk:=(List.getElem?_eq_some_iff.1 hp).1
 by_cases hj:j=k
 ·subst hj
  rw[List.getElem?_set_self (by rw[endTo_len];exact hk)]
  simp only[endTo,List.getElem?_mapIdx,hp,Option.map_some]
  simp[h]
 ·rw[List.getElem?_set_ne (fun e=>hj e.symm)]
  simp only[endTo,List.getElem?_mapIdx]
  have:j<k+1 ↔ j<k:=by omega
  simp only[this]
theorem pcl_set: ∀(l:List Pt) (k:Nat) (p:Pt) (f:Nat),l[k]? =some p→pcl (l.set k { p with ft:=f })=(pcl l).set (k*3+2) (.int .i64 f)
 |[],k,p,f,hk=>by simp at hk
 |a::l,0,p,f,hk=>by
  simp only[List.getElem?_cons_zero,Option.some.injEq] at hk
  subst hk
  simp[pcl]
 |a::l,k+1,p,f,hk=>by
  have ih:=pcl_set l k p f (by simpa using hk)
  unfold pcl at ih ⊢
  simp only[List.set_cons_succ,List.flatMap_cons]
  rw[ih,show(k+1)*3+2=(k*3+2)+3 by omega]
  simp
theorem own_set {w:World} {base sz n:Nat} {t:TypeId} {v:Value} {xs:List Value} (h:w.ownsRow base t sz v n xs) {g j:Nat} (hg:v.ownBlock=some g) (u:Value):(w.setCell ⟨g,j,none⟩ u).ownsRow base t sz v n (xs.set j u):=by
 refine⟨by rw[List.length_set];exact h.1,?_⟩
 rcases h.2 with⟨rfl,_⟩|⟨g',cap,cur,rfl,hb,hh,h1,h2,h3,h4⟩
 ·cases hg
 ·have e:g'=g:=by simpa[Value.ownBlock] using hg
  subst e
  refine Or.inr ⟨g',cap,_,rfl,hb,blk_set hh u,h1,h2,by rw[Array.size_setIfInBounds];exact h3,?_⟩
  rw[Array.toList_setIfInBounds,List.take_set,h4]
def Mg.endp (m:Mg) (x:Nat) (o:Int) (f:Nat):Mg:=⟨m.nx,m.on,upd m.tx x (fun t=> { t with ps:=endPs t.ps o f })⟩
theorem Wf.endp {m:Mg} (h:Wf m) (x:Nat) (o:Int) {f:Nat} (hf:f≤2):Wf (m.endp x o f):=by
 have hm: ∀u∈(m.endp x o f).tx, ∃u0∈m.tx,u=u0∨u= { u0 with ps:=endPs u0.ps o f } :=fun u hu=>by
  obtain⟨u0,hu0,e⟩:=mem_upd hu
  refine⟨u0,hu0,?_⟩
  split at e
  ·exact Or.inr e
  ·exact Or.inl e
 have hps: ∀(u0:Tx) (j:Nat) p,(endPs u0.ps o f)[j]? =some p→ ∃q,u0.ps[j]? =some q∧p.x=q.x∧p.ar=q.ar∧p.ft≤max q.ft f:=fun u0 j p hp=>by
  simp only[endPs,List.getElem?_mapIdx] at hp
  cases hq:u0.ps[j]? with
  |none=>rw[hq] at hp;cases hp
  |some q=>
   rw[hq] at hp
   simp only[Option.map_some,Option.some.injEq] at hp
   refine⟨q,rfl,?_⟩
   subst hp
   split
   ·exact⟨rfl,rfl,Nat.le_refl _⟩
   ·exact⟨rfl,rfl,Nat.le_max_left _ _⟩
 have hmp: ∀(u0:Tx) p,p∈endPs u0.ps o f→ ∃q∈u0.ps,p.x=q.x:=fun u0 p hp=>by
  obtain⟨j,hj⟩:=List.mem_iff_getElem?.1 hp
  obtain⟨q,h1,h2,_⟩:=hps u0 j p hj
  exact⟨q,List.mem_of_getElem? h1,h2⟩
 refine⟨h.n1,h.n2,?_,?_,?_,?_,?_,?_,?_,?_,?_⟩
 ·intro u hu
  obtain⟨u0,hu0,rfl|rfl⟩:=hm u hu
  ·exact h.lo u hu0
  ·exact h.lo u0 hu0
 ·intro u hu p hp
  obtain⟨u0,hu0,rfl|rfl⟩:=hm u hu
  ·exact h.pl u hu0 p hp
  ·obtain⟨q,hq,e⟩:=hmp u0 p hp
   rw[e];exact h.pl u0 hu0 q hq
 ·intro u hu
  obtain⟨u0,hu0,rfl|rfl⟩:=hm u hu
  ·exact h.st u hu0
  ·exact h.st u0 hu0
 ·intro u hu
  obtain⟨u0,hu0,rfl|rfl⟩:=hm u hu
  ·exact h.ln u hu0
  ·simp only[endPs_len];exact h.ln u0 hu0
 ·intro u hu j p hp
  obtain⟨u0,hu0,rfl|rfl⟩:=hm u hu
  ·exact h.ar u hu0 j p hp
  ·obtain⟨q,h1,_,h2,h3⟩:=hps u0 j p hp
   have:=h.ar u0 hu0 j q h1
   rw[h2]
   exact⟨this.1,this.2.1,by omega⟩
 ·show(upd m.tx x _).Pairwise _
  rw[upd,List.pairwise_map]
  refine h.up.imp (fun {a b} hab=>?_)
  have e: ∀u:Tx,(if u.x=x then { u with ps:=endPs u.ps o f } else u).x=u.x:=fun u=>by split<;>rfl
  rw[e,e];exact hab
 ·show(upd m.tx x _).Pairwise _
  rw[upd,List.pairwise_map]
  refine h.ap.imp (fun {a b} hab=>?_)
  have e: ∀u:Tx,(if u.x=x then { u with ps:=endPs u.ps o f } else u).x=u.x:=fun u=>by split<;>rfl
  have e2: ∀u:Tx, ∀p∈(if u.x=x then { u with ps:=endPs u.ps o f } else u).ps, ∃q∈u.ps,p.x=q.x:=fun u p hp=>by
   split at hp
   ·exact hmp u p hp
   ·exact⟨p,hp,rfl⟩
  intro p hp
  obtain⟨p',hp',ep⟩:=e2 a p hp
  rw[e,ep]
  refine⟨(hab p' hp').1,fun q hq=>?_⟩
  obtain⟨q',hq',eq⟩:=e2 b q hq
  rw[eq];exact(hab p' hp').2 q' hq'
 ·intro u hu
  obtain⟨u0,hu0,rfl|rfl⟩:=hm u hu
  ·exact h.pu u hu0
  ·have h1:=h.pu u0 hu0
   have h2:(u0.ps.map (·.x)).Pairwise (· < ·):=by rw[List.pairwise_map];exact h1
   rw[←endPs_x u0.ps o f,List.pairwise_map] at h2
   exact h2
 ·show m.on=_
  rw[h.on]
  exact(upd_filter m.tx x (fun t=> { t with ps:=endPs t.ps o f }) (fun _=>rfl) (fun _=>rfl)).symm
theorem XB.same {w w':World} {σ:Nat→Option Nat} {tb:Nat} {t:Tx} (h:XB w σ tb t) (tc:Tch (fun _=>False) w w'):XB w' σ tb t:=h.tch tc (fun _ _ h=>h.elim) (fun _ _ h=>h)
section
variable (b:Nat) (m:Mg) (σ:Nat→Option Nat) (mb:Nat) (bl:Nat→Nat) (w:World) (h:MG w b m σ mb bl) (k:Int) (h1: -9223372036854775808≤k) (h2:k≤9223372036854775807) (f:Nat)
include h h1 h2
theorem endPart_none (hf: ∀t (i:Nat),fnd m.tx k≠some (t,(i:Int))):Calls Tryz.prog 71 #[.map (some mb),.int .i64 k,.int .i64 f] w fun x w'=>x= .returned (.int .i64 70)∧Tch (fun _=>False) w w':=by
 have hl:=h.look h1 h2
 have hp:isP (lkB bl m.tx k)=false:=by
  cases hk:fnd m.tx k with
  |none=>simp[lkB,hk,isP]
  |some a=>
   obtain⟨t,i⟩:=a
   obtain⟨_,hi,_⟩:=h.at hk
   rcases hi with rfl|⟨j,rfl,_⟩
   ·simp[lkB,hk,isP]
   ·exact absurd hk (hf t j)
 obtain⟨o,ho⟩: ∃o,o=lkB bl m.tx k:=⟨_,rfl⟩
 rw[←ho] at hl hp
 have q:=fun W=>isPart_any o W
 rw[hp] at q
 obtain⟨p,i,hpi⟩: ∃p i,numV o= .agg #[.pointer p,.int .i64 i]:=by
  cases o with
  |none=>exact⟨_,_,rfl⟩
  |some a=>exact⟨_,_,rfl⟩
 rw[hpi] at hl q
 clear h h1 h2 ho hp hpi hf
 go_enter Tryz.func71,Tryz.ntmps71
 go_wp2_with fail
 refine(q _).mono ?_
 rintro x w1 ⟨rfl,t1⟩
 clear q hl
 have T:Hid (Tch (fun _=>False) w w1):=(Tch.alloc _ _ _).trans' t1
 clear t1
 go_wp2
 go_ret
 exact⟨rfl,T.out⟩
theorem endPart_some (hf2:f≤2) {t:Tx} {i:Nat} (hf:fnd m.tx k=some (t,(i:Int))):Calls Tryz.prog 71 #[.map (some mb),.int .i64 k,.int .i64 f] w fun x w'=>
  (may t i=false→x= .returned (.int .i64 71)∧Tch (fun _=>False) w w')∧
  (may t i=true→x= .returned (.int .i64 0)∧ ∃σ',MG w' b (m.endp t.x i f) σ' mb bl∧Stp w σ w' σ'):=by
 have hl:=h.look h1 h2
 obtain⟨hx,hi,h64,hst,hlk,htm⟩:=h.at hf
 have hil:i<t.ps.length:=by
  rcases hi with e|⟨j,e,hj⟩<;>omega
 rw[hlk] at hl
 have qs:=fun W=>isPart_any (some (bl t.x,(i:Int))) W
 have ep:isP (some (bl t.x,(i:Int)))=true:=by simp[isP]
 rw[ep] at qs
 have qm:=fun W (hW:Tch (fun _=>False) w W)=>mayGoOn_any σ (bl t.x) t i W (hx.same hW) hi h64 hst.2
 have har: ∀(j:Nat) p,t.ps[j]? =some p→ -1≤p.ar∧p.ar<j:=fun j p hp=>⟨(h.wf.ar t htm j p hp).1,(h.wf.ar t htm j p hp).2.1⟩
 have hft: ∀(j:Nat) p,t.ps[j]? =some p→p.ft≤2:=fun j p hp=>(h.wf.ar t htm j p hp).2.2
 have Hx:Hid (XB w σ (bl t.x) t):=hx
 have Hh:Hid (MG w b m σ mb bl):=h
 have Htm:Hid (t∈m.tx):=htm
 have Har:Hid _:=har
 have Hft:Hid _:=hft
 obtain⟨tb,htb⟩: ∃tb,tb=bl t.x:=⟨_,rfl⟩
 rw[←htb] at hl qs qm Hx
 have Htb:Hid (tb=bl t.x):=htb
 simp only[numV] at hl qs qm
 obtain⟨n,hn⟩: ∃n,n=t.ps.length:=⟨_,rfl⟩
 have Hn:Hid (n=t.ps.length):=hn
 rw[←hn] at h64 hil
 have Hqm:Hid _:=qm
 clear hn htb h hf h1 h2 hx hi hst hlk htm qm har hft ep
 go_enter Tryz.func71,Tryz.ntmps71
 go_wp2_with fail
 obtain⟨N,hN⟩: ∃N,N=w.heap.size:=⟨_,rfl⟩
 obtain⟨w0,hw0⟩: ∃w0,w0=w.alloc (.cells #[.pointer (some ⟨tb,0,none⟩),.int .i64 i] 121):=⟨_,rfl⟩
 have hb:w0.heap[N]? =some (.cells #[.pointer (some ⟨tb,0,none⟩),.int .i64 i] 121 (0,0)):=by rw[hw0,hN];exact alloc_new _ _
 have t0:Tch (fun _=>False) w w0:=by rw[hw0];exact Tch.alloc _ _ _
 have HNw:Hid (N=w.heap.size):=hN
 rw[←hw0, ←hN]
 have Hb:Hid _:=hb
 have Ht0:Hid _:=t0
 clear hw0 hN hb t0 hl
 refine(qs _).mono ?_
 rintro x w2 ⟨rfl,t2⟩
 clear qs
 have HT2:Hid (Tch (fun _=>False) w0 w2):=t2
 have d0:w2.cell? ⟨N,0,none⟩=some (.pointer (some ⟨tb,0,none⟩)):=by rw[t2.cell (p:=⟨N,0,none⟩) (blk_lt Hb.out) (fun h=>h),blk_cell Hb.out];rfl
 have d1:w2.cell? ⟨N,1,none⟩=some (.int .i64 i):=by rw[t2.cell (p:=⟨N,1,none⟩) (blk_lt Hb.out) (fun h=>h),blk_cell Hb.out];rfl
 have Q:=Hqm.out w2 (Ht0.out.trans' t2)
 clear t2
 go_wp2_with fail
 refine Q.mono ?_
 rintro x w3 ⟨rfl,t3⟩
 clear Q d0 d1
 have HT3:Hid (Tch (fun _=>False) w0 w3):=HT2.out.trans' t3
 clear t3 HT2
 cases hmy:may t i with
 |false=>
  have HTw:Hid (Tch (fun _=>False) w w3):=Ht0.out.trans' HT3.out
  have Hmy:Hid (may t i=false):=hmy
  go_wp2
  go_ret
  exact⟨fun _=>⟨rfl,HTw.out⟩,fun e=>by rw[Hmy.out] at e;cases e⟩
 |true=>
  have HTw:Hid (Tch (fun _=>False) w w3):=Ht0.out.trans' HT3.out
  have hX3:=Hx.out.same HTw.out
  obtain⟨pv,hXb,hXr,hXl⟩:=hX3.blk
  obtain⟨p0,hp0⟩: ∃p,t.ps[i]? =some p:=⟨_,List.getElem?_eq_getElem (by have:=Hn.out;omega)⟩
  obtain⟨g,pc,c2,_⟩:=hX3.part hp0
  obtain rfl:pv= .slice (some ⟨g,0,none⟩) t.ps.length pc:=by
   rw[blk_cell hXb] at c2
   simpa using c2
  have hgl:=hXl g rfl
  have hgt:g≠tb:=fun e=>by
   obtain⟨cur,hc⟩:=own_blk hXr (g:=g) rfl
   rw[e,hXb] at hc
   cases hc
  have hNl:N<w3.heap.size:=Nat.lt_of_lt_of_le (blk_lt Hb.out) HT3.out.size
  have hgN:g≠N:=fun e=>by
   have:=Hh.out.lt g (by rw[hgl];exact fun e=>by cases e)
   have:=HNw.out
   omega
  rw[←Hn.out] at c2
  have d0:w3.cell? ⟨N,0,none⟩=some (.pointer (some ⟨tb,0,none⟩)):=by rw[HT3.out.cell (p:=⟨N,0,none⟩) (blk_lt Hb.out) (fun h=>h),blk_cell Hb.out];rfl
  have HF:Hid (∀W,Tch (fun j=>j=g) w3 W→W.cell? ⟨N,0,none⟩=some (.pointer (some ⟨tb,0,none⟩))∧W.cell? ⟨N,1,none⟩=some (.int .i64 i)∧W.heap[tb]? =some (.cells #[.int .i64 t.x,.int .i64 t.st,.slice (some ⟨g,0,none⟩) n pc] 119 (0,0))):=fun W tW=>by
   have h1:=(tW.block N hNl (fun e=>hgN e.symm)).trans ((HT3.out.block N (blk_lt Hb.out) (fun h=>h)).trans Hb.out)
   have h2:=(tW.block tb (blk_lt hXb) (fun e=>hgt e.symm)).trans hXb
   rw[←Hn.out] at h2
   exact⟨by rw[blk_cell h1];rfl,by rw[blk_cell h1];rfl,h2⟩
  have Hlab:Hid (σ tb=some tb∧σ g=some tb):=⟨hX3.lab,hgl⟩
  have HXr:Hid (w3.ownsRow 0 151 3 (.slice (some ⟨g,0,none⟩) n pc) n (pcl t.ps)):=by
   show World.ownsRow _ _ _ _ _ _ _
   rw[Hn.out];exact hXr
  have Hgl:Hid (g≠tb∧g≠N):=⟨hgt,hgN⟩
  have Hmy:Hid (may t i=true):=hmy
  clear hX3 hXb hXr hXl hp0 hgl hgt hNl hgN hmy
  go_wp2_with fail
  go_loopw [28] (fun c wr=> ∃j:Nat,c= .int .i64 j∧j≤n∧Tch (fun l=>l=g) w3 wr∧wr.ownsRow 0 151 3 (.slice (some ⟨g,0,none⟩) n pc) n (pcl (endTo t.ps i f j))) (fun c _=>n - (intOf c).toNat)
  case atStart=>exact⟨0,rfl,by omega,Tch.refl _ _,by rw[endTo_zero];exact HXr.out⟩
  case round=>
   obtain⟨j,rfl,hj,tw,hown⟩:=hrel
   by_cases hlt:(j:Int)<n
   ·obtain⟨e0,e1,hX⟩:=HF.out wr tw
    have hjl:j<t.ps.length:=by have:=Hn.out;omega
    obtain⟨p,hp⟩: ∃p,t.ps[j]? =some p:=⟨_,List.getElem?_eq_getElem hjl⟩
    have hXB:XB wr σ tb ⟨t.x,t.st,endTo t.ps i f j⟩:=⟨Hlab.out.1,⟨_,hX,by simp only[endTo_len];rw[←Hn.out];exact hown,fun g' hg'=>by
     have e:g=g':=by simpa[Value.ownBlock] using hg'
     rw[←e];exact Hlab.out.2⟩⟩
    have Q:=within_any σ tb ⟨t.x,t.st,endTo t.ps i f j⟩ j i wr hXB (by simp only[endTo_len];have:=Hn.out;omega) (fun l q hq=>by
     have h9:(endTo t.ps i f j).map (·.ar)=t.ps.map (·.ar):=endTo_ar _ _ _ _
     have h8:((endTo t.ps i f j).map (·.ar))[l]? =some q.ar:=by rw[List.getElem?_map];simp only at hq;rw[hq];rfl
     rw[h9,List.getElem?_map] at h8
     cases hq':t.ps[l]? with
     |none=>rw[hq'] at h8;cases h8
     |some q'=>
      rw[hq'] at h8
      simp only[Option.map_some,Option.some.injEq] at h8
      rw[←h8]
      exact Har.out l q' hq') ⟨by omega,by simp only[endTo_len];omega⟩ (by omega)
    simp only[endTo_len] at Q
    rw[within_congr (endTo_ar t.ps i f j) i] at Q
    obtain⟨_,_,_,_,_,e2⟩:=hXB.part (k:=j) (p:=p) (endTo_at i f hp)
    rename_i g' cap' hc9 hc8 hc7
    obtain rfl:g=g':=by
     rw[blk_cell hX] at hc9
     simp at hc9
     exact hc9.1
    obtain⟨fr,hfr⟩: ∃cur,wr.heap[g]? =some (.cells cur 151 (0,0)):=own_blk hown rfl
    have fz:=blk_frozen hfr (j*3+2)
    have hpf:=Hft.out j p hp
    obtain⟨in',hin⟩: ∃in',in'=within t.ps i t.ps.length j:=⟨_,rfl⟩
    rw[←hin] at Q
    have Hown:Hid _:=hown
    have Htw:Hid (Tch (fun l=>l=g) w3 wr):=tw
    have HEnd:Hid (in'=false→endTo t.ps i f (j+1)=endTo t.ps i f j):=fun e=>endTo_skip f (by rw[←hin];exact e)
    have HEnd2:Hid (in'=true→pcl (endTo t.ps i f (j+1))=(pcl (endTo t.ps i f j)).set (j*3+2) (.int .i64 ((max p.ft f:Nat):Int))):=fun e=>by
     rw[endTo_set f hp (by rw[←hin];exact e)]
     exact pcl_set _ _ _ _ (endTo_at i f hp)
    obtain⟨pf,hpf'⟩: ∃pf,pf=p.ft:=⟨_,rfl⟩
    rw[←hpf'] at e2 hpf HEnd2
    have hjn:(j:Int)<n:=hlt
    clear hc9 hc8 hc7 hX hXB hown tw hp hjl hin hpf' hfr
    go_wp2_with fail
    refine Q.mono ?_
    rintro x w4 ⟨rfl,hw4⟩
    obtain rfl:=hw4.symm
    clear Q hw4
    cases in' with
    |false=>
     have HO:Hid (wr.ownsRow 0 151 3 (.slice (some ⟨g,0,none⟩) n pc) n (pcl (endTo t.ps i f (j+1)))):=by show World.ownsRow _ _ _ _ _ _ _;rw[HEnd.out rfl];exact Hown.out
     go_wp2_with fail
     go_roundw
     case rel=>exact⟨j+1,by go_num,by omega,Htw.out,HO.out⟩
     case measure=>simp[intOf];omega
    |true=>
     have e9:(if pf<f then(f:Int) else(pf:Int))=((max pf f:Nat):Int):=by
      split<;>omega
     have HO:Hid ((wr.setCell ⟨g,j*3+2,none⟩ (.int .i64 (if pf<f then(f:Int) else(pf:Int)))).ownsRow 0 151 3 (.slice (some ⟨g,0,none⟩) n pc) n (pcl (endTo t.ps i f (j+1)))∧Tch (fun l=>l=g) w3 (wr.setCell ⟨g,j*3+2,none⟩ (.int .i64 (if pf<f then(f:Int) else(pf:Int))))):=by
      refine⟨?_,Htw.out.setCellR _ _ rfl⟩
      rw[e9,HEnd2.out rfl];exact own_set Hown.out rfl _
     clear e9
     go_wp2_with fail
     go_roundw
     case rel=>exact⟨j+1,by go_num,by omega,HO.out.2,HO.out.1⟩
     case measure=>simp[intOf];omega
   ·have hjn:j=n:=by omega
    subst hjn
    have HFin:Hid (∃σ',MG wr b (m.endp t.x i f) σ' mb bl∧Stp w σ wr σ'):=by
     have hM3:=Hh.out.no HTw.out
     obtain⟨e0,e1,hX⟩:=HF.out wr tw
     have htb:=Htb.out
     obtain⟨hl1,hl2⟩:=Hlab.out
     have h9:=hown
     rw[Hn.out,endTo_all] at h9
     have hbt:b≠tb:=fun e=>hM3.nb t Htm.out (by rw[←htb,e])
     obtain⟨ov,hB,hon,hlab⟩:=hM3.blk
     obtain⟨nn,D,hnn,hD,hkD⟩:=hM3.mp
     have hgb: ∀z,σ z=some b→z≠g:=fun z hz e=>by
      rw[e,hl2] at hz
      injection hz with hz
      exact hbt hz.symm
     have h1:=hM3.chg (m':=m.endp t.x i f) (σ':=σ) Htm.out (fun t=> { t with ps:=endPs t.ps i f }) (fun _=>rfl) rfl (hM3.wf.endp t.x i hf2) (fun _ _=>rfl) (fun z hz=>Nat.lt_of_lt_of_le (hM3.lt z hz) tw.size) tw (fun z _ hz=>Or.inr (by rw[hz, ←htb];exact hl2)) ⟨ov,(tw.block b hM3.bl' (hgb b hM3.lb)).trans hB,own_tch hon tw (fun z hz=>hgb z (hlab z hz)),hlab⟩ ⟨nn,D,hnn,ownsMap_tch hD tw (hgb mb hM3.lm),fun k' zd=>?_⟩ ?_
     ·exact⟨σ,h1.1,(Stp.of_no HTw.out).trans h1.2⟩
     ·rw[hkD]
      simp only[lkB]
      have e8:fnd (m.endp t.x i f).tx k'=_:=fnd_upd t.x (fun t=> { t with ps:=endPs t.ps i f }) (fun u=>⟨rfl,endPs_x u.ps i f⟩) k' m.tx
      rw[e8]
      cases hf:fnd m.tx k' with
      |none=>rfl
      |some a=>
       simp only[Option.map_some]
       have e9:(if a.1.x=t.x then { a.1 with ps:=endPs a.1.ps i f } else a.1).x=a.1.x:=by split<;>rfl
       rw[e9]
     ·rw[←htb]
      refine⟨hl1,⟨_,hX,?_,fun g' hg'=>?_⟩⟩
      ·simp only[endPs_len];rw[Hn.out];exact h9
      ·have e:g=g':=by simpa[Value.ownBlock] using hg'
       rw[←e];exact hl2
    clear hown tw
    go_wp2_with fail
    go_ret
    exact⟨(fun e=>by rw[Hmy.out] at e;cases e),fun _=>⟨rfl,HFin.out⟩⟩
end
def EndOut (m:Mg) (b:Nat) (k:Int) (f:Nat) (w:World) (F:Nat→Prop) (x:Ending) (w':World):Prop:=
 ((∀t (i:Nat),fnd m.tx k=some (t,(i:Int))→may t i=false)→ ∃e:Nat,(e=70∨e=71)∧x= .returned (.int .i64 e)∧Tch (fun _=>False) w w')∧
 (∀t (i:Nat),fnd m.tx k=some (t,(i:Int))→may t i=true→x= .returned (.int .i64 0)∧MF w' b (m.endp t.x i f) F∧Kept F w w')
theorem endPart_f (b:Nat) (m:Mg) (w:World) (F:Nat→Prop) (σ:Nat→Option Nat) (mb:Nat) (bl:Nat→Nat) (h:MG w b m σ mb bl) (hF: ∀i,F i→σ i=none∧i<w.heap.size) (k:Int) (h1: -9223372036854775808≤k) (h2:k≤9223372036854775807) (f:Nat) (hf2:f≤2):
  Calls Tryz.prog 71 #[.map (some mb),.int .i64 k,.int .i64 f] w fun x w'=>(∃e:Nat,x= .returned (.int .i64 e))∧EndOut m b k f w F x w':=by
 by_cases hp: ∃t, ∃i:Nat,fnd m.tx k=some (t,(i:Int))
 ·obtain⟨t,i,hf⟩:=hp
  refine(endPart_some b m σ mb bl w h k h1 h2 f hf2 hf).mono ?_
  rintro x w' ⟨ha,hb⟩
  cases hm:may t i with
  |false=>
   obtain⟨e1,e2⟩:=ha hm
   refine⟨⟨71,e1⟩,fun _=>⟨71,Or.inr rfl,e1,e2⟩,fun u j hu hmu=>?_⟩
   rw[hf] at hu
   injection hu with hu
   injection hu with h3 h4
   have:i=j:=by omega
   subst this h3
   rw[hm] at hmu;cases hmu
  |true=>
   obtain⟨e1,σ',e2,e3⟩:=hb hm
   refine⟨⟨0,e1⟩,fun hno=>?_,fun u j hu hmu=>?_⟩
   ·have:=hno t i hf
    rw[hm] at this;cases this
   ·rw[hf] at hu
    injection hu with hu
    injection hu with h3 h4
    have:i=j:=by omega
    subst this h3
    exact⟨e1,MF.stp hF e2 e3⟩
 ·refine(endPart_none b m σ mb bl w h k h1 h2 f (fun t i e=>hp ⟨t,i,e⟩)).mono ?_
  rintro x w' ⟨e1,e2⟩
  exact⟨⟨70,e1⟩,fun _=>⟨70,Or.inl rfl,e1,e2⟩,fun t i e=>absurd ⟨t,i,e⟩ hp⟩
theorem release_f (b:Nat) (m:Mg) (w:World) (F:Nat→Prop) (h:MF w b m F) (k:Int) (h1: -9223372036854775808≤k) (h2:k≤9223372036854775807):
  Calls Tryz.prog 46 #[.pointer (some ⟨b,0,none⟩),.int .i64 k] w fun x w'=>(∃e:Nat,x= .returned (.int .i64 e))∧EndOut m b k 1 w F x w':=by
 obtain⟨σ,mb,bl,h,hF⟩:=h
 have c0:=h.c0
 have q:Calls Tryz.prog 71 #[.map (some mb),.int .i64 k,.int .i64 1] w fun x w'=>(∃e:Nat,x= .returned (.int .i64 e))∧EndOut m b k 1 w F x w':=endPart_f b m w F σ mb bl h hF k h1 h2 1 (by omega)
 clear h hF h1 h2
 go_enter Tryz.func46,Tryz.ntmps46
 go_wp2_with fail
 refine q.mono ?_
 rintro x w1 ⟨⟨e,rfl⟩,ho⟩
 have HO:Hid _:=ho
 clear q ho c0
 go_wp2
 go_ret
 exact⟨⟨e,rfl⟩,HO.out⟩
theorem back_f (b:Nat) (m:Mg) (w:World) (F:Nat→Prop) (h:MF w b m F) (k:Int) (h1: -9223372036854775808≤k) (h2:k≤9223372036854775807):
  Calls Tryz.prog 45 #[.pointer (some ⟨b,0,none⟩),.int .i64 k] w fun x w'=>(∃e:Nat,x= .returned (.int .i64 e))∧EndOut m b k 2 w F x w':=by
 obtain⟨σ,mb,bl,h,hF⟩:=h
 have c0:=h.c0
 have q:Calls Tryz.prog 71 #[.map (some mb),.int .i64 k,.int .i64 2] w fun x w'=>(∃e:Nat,x= .returned (.int .i64 e))∧EndOut m b k 2 w F x w':=endPart_f b m w F σ mb bl h hF k h1 h2 2 (by omega)
 clear h hF h1 h2
 go_enter Tryz.func45,Tryz.ntmps45
 go_wp2_with fail
 refine q.mono ?_
 rintro x w1 ⟨⟨e,rfl⟩,ho⟩
 have HO:Hid _:=ho
 clear q ho c0
 go_wp2
 go_ret
 exact⟨⟨e,rfl⟩,HO.out⟩
section
variable (b:Nat) (m:Mg) (σ:Nat→Option Nat) (mb:Nat) (bl:Nat→Nat) (w:World) (h:MG w b m σ mb bl) (k:Int) (h1: -9223372036854775808≤k) (h2:k≤9223372036854775807) (to:Nat)
include h h1 h2
theorem turn_none (hf: ∀t,fnd m.tx k≠some (t, -1)):Calls Tryz.prog 51 #[.map (some mb),.int .i64 k,.int .i64 to] w fun x w'=>x= .returned (.int .i64 70)∧Tch (fun _=>False) w w':=by
 have q:=transaction_any b m σ mb bl w h k h1 h2
 have e:txE (lkB bl m.tx k)= .pointer none:=by
  cases hk:fnd m.tx k with
  |none=>simp[lkB,hk,txE]
  |some a=>
   obtain⟨t,i⟩:=a
   obtain⟨_,hi,_⟩:=h.at hk
   rcases hi with rfl|⟨j,rfl,_⟩
   ·exact absurd hk (hf t)
   ·simp[lkB,hk,txE]
 rw[e] at q
 clear h hf e h1 h2
 go_enter Tryz.func51,Tryz.ntmps51
 go_wp2_with fail
 refine q.mono ?_
 rintro x w1 ⟨rfl,t1⟩
 clear q
 have T:Hid (Tch (fun _=>False) w w1):=t1
 clear t1
 go_wp2
 go_ret
 exact⟨rfl,T.out⟩
theorem turn_some {t:Tx} (hf:fnd m.tx k=some (t, -1)):Calls Tryz.prog 51 #[.map (some mb),.int .i64 k,.int .i64 to] w fun x w'=>
  ((to≤t.st∨3≤t.st)→x= .returned (.int .i64 71)∧Tch (fun _=>False) w w')∧
  (¬(to≤t.st∨3≤t.st)→x= .returned (.int .i64 0)∧ ∃w1,Tch (fun _=>False) w w1∧w'=w1.setCell ⟨bl t.x,1,none⟩ (.int .i64 to)):=by
 have q:=transaction_any b m σ mb bl w h k h1 h2
 obtain⟨hx,_,h64,hst,hlk,_⟩:=h.at hf
 rw[hlk] at q
 have e:txE (some (bl t.x, -1))= .pointer (some ⟨bl t.x,0,none⟩):=rfl
 rw[e] at q
 have qo:=fun W (hW:Tch (fun _=>False) w W)=>over_any σ (bl t.x) t W (hx.same hW)
 have Hx:Hid (XB w σ (bl t.x) t):=hx
 obtain⟨tb,htb⟩: ∃tb,tb=bl t.x:=⟨_,rfl⟩
 rw[←htb] at q qo Hx ⊢
 obtain⟨s,hs⟩: ∃s,s=t.st:=⟨_,rfl⟩
 have Hs:Hid (s=t.st):=hs
 rw[←hs] at qo hst ⊢
 clear h hf e h1 h2 hx h64 hlk htb hs
 go_enter Tryz.func51,Tryz.ntmps51
 go_wp2_with fail
 refine q.mono ?_
 rintro x w1 ⟨rfl,t1⟩
 clear q
 have T:Hid (Tch (fun _=>False) w w1):=t1
 obtain⟨v,hb,_⟩:=(Hx.out.same t1).blk
 have c1:w1.cell? ⟨tb,1,none⟩=some (.int .i64 s):=by rw[blk_cell hb,Hs.out];rfl
 have f1:=blk_frozen hb 1
 have Q:=qo w1 t1
 clear t1 hb qo
 by_cases h1:to≤s
 ·have h1I:(to:Int)≤s:=by omega
  have HO:Hid (to≤s∨3≤s):=Or.inl h1
  go_wp2
  go_ret
  exact⟨fun _=>⟨rfl,T.out⟩,fun e=>absurd HO.out e⟩
 ·have h1I: ¬(to:Int)≤s:=by omega
  by_cases h3:3≤s
  ·rw[decide_eq_true h3] at Q
   have HO:Hid (to≤s∨3≤s):=Or.inr h3
   go_wp2_with fail
   refine Q.mono ?_
   rintro x w2 ⟨rfl,hw2⟩
   obtain rfl:=hw2.symm
   clear Q hw2
   go_wp2
   go_ret
   exact⟨fun _=>⟨rfl,T.out⟩,fun e=>absurd HO.out e⟩
  ·rw[decide_eq_false h3] at Q
   have HO:Hid (¬(to≤s∨3≤s)):=fun e=>e.elim h1 h3
   go_wp2_with fail
   refine Q.mono ?_
   rintro x w2 ⟨rfl,hw2⟩
   obtain rfl:=hw2.symm
   clear Q hw2
   go_wp2
   go_ret
   exact⟨fun e=>absurd e HO.out,fun _=>⟨rfl,w1,T.out,rfl⟩⟩
end
theorem nan1 (a:Int) (w:World):Calls Tryz.prog 101 #[.int .i64 a] w fun x w'=>x= .returned (.bool false)∧w'=w:=by
 go_enter Tryz.func101,Tryz.ntmps101
 go_wp2
 go_ret
 exact⟨by simp,rfl⟩
theorem less_any (a c:Int) (w:World):Calls Tryz.prog 91 #[.int .i64 a,.int .i64 c] w fun x w'=>x= .returned (.bool (decide (a<c)))∧w'=w:=by
 have q:=nan1 a w
 go_enter Tryz.func91,Tryz.ntmps91
 go_wp2_with fail
 refine q.mono ?_
 rintro x w1 ⟨rfl,hw1⟩
 obtain rfl:=hw1.symm
 clear q hw1
 go_wp2
 go_ret
 exact⟨rfl,rfl⟩
theorem bs_any (l:List Nat) (g c p:Nat) (x:Int) (w:World) (hc: ∀j n,l[j]? =some n→w.cell? ⟨g,j,none⟩=some (.int .i64 (n:Nat))) (hl:l.length≤2147483648) (hs:l.Pairwise (· < ·)) (hp: ∃n:Nat,l[p]? =some n∧(n:Int)=x):
  Calls Tryz.prog 63 #[.slice (some ⟨g,0,none⟩) l.length c,.int .i64 x] w fun y w'=>y= .returned (.tuple #[.int .i64 p,.bool true])∧w'=w:=by
 obtain⟨n,hn⟩: ∃n,n=l.length:=⟨_,rfl⟩
 rw[←hn] at hl ⊢
 obtain⟨px,hpx,rfl⟩:=hp
 have hpl:p<n:=by rw[hn];exact(List.getElem?_eq_some_iff.1 hpx).1
 have Hn:Hid (n=l.length):=hn
 have Hc:Hid _:=hc
 have hcp:=hc p px hpx
 have Hlt:Hid (∀j y,l[j]? =some y→((y<px→j<p)∧(¬y<px→p≤j))):=fun j y hy=>by
  have hj:=(List.getElem?_eq_some_iff.1 hy)
  have hq:=(List.getElem?_eq_some_iff.1 hpx)
  obtain⟨hj1,hj2⟩:=hj
  obtain⟨hq1,hq2⟩:=hq
  have key:=List.pairwise_iff_getElem.1 hs
  refine⟨fun h=>?_,fun h=>?_⟩
  ·rcases Nat.lt_trichotomy j p with h1|h1|h1
   ·exact h1
   ·subst h1;rw[hj2] at hq2;omega
   ·have:=key p j hq1 hj1 h1;rw[hj2,hq2] at this;omega
  ·rcases Nat.lt_or_ge j p with h1|h1
   ·have:=key j p hj1 hq1 h1;rw[hj2,hq2] at this;omega
   ·exact h1
 have ql:=fun(a:Int) (W:World)=>less_any a px W
 clear hc hs hpx hn
 go_enter Tryz.func63,Tryz.ntmps63
 go_wp2_with fail
 go_loopw [7,8] (fun i j wr=> ∃a d:Nat,i= .int .i64 a∧j= .int .i64 d∧a≤p∧p≤d∧d≤n∧wr=w) (fun i j _=>(intOf j - intOf i).toNat)
 case atStart=>exact⟨0,n,rfl,rfl,by omega,by omega,by omega,rfl⟩
 case round=>
  obtain⟨a,d,rfl,rfl,h1,h2,h3,hwr⟩:=hrel
  subst hwr
  by_cases hlt:(a:Int)<d
  ·have hhl:(a+d) / 2<l.length:=by have:=Hn.out;omega
   obtain⟨y,hy⟩: ∃y,l[(a+d) / 2]? =some y:=⟨_,List.getElem?_eq_getElem hhl⟩
   have e0:=Hc.out _ y hy
   have HK:Hid _:=Hlt.out _ y hy
   clear hy hhl
   go_wp2_with fail
   refine(ql _ _).mono ?_
   rintro x w1 ⟨rfl,hw1⟩
   obtain rfl:=hw1.symm
   clear hw1 e0
   by_cases hyx:y<px
   ·have e1:decide ((y:Int)<px)=true:=decide_eq_true (by omega)
    have hb:=HK.out.1 hyx
    rw[e1]
    clear e1
    go_wp2_with fail
    go_roundw
    case rel=>exact⟨(a+d) / 2+1,d,by go_num,rfl,by omega,by omega,by omega,trivial⟩
    case measure=>simp[intOf];omega
   ·have e1:decide ((y:Int)<px)=false:=decide_eq_false (by omega)
    have hb:=HK.out.2 hyx
    rw[e1]
    clear e1
    go_wp2_with fail
    go_roundw
    case rel=>exact⟨a,(a+d) / 2,rfl,by go_num,by omega,by omega,by omega,trivial⟩
    case measure=>simp[intOf];omega
  ·obtain rfl:a=p:=by omega
   have hpI:(a:Int)<n:=by omega
   clear ql
   go_wp2_with fail
   go_ret2
   exact⟨rfl,rfl⟩
end Go.Proofs.YtppokgdofgigfaaGreat
