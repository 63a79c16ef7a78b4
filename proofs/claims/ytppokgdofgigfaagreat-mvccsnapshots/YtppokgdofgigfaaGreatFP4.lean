import Derived.Test.YtppokgdofgigfaaGreatFE4
import Derived.Laws.OwnMore
set_option maxHeartbeats 4000000
set_option maxRecDepth 100000
namespace Go.Proofs.YtppokgdofgigfaaGreat.F
open Go.RowKit Go Go.Sort
set_option maxRecDepth 100000
theorem own_ty {w:World} {b1 b2 s1 s2 n1 n2:Nat} {t1 t2:TypeId} {v1 v2:Value} {x1 x2:List Value} (h1:w.ownsRow b1 t1 s1 v1 n1 x1) (h2:w.ownsRow b2 t2 s2 v2 n2 x2) {g:Nat} (e1:v1.ownBlock=some g) (e2:v2.ownBlock=some g):t1=t2:=by
 rcases h1.2 with⟨rfl,_⟩|⟨g1,c1,u1,rfl,_,k1,_⟩
 ·cases e1
 ·rcases h2.2 with⟨rfl,_⟩|⟨g2,c2,u2,rfl,_,k2,_⟩
  ·cases e2
  ·have a1:g1=g:=by injection e1
   have a2:g2=g:=by injection e2
   subst a1 a2
   rw[k1] at k2
   injection k2 with k2
   injection k2
theorem own_addr {w:World} {b sz n:Nat} {t:TypeId} {ao:Option Addr} {c:Nat} {xs:List Value} (h:w.ownsRow b t sz (.slice ao n c) n xs) {g:Nat} (e:(Value.slice ao n c).ownBlock=some g):ao=some ⟨g,0,none⟩:=by
 rcases h.2 with⟨e1,_⟩|⟨g1,c1,u1,e1,_⟩
 ·rw[e1] at e;cases e
 ·injection e1 with e2
  rw[e2] at e
  have:g1=g:=by injection e
  rw[e2,this]
theorem slice_lt {w:World} {b sz n:Nat} {t:TypeId} {ad:Addr} {c:Nat} {xs:List Value} (h:w.ownsRow b t sz (.slice (some ad) n c) n xs):ad.block<w.heap.size:=by
 rcases h.2 with⟨e1,_⟩|⟨g1,c1,u1,e1,_,hg,_⟩
 ·cases e1
 ·injection e1 with e2
  injection e2 with e2
  rw[e2];exact blk_lt hg
section
variable {w0:Fr} {w w':World} {qb hb mb nq:Nat} {m:Mg} {L:HL} {q:Mo} {A:Nat→Sx} {F:Nat→Prop}
theorem LW.relist (h:LW w0 w qb hb mb nq m L q A F) {k:Nat} {s s':Se} {a':Sx} (hs:q.l[k]? =some s) {S:Nat→Prop} (t:Tch S w w')
  (hS: ∀i,S i→(Value.slice (A k).po s.ps.length (A k).pc).ownBlock=some i∨(Value.slice (A k).wo s.ws.length (A k).wc).ownBlock=some i)
  (hI:SeIn w0 w' (fun i=>F i∨w.heap.size≤i∧i<w'.heap.size) s' a') (hb':SeBd s')
  (hpo:a'.po=(A k).po∨ ∀ad,a'.po=some ad→w.heap.size≤ad.block) (hwo:a'.wo=(A k).wo∨ ∀ad,a'.wo=some ad→w.heap.size≤ad.block)
  {j:Nat} (hj:j<15) {v:Value} (hv:(seC s (A k)).set j v=seC s' a'):
  LW w0 (w'.setCell ⟨qb,2+k*15+j,none⟩ v) qb hb mb nq m L { q with l:=q.l.set k s' } (updA A k a') (fun i=>F i∨w.heap.size≤i∧i<w'.heap.size):=by
 have hk:k<5:=by have:=(List.getElem?_eq_some_iff.1 hs).1;have:=h.ln;omega
 have hsk:=h.se k s hs
 have j5: ∀(j2:Nat) (u:Se),q.l[j2]? =some u→j2<5:=fun j2 u hu=>by have:=(List.getElem?_eq_some_iff.1 hu).1;have:=h.ln;omega
 have hSq: ¬S qb:=fun e=>by
  rcases hS qb e with e|e
  ·exact row_ne hsk.ps h.bk (by decide) e rfl
  ·exact row_ne hsk.ws h.bk (by decide) e rfl
 have hSF: ∀i,S i→F i∧w0.heap.size≤i:=fun i e=>by
  rcases hS i e with e|e
  ·exact⟨hsk.psf i e,row_ge hsk.ps e⟩
  ·exact⟨hsk.wsf i e,row_ge hsk.ws e⟩
 have bk1:w'.heap[qb]? =some (.cells (moC q mb hb A).toArray 46 (0,0)):=(t.block qb (blk_lt h.bk) hSq).trans h.bk
 have tS:Tch (fun i=>i=qb) w' (w'.setCell ⟨qb,2+k*15+j,none⟩ v):=Tch.setCell _ _ _ _ rfl
 have t2:Tch (fun i=>S i∨i=qb) w (w'.setCell ⟨qb,2+k*15+j,none⟩ v):=(t.mono (fun _ _ e=>.inl e)).trans tS (fun _ _ e=>.inr e)
 have hz:(w'.setCell ⟨qb,2+k*15+j,none⟩ v).heap.size=w'.heap.size:=by simp[World.setCell]
 have hother: ∀(j2:Nat) (u:Se),j2≠k→q.l[j2]? =some u→SeIn w0 (w'.setCell ⟨qb,2+k*15+j,none⟩ v) (fun i=>F i∨w.heap.size≤i∧i<w'.heap.size) u (A j2):=fun j2 u hne hu=>by
  have hI2:=h.se j2 u hu
  refine SeIn.mono (F:=F) ⟨own_tch hI2.on t2 (fun g e e2=>?_),hI2.onf,own_tch hI2.ps t2 (fun g e e2=>?_),hI2.psf,own_tch hI2.ws t2 (fun g e e2=>?_),hI2.wsf⟩ (fun _ e=>.inl e)
  ·rcases e2 with e2|e2
   ·rcases hS g e2 with e3|e3
    ·exact absurd (own_ty hI2.on hsk.ps e e3) (by decide)
    ·exact absurd (own_ty hI2.on hsk.ws e e3) (by decide)
   ·rw[e2] at e;exact row_ne hI2.on h.bk (by decide) e rfl
  ·rcases e2 with e2|e2
   ·rcases hS g e2 with e3|e3
    ·exact(h.ap j2 k hne (j5 j2 u hu) hk ⟨g,0,none⟩ ⟨g,0,none⟩).1 (own_addr hI2.ps e) (own_addr hsk.ps e3) rfl
    ·exact absurd (own_ty hI2.ps hsk.ws e e3) (by decide)
   ·rw[e2] at e;exact row_ne hI2.ps h.bk (by decide) e rfl
  ·rcases e2 with e2|e2
   ·rcases hS g e2 with e3|e3
    ·exact absurd (own_ty hI2.ws hsk.ps e e3) (by decide)
    ·exact(h.ap j2 k hne (j5 j2 u hu) hk ⟨g,0,none⟩ ⟨g,0,none⟩).2 (own_addr hI2.ws e) (own_addr hsk.ws e3) rfl
   ·rw[e2] at e;exact row_ne hI2.ws h.bk (by decide) e rfl
 have hmine:SeIn w0 (w'.setCell ⟨qb,2+k*15+j,none⟩ v) (fun i=>F i∨w.heap.size≤i∧i<w'.heap.size) s' a':=
  ⟨own_tch hI.on tS (fun g e e2=>by rw[e2] at e;exact row_ne hI.on bk1 (by decide) e rfl),hI.onf,own_tch hI.ps tS (fun g e e2=>by rw[e2] at e;exact row_ne hI.ps bk1 (by decide) e rfl),hI.psf,own_tch hI.ws tS (fun g e e2=>by rw[e2] at e;exact row_ne hI.ws bk1 (by decide) e rfl),hI.wsf⟩
 have hs2:=h.hs.freshS t (fun i _ e=>(hSF i e).1)
 refine⟨hs2.tch tS (fun i _ e=>by rw[e];exact .inl h.fq),fun i hi=>.inl (h.f0 i hi),.inl h.fq,h.q0,?_,by show(q.l.set k s').length=5;rw[List.length_set];exact h.ln,fun j2 u hu=>?_,fun j2 u hu=>?_,?_,h.t.trans t2 (fun i hi e=>?_) (fun i _ g e=>e.elim (fun e=>(hS i e).elim (g.own hsk.ps (.inl rfl)) (g.own hsk.ws (.inr rfl))) (g.ne h.bk))⟩
 ·rw[blk_set (i:=2+k*15+j) bk1,List.setIfInBounds_toArray,moC_cell q h.ln mb hb A hk hs hj hv]
 ·rcases set_get hs hu with⟨e1,e2⟩|⟨hne,hu⟩
  ·rw[e1,e2,updA_same];exact hmine
  ·rw[updA_other A a' hne];exact hother j2 u hne hu
 ·rcases set_get hs hu with⟨e1,e2⟩|⟨hne,hu⟩
  ·rw[e2];exact hb'
  ·exact h.bd j2 u hu
 ·have one: ∀j2,j2≠k→j2<5→ ∀ad a2,(a'.po=some ad→(A j2).po=some a2→ad.block≠a2.block)∧(a'.wo=some ad→(A j2).wo=some a2→ad.block≠a2.block):=fun j2 hne hj5 ad a2=>by
   obtain⟨u,hu⟩: ∃u,q.l[j2]? =some u:=⟨_,List.getElem?_eq_getElem (by have:=h.ln;omega)⟩
   have hI2:=h.se j2 u hu
   refine⟨fun e1 e2=>?_,fun e1 e2=>?_⟩
   ·rcases hpo with e|e
    ·rw[e] at e1;exact(h.ap k j2 (fun e=>hne e.symm) hk hj5 ad a2).1 e1 e2
    ·have h1:=e ad e1
     have h2:a2.block<w.heap.size:=slice_lt (ad:=a2) (by rw[←e2];exact hI2.ps)
     omega
   ·rcases hwo with e|e
    ·rw[e] at e1;exact(h.ap k j2 (fun e=>hne e.symm) hk hj5 ad a2).2 e1 e2
    ·have h1:=e ad e1
     have h2:a2.block<w.heap.size:=slice_lt (ad:=a2) (by rw[←e2];exact hI2.ws)
     omega
  intro i i' hii h5 h5' ad a2
  by_cases e:i=k
  ·subst e
   rw[updA_same,updA_other A a' (fun e=>hii e.symm)]
   exact one i' (fun e=>hii e.symm) h5' ad a2
  ·by_cases e':i'=k
   ·subst e'
    rw[updA_other A a' e,updA_same]
    have:=one i e h5 a2 ad
    exact⟨fun h1 h2 e2=>this.1 h2 h1 e2.symm,fun h1 h2 e2=>this.2 h2 h1 e2.symm⟩
   ·rw[updA_other A a' e,updA_other A a' e']
    exact h.ap i i' hii h5 h5' ad a2
 ·rcases e with e|e
  ·have:=(hSF i e).2;omega
  ·have:=h.q0;omega
end
set_option maxRecDepth 100000
theorem info_part:(Tryz.prog.info? 100).map (fun i=>(i.zero,i.size,i.bytes))=some (some (.agg #[.int .i64 0,.int .i64 0,.bool false,.bool false]),4,24):=by kernel_rfl
theorem prC_snoc (l:List Pr) (p:Pr):prC (l++[p])=prC l++[.int .i64 p.x,.int .i64 p.par,.bool p.live,.bool p.bk]:=by
 unfold prC
 rw[List.flatMap_append];rfl
def addS (s:Se) (x:Nat):Se:= { s with ps:=s.ps++[⟨x,innS s,true,false⟩] }
theorem addS_tx {m:Mg} {s:Se} {t:Tx} (ht:SesTx m s t) {m':Mg} (hmem:addP ⟨m.nx,innS s,0⟩ t∈m'.tx):SesTx m' (addS s m.nx) (addP ⟨m.nx,innS s,0⟩ t):=
 ⟨hmem,ht.x,ht.st,by show t.ps++[_]=(s.ps++[_]).map ptOf;rw[List.map_append,ht.ps];rfl⟩
theorem addS_wr (s:Se) (x:Nat) (i:Int) (h2:i<s.ps.length):wrN (addS s x) i=wrN s i∧(stdI (addS s x) i=true→stdI s i=true):=by
 have e:0≤i→(addS s x).ps[i.toNat]? =s.ps[i.toNat]? :=fun h0=>by
  show(s.ps++[_])[i.toNat]? =_
  rw[List.getElem?_append_left (by omega)]
 unfold wrN stdI
 by_cases h0:0≤i
 ·rw[if_pos h0,if_pos h0,if_pos h0,if_pos h0,e h0]
  exact⟨rfl,fun h=>h⟩
 ·rw[if_neg h0,if_neg h0,if_neg h0,if_neg h0]
  exact⟨rfl,fun h=>h⟩
theorem inn_ok {m:Mg} {s:Se} {t:Tx} (ht:SesTx m s t) (hpp:s.pp=false): -1≤innS s∧innS s<s.ps.length∧stdI s (innS s)=true∧may t (innS s)=true:=by
 have hr:=innI_rng s.ps s.ps.length
 have hst:t.st=1:=by rw[ht.st,hpp];rfl
 have hps:=ht.ps
 refine⟨hr.1,hr.2,?_⟩
 rcases innI_live s.ps s.ps.length with e|⟨i,p,e,hp,hl,hb⟩
 ·have e':innS s= -1:=e
  rw[e']
  refine⟨rfl,?_⟩
  unfold may fate
  rw[hst];rfl
 ·have e':innS s=(i:Int):=e
  rw[e']
  refine⟨?_,?_⟩
  ·unfold stdI
   rw[if_pos (by omega)]
   simp only[Int.toNat_natCast,hp,hb];rfl
  ·unfold may fate
   rw[hst,hps,if_pos (by omega)]
   simp only[Int.toNat_natCast,List.getElem?_map,hp,Option.map_some,ptOf,hl,hb]
   rfl
set_option maxRecDepth 100000
theorem addS_bd {s:Se} (h:SeBd s) (hl:s.ps.length<1000) {x:Nat} (hx:x≤1000000):SeBd (addS s x):=by
 have hr:=innI_rng s.ps s.ps.length
 refine⟨by show(s.ps++[_]).length≤1000;rw[List.length_append];show s.ps.length+1≤1000;omega,h.wl,fun i v e=>?_,fun v hv=>?_,h.ba⟩
 ·have e:(s.ps++[(⟨x,innS s,true,false⟩:Pr)])[i]? =some v:=e
  by_cases hi:i<s.ps.length
  ·rw[List.getElem?_append_left hi] at e;exact h.pr i v e
  ·rw[List.getElem?_append_right (by omega)] at e
   have h0:i - s.ps.length=0:=by
    have:=(List.getElem?_eq_some_iff.1 e).1
    simp at this;omega
   rw[h0] at e
   injection e with e;subst e
   have hr1: -1≤innS s:=hr.1
   have hr2:innS s<s.ps.length:=hr.2
   exact⟨hr1,by show innS s<i;omega,hx⟩
 ·have:=h.wr v hv
  refine⟨this.1,?_,this.2.2⟩
  show v.pt<((s.ps++[(⟨x,innS s,true,false⟩:Pr)]).length:Int)
  rw[List.length_append]
  have:=this.2.1
  simp only[List.length_cons,List.length_nil]
  omega
section
variable {w0:Fr} {w w':World} {qb hb mb nq:Nat} {m:Mg} {L:HL} {q:Mo} {A:Nat→Sx} {F:Nat→Prop}
theorem LW.addPart (h:LW w0 w qb hb mb nq m L q A F) {k:Nat} {s:Se} (hs:q.l[k]? =some s) {x:Nat} (hx:x≤1000000) (hl:s.ps.length<1000) {v':Value} (hown:w'.ownsRow w0.heap.size 100 4 v' (s.ps.length+1) (prC s.ps++[.int .i64 x,.int .i64 (innS s),.bool true,.bool false]))
  (t:Tch (fun i=>(Value.slice (A k).po s.ps.length (A k).pc).ownBlock=some i) w w') (hat:v'.ownBlock=(Value.slice (A k).po s.ps.length (A k).pc).ownBlock∨v'.ownBlock=some w.heap.size):
  ∃A' F',LW w0 (w'.setCell ⟨qb,2+k*15+13,none⟩ v') qb hb mb nq m L { q with l:=q.l.set k (addS s x) } A' F':=by
 obtain⟨po,pc,rfl⟩:=row_slice hown
 have hsk:=h.se k s hs
 have hle:(addS s x).ps.length=s.ps.length+1:=by show(s.ps++[_]).length=_;rw[List.length_append];rfl
 have hpr:prC (addS s x).ps=prC s.ps++[.int .i64 x,.int .i64 (innS s),.bool true,.bool false]:=prC_snoc s.ps _
 refine⟨_,_,h.relist (s':=addS s x) (a':= { A k with po:=po,pc:=pc }) hs t (fun i e=>.inl e) ⟨own_tch hsk.on t (fun g e e2=>absurd (own_ty hsk.on hsk.ps e e2) (by decide)),fun g e=>.inl (hsk.onf g e),by rw[hle,hpr];exact hown,fun g e=>?_,own_tch hsk.ws t (fun g e e2=>absurd (own_ty hsk.ws hsk.ps e e2) (by decide)),fun g e=>.inl (hsk.wsf g e)⟩ (addS_bd (h.bd k s hs) hl hx) ?_ (.inl rfl) (j:=13) (by decide) ?_⟩
 ·rw[hle] at e
  rcases hat with e2|e2
  ·exact .inl (hsk.psf g (by rw[←e2];exact e))
  ·rw[e] at e2;injection e2 with e2
   have:=slice_lt (ad:=⟨g,0,none⟩) (by rw[←own_addr hown e];exact hown)
   exact .inr ⟨by omega,this⟩
 ·rcases hat with e2|e2
  ·cases hb:(Value.slice po (s.ps.length+1) pc).ownBlock with
   |none=>
    refine .inr (fun ad e=>?_)
    have e3:po=some ad:=e
    rcases hown.2 with⟨e4,_⟩|⟨g1,c1,u1,e4,_⟩
    ·injection e4 with e4;rw[e4] at e3;cases e3
    ·rw[e4] at hb;cases hb
   |some g=>
    refine .inl ?_
    show po=(A k).po
    rw[own_addr hown hb,own_addr hsk.ps (by rw[←e2];exact hb)]
  ·refine .inr (fun ad e=>?_)
   have e3:po=some ad:=e
   have:=own_addr hown e2
   rw[this] at e3;injection e3 with e3
   rw[←e3];exact Nat.le_refl _
 ·show(seC s (A k)).set 13 (.slice po (s.ps.length+1) pc)=seC (addS s x) { A k with po:=po,pc:=pc }
  unfold seC
  rw[hle];rfl
end
theorem parts_part {w0:Fr} {w:World} {qb hb mb nq:Nat} {m:Mg} {L:HL} {q:Mo} {A:Nat→Sx} {F:Nat→Prop} (h:LW w0 w qb hb mb nq m L q A F) (hwf:Wf m) {k:Nat} {s:Se} (hs:q.l[k]? =some s) {t:Tx} (ht:SesTx m s t) (hpp:s.pp=false) (hl:s.ps.length<12) (hn:m.nx≤1000000) (who key n:Int):
  Calls Tryz.prog 21 #[.pointer (some ⟨qb,0,none⟩),.pointer (some ⟨qb,2+k*15,none⟩),actV 3 who key n] w fun x w'=>x= .returned (.bool true)∧ ∃A' F',LW w0 w' qb hb mb nq (m.part t (innS s)) L { q with l:=q.l.set k (addS s m.nx) } A' F':=by
 obtain⟨i1,i2,i3,i4⟩:=inn_ok ht hpp
 have hf:=ses_fnd hwf ht i1 i2
 have hpe:partE m t (innS s)=0:=by
  unfold partE
  rw[i4,if_neg (by decide),if_neg (by rw[ht.ps,List.length_map];omega),if_neg (by omega)]
 have hlt:=(hwf.fnd_lt hf)
 obtain⟨w1,hw1⟩: ∃w1,w1=w.alloc (.cells #[.int .i64 3,.int .i64 who,.int .i64 key,.int .i64 n] 29):=⟨_,rfl⟩
 have h1:LW w0 w1 qb hb mb nq m L q A F:=h.no (by rw[hw1];exact Tch.alloc _ _ _)
 obtain⟨N,hN⟩: ∃N,N=w.heap.size:=⟨_,rfl⟩
 have x0:w1.cell? ⟨N,0,none⟩=some (.int .i64 3):=by rw[hw1,hN,blk_cell (alloc_new _ _)];rfl
 have c13:w1.cell? ⟨qb,2+k*15+13,none⟩=some (.slice (A k).po s.ps.length (A k).pc):=(h1.mor.se k s hs).c 13 _ rfl
 have q1:=writer_any w1 qb (2+k*15) s (A k) (h1.mor.se k s hs)
 have HP:Hid (∀W,LW w0 W qb hb mb nq m L q A F→Calls Tryz.prog 44 #[.pointer (some ⟨mb,0,none⟩),.int .i64 (wrN s (innS s))] W fun x w'=>x= .returned (.tuple #[.int .i64 m.nx,.int .i64 0])∧LW w0 w' qb hb mb nq (m.part t (innS s)) L q A F):=fun W hW=>LW.parts hW hf hpe (by omega) (by omega)
 have H1:Hid (LW w0 w1 qb hb mb nq m L q A F):=h1
 have HS:Hid (q.l[k]? =some s):=hs
 have HW1:Hid (w1=_):=hw1
 have HN:Hid (N=w.heap.size):=hN
 obtain⟨ln,hln⟩: ∃ln,ln=s.ps.length:=⟨_,rfl⟩
 rw[←hln] at hl c13
 have HLn:Hid (ln=s.ps.length):=hln
 obtain⟨ix,hix⟩: ∃ix,ix=innS s:=⟨_,rfl⟩
 obtain⟨wx,hwx⟩: ∃wx,wx=wrN s (innS s):=⟨_,rfl⟩
 rw[←hwx] at HP q1
 rw[←hix] at q1
 have HIx:Hid (ix=innS s):=hix
 have hl12: ¬(12:Int)≤(ln:Int):=by omega
 unfold actV
 clear h h1 hf hpe hlt ht hs hwf hw1 hN hln i1 i2 i3 i4 hpp hix hwx
 go_enter Tryz.func21,Tryz.ntmps21
 go_upto_region 1 with(fail)
 rw[←HW1.out, ←HN.out]
 go_wp2_with fail
 refine q1.mono ?_
 rintro x w2 ⟨rfl,t2⟩
 have H2:Hid (LW w0 w2 qb hb mb nq m L q A F):=H1.out.no t2
 have c0:=H2.out.mor.cm
 clear q1 t2 H1 x0 HW1 HN c13
 go_wp2_with fail
 refine(HP.out w2 H2.out).mono ?_
 rintro x w3 ⟨rfl,h3⟩
 have H3:Hid (LW w0 w3 qb hb mb nq (m.part t (innS s)) L q A F):=h3
 have d13:w3.cell? ⟨qb,2+k*15+13,none⟩=some (.slice (A k).po ln (A k).pc):=by rw[HLn.out];exact(h3.mor.se k s HS.out).c 13 _ rfl
 clear h3 H2 HP c0
 obtain⟨w4,hw4⟩: ∃w4,w4=w3.alloc (.cells #[.int .i64 m.nx,.int .i64 ix,.bool true,.bool false] 100):=⟨_,rfl⟩
 have h4:LW w0 w4 qb hb mb nq (m.part t (innS s)) L q A F:=H3.out.no (by rw[hw4];exact Tch.alloc _ _ _)
 have Hrow:Hid (w4.ownsRow w0.heap.size 100 4 (.slice (A k).po ln (A k).pc) ln (prC s.ps)):=by rw[HLn.out];exact(h4.se k s HS.out).ps
 have Hcl:Hid (∀j u,([.int .i64 m.nx,.int .i64 ix,.bool true,.bool false]:List Value)[j]? =some u→w4.cell? ((⟨w3.heap.size,0,none⟩:Addr).add j)=some u):=fun j u hu=>by
  rw[add_plain,Nat.zero_add,hw4,blk_cell (alloc_new _ _),List.getElem?_toArray];exact hu
 have Hbs:Hid (w0.heap.size≤w4.heap.size):=h4.t.size
 have H4:Hid (LW w0 w4 qb hb mb nq (m.part t (innS s)) L q A F):=h4
 have HW4:Hid (w4=_):=hw4
 obtain⟨i0,hi0,hz0,hz1,hz2⟩:=info_parts info_part
 clear h4 hw4 H3
 go_wp2_with (at_builtin;have hw0:=HW4.out;rw[←hw0];clear hw0;refine wpList_append_keeps _ rfl _ _ 40 rfl w0.heap.size 100 i0 (.agg #[.int .i64 0,.int .i64 0,.bool false,.bool false]) 4 24 Tryz.underlying40 hi0 hz0 hz1 hz2 rfl (by decide) (.slice (A k).po ln (A k).pc) ln (prC s.ps) rfl Hrow.out ⟨w3.heap.size,0,none⟩ 1 1 [.int .i64 m.nx,.int .i64 ix,.bool true,.bool false] rfl (by simp) Hcl.out (by simp[Value.oneCell']) (by unfold maxLen;omega) (by omega) Hbs.out ?_;intro v1 w5 hown1 hgr1 hat1 _;have HO:Hid (w5.ownsRow w0.heap.size 100 4 v1 (ln+1) (prC s.ps++[.int .i64 m.nx,.int .i64 ix,.bool true,.bool false])):=hown1;have HT:Hid (Tch (fun i=>(Value.slice (A k).po ln (A k).pc).ownBlock=some i) w4 w5):=(grown_at (Tch.refl (fun _=>False) w4) hgr1);have HAt:Hid (v1.ownBlock=(Value.slice (A k).po ln (A k).pc).ownBlock∨v1.ownBlock=some w4.heap.size):=hat1;obtain⟨o1,c1,rfl⟩:=row_slice hown1;have bk5:=(HT.out.block qb (blk_lt H4.out.bk) (fun e=>row_ne Hrow.out H4.out.bk (by decide) e rfl)).trans H4.out.bk;have e13:w5.cell? ⟨qb,2+k*15+13,none⟩=some (.slice (A k).po ln (A k).pc):=(by rw[HT.out.cell (p:=⟨qb,2+k*15+13,none⟩) (blk_lt H4.out.bk) (fun e=>row_ne Hrow.out H4.out.bk (by decide) e rfl),HLn.out];exact(H4.out.mor.se k s HS.out).c 13 _ rfl);have f13:=blk_frozen bk5 (2+k*15+13);clear hown1 hgr1 hat1 bk5)
 have HE:Hid (∃A' F',LW w0 (w5.setCell ⟨qb,2+k*15+13,none⟩ (.slice o1 (ln+1) c1)) qb hb mb nq (m.part t (innS s)) L { q with l:=q.l.set k (addS s m.nx) } A' F'):=by
  have ho:=HO.out
  have ht:=HT.out
  have ha:=HAt.out
  rw[HLn.out] at ho ht ha ⊢
  rw[HIx.out] at ho
  exact H4.out.addPart HS.out hn (by have:=HLn.out;omega) ho ht ha
 go_ret
 exact⟨rfl,HE.out⟩
set_option maxRecDepth 100000
theorem parts_full {w0:Fr} {w:World} {qb hb mb nq:Nat} {m:Mg} {L:HL} {q:Mo} {A:Nat→Sx} {F:Nat→Prop} (h:LW w0 w qb hb mb nq m L q A F) {k:Nat} {s:Se} (hs:q.l[k]? =some s) (hl:12≤s.ps.length) (who key n:Int):
  Calls Tryz.prog 21 #[.pointer (some ⟨qb,0,none⟩),.pointer (some ⟨qb,2+k*15,none⟩),actV 3 who key n] w fun x w'=>x= .returned (.bool true)∧Tch (fun _=>False) w w':=by
 obtain⟨w1,hw1⟩: ∃w1,w1=w.alloc (.cells #[.int .i64 3,.int .i64 who,.int .i64 key,.int .i64 n] 29):=⟨_,rfl⟩
 obtain⟨N,hN⟩: ∃N,N=w.heap.size:=⟨_,rfl⟩
 have t1:Tch (fun _=>False) w w1:=by rw[hw1];exact Tch.alloc _ _ _
 have x0:w1.cell? ⟨N,0,none⟩=some (.int .i64 3):=by rw[hw1,hN,blk_cell (alloc_new _ _)];rfl
 have y:w1.cell? ⟨qb,2+k*15+13,none⟩=some (.slice (A k).po s.ps.length (A k).pc):=((h.no t1).mor.se k s hs).c 13 _ rfl
 have hz:(12:Int)≤((s.ps.length:Nat):Int):=by omega
 have HW1:Hid (w1=_):=hw1
 have HN:Hid (N=w.heap.size):=hN
 have HT:Hid (Tch (fun _=>False) w w1):=t1
 unfold actV
 clear h hs hw1 hN t1 hl
 go_enter Tryz.func21,Tryz.ntmps21
 go_upto_region 1 with(fail)
 rw[←HW1.out, ←HN.out]
 go_wp2_with fail
 go_ret
 exact⟨rfl,HT.out⟩
set_option maxRecDepth 100000
def endP (b:Bool) (p:Pr):Pr:= { p with live:=false,bk:=p.bk||b }
def psj (ps:List Pr) (k:Nat) (b:Bool) (n:Nat):List Pr:=ps.mapIdx (fun i p=>if i<n∧within (ps.map ptOf) k ps.length i=true then endP b p else p)
def endS (s:Se) (k:Nat) (b:Bool):Se:= { s with ps:=psj s.ps k b s.ps.length }
theorem psj_len (ps:List Pr) (k:Nat) (b:Bool) (n:Nat):(psj ps k b n).length=ps.length:=by unfold psj;rw[List.length_mapIdx]
theorem psj_get (ps:List Pr) (k:Nat) (b:Bool) (n i:Nat):(psj ps k b n)[i]? =(ps[i]?).map (fun p=>if i<n∧within (ps.map ptOf) k ps.length i=true then endP b p else p):=by
 unfold psj;rw[List.getElem?_mapIdx]
theorem psj_zero (ps:List Pr) (k:Nat) (b:Bool):psj ps k b 0=ps:=by
 apply List.ext_getElem?
 intro i
 rw[psj_get]
 cases ps[i]? with
 |none=>rfl
 |some p=>simp only[Option.map_some];rw[if_neg (by omega)]
theorem psj_succ (ps:List Pr) (k:Nat) (b:Bool) (n:Nat) {p:Pr} (hp:ps[n]? =some p):psj ps k b (n+1)=if within (ps.map ptOf) k ps.length n=true then(psj ps k b n).set n (endP b p) else psj ps k b n:=by
 have hn:=(List.getElem?_eq_some_iff.1 hp).1
 apply List.ext_getElem?
 intro i
 rw[psj_get]
 by_cases hw:within (ps.map ptOf) k ps.length n=true
 ·rw[if_pos hw]
  by_cases e:i=n
  ·subst e
   rw[List.getElem?_set_self (by rw[psj_len];exact hn),hp]
   simp only[Option.map_some]
   rw[if_pos ⟨by omega,hw⟩]
  ·rw[List.getElem?_set_ne (fun e2=>e e2.symm),psj_get]
   cases ps[i]? with
   |none=>rfl
   |some p2=>
    simp only[Option.map_some]
    by_cases h2:i<n∧within (ps.map ptOf) k ps.length i=true
    ·rw[if_pos h2,if_pos ⟨by omega,h2.2⟩]
    ·rw[if_neg h2,if_neg (fun h3=>h2 ⟨by omega,h3.2⟩)]
 ·rw[if_neg hw,psj_get]
  cases ps[i]? with
  |none=>rfl
  |some p2=>
   simp only[Option.map_some]
   by_cases h2:i<n∧within (ps.map ptOf) k ps.length i=true
   ·rw[if_pos h2,if_pos ⟨by omega,h2.2⟩]
   ·rw[if_neg h2,if_neg (fun h3=>by
     by_cases e:i=n
     ·subst e;exact hw h3.2
     ·exact h2 ⟨by omega,h3.2⟩)]
theorem within_ar {ps qs:List Pt} (h:ps.map (·.ar)=qs.map (·.ar)) (o:Int): ∀(f:Nat) (a:Int),within ps o f a=within qs o f a
 |0,_=>rfl
 |f+1,a=>by
  have e:(match ps[a.toNat]? with|some p=>p.ar|none=> -1)=(match qs[a.toNat]? with|some p=>p.ar|none=>(-1:Int)):=by
   have h1:(ps.map (·.ar))[a.toNat]? =(qs.map (·.ar))[a.toNat]? :=by rw[h]
   rw[List.getElem?_map,List.getElem?_map] at h1
   cases e1:ps[a.toNat]? with
   |none=>
    rw[e1] at h1
    cases e2:qs[a.toNat]? with
    |none=>rfl
    |some p=>rw[e2] at h1;cases h1
   |some p=>
    rw[e1] at h1
    cases e2:qs[a.toNat]? with
    |none=>rw[e2] at h1;cases h1
    |some p2=>rw[e2] at h1;injection h1
  show(if a>o then within ps o f _ else a==o)=if a>o then within qs o f _ else a==o
  by_cases hgt:a>o
  ·rw[if_pos hgt,if_pos hgt,within_ar h o f]
   exact congrArg _ e
  ·rw[if_neg hgt,if_neg hgt]
theorem psj_within (ps:List Pr) (k:Nat) (b:Bool) (n:Nat) (i:Int):within ((psj ps k b n).map ptOf) k (psj ps k b n).length i=within (ps.map ptOf) k ps.length i:=by
 rw[psj_len]
 refine within_ar ?_ _ _ _
 rw[List.map_map,List.map_map]
 apply List.ext_getElem?
 intro j
 rw[List.getElem?_map,List.getElem?_map,psj_get]
 cases ps[j]? with
 |none=>rfl
 |some p=>
  simp only[Option.map_some]
  split<;>rfl
theorem endS_tx {m m':Mg} {s:Se} {t:Tx} (ht:SesTx m s t) {k:Nat} {b:Bool} (hmem:({ t with ps:=endPs t.ps k (if b then 2 else 1) } :Tx)∈m'.tx):SesTx m' (endS s k b) { t with ps:=endPs t.ps k (if b then 2 else 1) } :=by
 refine⟨hmem,ht.x,ht.st,?_⟩
 show endPs t.ps k _=(psj s.ps k b s.ps.length).map ptOf
 rw[ht.ps]
 apply List.ext_getElem?
 intro i
 unfold endPs
 rw[List.getElem?_mapIdx,List.getElem?_map,List.getElem?_map,psj_get,List.length_map]
 cases hp:s.ps[i]? with
 |none=>rfl
 |some p=>
  have hi:=(List.getElem?_eq_some_iff.1 hp).1
  simp only[Option.map_some]
  by_cases hw:within (s.ps.map ptOf) (k:Int) s.ps.length i=true
  ·have e1:(if i<s.ps.length∧within (s.ps.map ptOf) (k:Int) s.ps.length i=true then endP b p else p)=endP b p:=if_pos ⟨hi,hw⟩
   rw[e1]
   have e2:({ ptOf p with ft:=max (ptOf p).ft (if b=true then 2 else 1) } :Pt)=ptOf (endP b p):=by
    unfold ptOf endP
    cases b<;>cases p.bk<;>cases p.live<;>rfl
   rw[←e2]
   exact congrArg some (if_pos hw)
  ·have e1:(if i<s.ps.length∧within (s.ps.map ptOf) (k:Int) s.ps.length i=true then endP b p else p)=p:=if_neg (fun h=>hw h.2)
   rw[e1]
   exact congrArg some (if_neg hw)
theorem endS_wr (s:Se) (k:Nat) (b:Bool) (i:Int):wrN (endS s k b) i=wrN s i∧(stdI (endS s k b) i=true→stdI s i=true):=by
 have e:(endS s k b).ps[i.toNat]? =(s.ps[i.toNat]?).map (fun p=>if i.toNat<s.ps.length∧within (s.ps.map ptOf) k s.ps.length i.toNat=true then endP b p else p):=psj_get _ _ _ _ _
 unfold wrN stdI
 by_cases h0:0≤i
 ·rw[if_pos h0,if_pos h0,if_pos h0,if_pos h0,e]
  cases s.ps[i.toNat]? with
  |none=>exact⟨rfl,fun h=>h⟩
  |some p=>
   simp only[Option.map_some]
   split
   ·refine⟨rfl,fun h=>?_⟩
    have h:(!(p.bk||b))=true:=h
    cases hb:p.bk with
    |false=>rfl
    |true=>rw[hb] at h;cases h
   ·exact⟨rfl,fun h=>h⟩
 ·rw[if_neg h0,if_neg h0,if_neg h0,if_neg h0]
  exact⟨rfl,fun h=>h⟩
set_option maxRecDepth 100000
theorem prC_set: ∀(l:List Pr) (i:Nat) (p p':Pr) (j:Nat) (v:Value),l[i]? =some p→j<4→([Value.int .i64 p.x,.int .i64 p.par,.bool p.live,.bool p.bk]).set j v=[.int .i64 p'.x,.int .i64 p'.par,.bool p'.live,.bool p'.bk]→(prC l).set (i*4+j) v=prC (l.set i p')
 |[],_,_,_,_,_,h,_,_=>by cases h
 |q::l,0,p,p',j,v,h,hj,e=>by
  injection h with h;subst h
  have e1:prC (q::l)=[.int .i64 q.x,.int .i64 q.par,.bool q.live,.bool q.bk]++prC l:=rfl
  have e2:prC ((q::l).set 0 p')=[.int .i64 p'.x,.int .i64 p'.par,.bool p'.live,.bool p'.bk]++prC l:=rfl
  rw[e1,e2, ←e,Nat.zero_mul,Nat.zero_add,List.set_append_left _ _ (by simp only[List.length_cons,List.length_nil];omega)]
 |q::l,i+1,p,p',j,v,h,hj,e=>by
  have ih:=prC_set l i p p' j v h hj e
  have e1:prC (q::l)=[.int .i64 q.x,.int .i64 q.par,.bool q.live,.bool q.bk]++prC l:=rfl
  have e2:prC ((q::l).set (i+1) p')=[.int .i64 q.x,.int .i64 q.par,.bool q.live,.bool q.bk]++prC (l.set i p'):=rfl
  rw[e1,e2, ←ih,List.set_append_right _ _ (by simp only[List.length_cons,List.length_nil];omega)]
  congr 2
  simp only[List.length_cons,List.length_nil];omega
theorem moC_eq (q:Mo) (hl:q.l.length=5) (mb hb:Nat) (A:Nat→Sx) {k:Nat} {s s':Se} (hs:q.l[k]? =some s) (he:seC s' (A k)=seC s (A k)):moC { q with l:=q.l.set k s' } mb hb A=moC q mb hb A:=by
 obtain⟨l,now,wn,n⟩:=q
 obtain⟨s0,s1,s2,s3,s4,rfl⟩:=five l hl
 have hk:=(List.getElem?_eq_some_iff.1 hs).1
 simp only[List.length_cons,List.length_nil] at hk
 rcases(by omega:k=0∨k=1∨k=2∨k=3∨k=4) with rfl|rfl|rfl|rfl|rfl
 all_goals
  injection hs with hs
  subst hs
  unfold moC
  simp only[List.set_cons_zero,List.set_cons_succ,List.getD_cons_zero,List.getD_cons_succ,he]
section
variable {w0:Fr} {w w':World} {qb hb mb nq:Nat} {m:Mg} {L:HL} {q:Mo} {A:Nat→Sx} {F:Nat→Prop}
theorem LW.inlist (h:LW w0 w qb hb mb nq m L q A F) {k:Nat} {s:Se} (hs:q.l[k]? =some s) {ps':List Pr} (hlen:ps'.length=s.ps.length) (t:Tch (fun i=>(Value.slice (A k).po s.ps.length (A k).pc).ownBlock=some i) w w')
  (hown:w'.ownsRow w0.heap.size 100 4 (.slice (A k).po s.ps.length (A k).pc) s.ps.length (prC ps')) (hb':SeBd { s with ps:=ps' }):LW w0 w' qb hb mb nq m L { q with l:=q.l.set k { s with ps:=ps' } } A F:=by
 have hk:k<5:=by have:=(List.getElem?_eq_some_iff.1 hs).1;have:=h.ln;omega
 have hsk:=h.se k s hs
 have hSq: ¬(Value.slice (A k).po s.ps.length (A k).pc).ownBlock=some qb:=fun e=>row_ne hsk.ps h.bk (by decide) e rfl
 have hsc:seC { s with ps:=ps' } (A k)=seC s (A k):=by
  unfold seC
  show[_,_,_,_,_,_,_,_,_,_,_,_,_,Value.slice (A k).po ps'.length (A k).pc,_]=_
  rw[hlen]
 refine⟨h.hs.tch t (fun i _ e=>hsk.psf i e),h.f0,h.fq,h.q0,?_,by show(q.l.set k _).length=5;rw[List.length_set];exact h.ln,fun j2 u hu=>?_,fun j2 u hu=>?_,h.ap,h.t.trans t (fun i hi e=>by have:=row_ge hsk.ps e;omega) (fun i _ g e=>g.own hsk.ps (.inl rfl) e)⟩
 ·rw[moC_eq q h.ln mb hb A hs hsc]
  exact(t.block qb (blk_lt h.bk) hSq).trans h.bk
 ·rcases set_get hs hu with⟨e1,e2⟩|⟨hne,hu⟩
  ·rw[e1,e2]
   refine⟨own_tch hsk.on t (fun g e e2=>absurd (own_ty hsk.on hsk.ps e e2) (by decide)),hsk.onf,?_,fun g e=>hsk.psf g ?_,own_tch hsk.ws t (fun g e e2=>absurd (own_ty hsk.ws hsk.ps e e2) (by decide)),hsk.wsf⟩
   ·show w'.ownsRow w0.heap.size _ 4 (.slice (A k).po ps'.length (A k).pc) ps'.length (prC ps')
    rw[hlen];exact hown
   ·rw[←hlen];exact e
  ·have hI2:=h.se j2 u hu
   have j5:j2<5:=by have:=(List.getElem?_eq_some_iff.1 hu).1;have:=h.ln;omega
   refine⟨own_tch hI2.on t (fun g e e2=>absurd (own_ty hI2.on hsk.ps e e2) (by decide)),hI2.onf,own_tch hI2.ps t (fun g e e2=>?_),hI2.psf,own_tch hI2.ws t (fun g e e2=>absurd (own_ty hI2.ws hsk.ps e e2) (by decide)),hI2.wsf⟩
   exact(h.ap j2 k hne j5 hk ⟨g,0,none⟩ ⟨g,0,none⟩).1 (own_addr hI2.ps e) (own_addr hsk.ps e2) rfl
 ·rcases set_get hs hu with⟨e1,e2⟩|⟨hne,hu⟩
  ·rw[e2];exact hb'
  ·exact h.bd j2 u hu
end
end Go.Proofs.YtppokgdofgigfaaGreat.F
