import Derived.Test.YtppokgdofgigfaaGreatFE0
import Derived.Deep.MidRow
import Derived.Deep.Cut
set_option maxHeartbeats 8000000
set_option maxRecDepth 100000
namespace Go.Proofs.YtppokgdofgigfaaGreat.F
open Go.RowKit Go Go.Sort
set_option maxRecDepth 100000
theorem five (l:List Se) (h:l.length=5): ∃s0 s1 s2 s3 s4,l=[s0,s1,s2,s3,s4]:=by
 rcases l with _|⟨c0,_|⟨c1,_|⟨c2,_|⟨c3,_|⟨c4,_|⟨c5,l⟩⟩⟩⟩⟩⟩<;>simp at h
 exact⟨c0,c1,c2,c3,c4,rfl⟩
def updA (A:Nat→Sx) (k:Nat) (a:Sx):Nat→Sx:=fun j=>if j=k then a else A j
theorem updA_same (A:Nat→Sx) (k:Nat) (a:Sx):updA A k a k=a:=if_pos rfl
theorem updA_other (A:Nat→Sx) {k j:Nat} (a:Sx) (h:j≠k):updA A k a j=A j:=if_neg h
theorem moC_set (q:Mo) (hl:q.l.length=5) (mb hb:Nat) (A:Nat→Sx) {k:Nat} (hk:k<5) (s':Se) (a':Sx):(moC q mb hb A).take (2+k*15)++(seC s' a'++(moC q mb hb A).drop (2+k*15+15))=moC { q with l:=q.l.set k s' } mb hb (updA A k a'):=by
 obtain⟨l,now,wn,n⟩:=q
 obtain⟨s0,s1,s2,s3,s4,rfl⟩:=five l hl
 rcases(by omega:k=0∨k=1∨k=2∨k=3∨k=4) with rfl|rfl|rfl|rfl|rfl<;>rfl
theorem moC_cell (q:Mo) (hl:q.l.length=5) (mb hb:Nat) (A:Nat→Sx) {k:Nat} (hk:k<5) {s s':Se} {a':Sx} (hs:q.l[k]? =some s) {j:Nat} (hj:j<15) {v:Value} (hv:(seC s (A k)).set j v=seC s' a'):(moC q mb hb A).set (2+k*15+j) v=moC { q with l:=q.l.set k s' } mb hb (updA A k a'):=by
 rw[←moC_set q hl mb hb A hk s' a', ←hv]
 apply List.ext_getElem?
 intro i
 have e:=fun {j:Nat} (hj:j<15)=>moC_se q mb hb A hk hj
 rw[getD_some hs] at e
 have hlen:(moC q mb hb A).length=90:=rfl
 by_cases h1:i<2+k*15
 ·rw[List.getElem?_set_ne (by omega),List.getElem?_append_left (by rw[List.length_take];omega),List.getElem?_take_of_lt h1]
 ·by_cases h2:i<2+k*15+15
  ·obtain⟨i',rfl⟩: ∃i',i=2+k*15+i':=⟨i - (2+k*15),by omega⟩
   have hi':i'<15:=by omega
   rw[List.getElem?_append_right (by rw[List.length_take];omega),List.length_take]
   rw[show 2+k*15+i' - min (2+k*15) (moC q mb hb A).length=i' by omega]
   rw[List.getElem?_append_left (by rw[List.length_set,seC_len];exact hi')]
   by_cases h3:i'=j
   ·subst h3
    rw[List.getElem?_set_self (by omega),List.getElem?_set_self (by rw[seC_len];exact hi')]
   ·rw[List.getElem?_set_ne (by omega),List.getElem?_set_ne (by omega),e hi']
  ·rw[List.getElem?_set_ne (by omega),List.getElem?_append_right (by rw[List.length_take];omega),List.length_take,List.getElem?_append_right (by rw[List.length_set,seC_len];omega),List.length_set,seC_len,List.getElem?_drop]
   congr 1
   omega
theorem moC_nset (q:Mo) (mb hb:Nat) (A:Nat→Sx) (n:Nat):(moC q mb hb A).set 89 (.int .i64 n)=moC { q with n:=n } mb hb A:=rfl
def set6 (l:List Nat) (κ n:Nat):List Nat:=[if κ=0 then n else l.getD 0 0,if κ=1 then n else l.getD 1 0,if κ=2 then n else l.getD 2 0,if κ=3 then n else l.getD 3 0,if κ=4 then n else l.getD 4 0,if κ=5 then n else l.getD 5 0]
theorem set6_get (l:List Nat) {κ j:Nat} (hκ:κ<6) (hj:j<6) (n:Nat):(set6 l κ n).getD j 0=if j=κ then n else l.getD j 0:=by
 rcases(by omega:κ=0∨κ=1∨κ=2∨κ=3∨κ=4∨κ=5) with rfl|rfl|rfl|rfl|rfl|rfl<;>rcases(by omega:j=0∨j=1∨j=2∨j=3∨j=4∨j=5) with rfl|rfl|rfl|rfl|rfl|rfl<;>rfl
theorem moC_nowset (q:Mo) (mb hb:Nat) (A:Nat→Sx) {κ:Nat} (hκ:κ<6) (n:Nat):(moC q mb hb A).set (77+κ) (.int .i64 n)=moC { q with now:=set6 q.now κ n } mb hb A:=by
 rcases(by omega:κ=0∨κ=1∨κ=2∨κ=3∨κ=4∨κ=5) with rfl|rfl|rfl|rfl|rfl|rfl<;>rfl
theorem moC_wnset (q:Mo) (mb hb:Nat) (A:Nat→Sx) {κ:Nat} (hκ:κ<6) (n:Nat):(moC q mb hb A).set (83+κ) (.int .i64 n)=moC { q with wn:=set6 q.wn κ n } mb hb A:=by
 rcases(by omega:κ=0∨κ=1∨κ=2∨κ=3∨κ=4∨κ=5) with rfl|rfl|rfl|rfl|rfl|rfl<;>rfl
section
variable {w0:Fr} {w w':World} {qb hb mb nq:Nat} {m:Mg} {L:HL} {q:Mo} {A:Nat→Sx} {F:Nat→Prop}
theorem LW.model {q':Mo} (h:LW w0 w qb hb mb nq m L q A F) (t:Tch (fun i=>i=qb) w w') (bk:w'.heap[qb]? =some (.cells (moC q' mb hb A).toArray 46 (0,0))) (hl:q'.l=q.l):LW w0 w' qb hb mb nq m L q' A F:=by
 have hne: ∀ {b sz n:Nat} {ty:TypeId} {v:Value} {xs:List Value},w.ownsRow b ty sz v n xs→ty≠46→ ∀g,v.ownBlock=some g→ ¬g=qb:=fun ho hty g e e2=>by
  subst e2
  exact row_ne ho h.bk hty e rfl
 refine⟨h.hs.tch t (fun i _ e=>by rw[e];exact h.fq),h.f0,h.fq,h.q0,bk,by rw[hl];exact h.ln,fun k s hs=>?_,fun k s hs=>h.bd k s (by rw[←hl];exact hs),h.ap,h.t.trans t (fun i hi e=>by have:=h.q0;omega) (fun i _ g e=>g.ne h.bk e)⟩
 have hI:=h.se k s (by rw[←hl];exact hs)
 exact⟨own_tch hI.on t (hne hI.on (by decide)),hI.onf,own_tch hI.ps t (hne hI.ps (by decide)),hI.psf,own_tch hI.ws t (hne hI.ws (by decide)),hI.wsf⟩
theorem LW.setN (h:LW w0 w qb hb mb nq m L q A F) (n:Nat):LW w0 (w.setCell ⟨qb,89,none⟩ (.int .i64 n)) qb hb mb nq m L { q with n:=n } A F:=
 h.model (Tch.setCell _ _ _ _ rfl) ((blk_set (i:=89) h.bk _).trans (by rw[List.setIfInBounds_toArray,moC_nset])) rfl
theorem LW.setNow (h:LW w0 w qb hb mb nq m L q A F) {κ:Nat} (hκ:κ<6) (n:Nat):LW w0 (w.setCell ⟨qb,77+κ,none⟩ (.int .i64 n)) qb hb mb nq m L { q with now:=set6 q.now κ n } A F:=
 h.model (Tch.setCell _ _ _ _ rfl) ((blk_set (i:=77+κ) h.bk _).trans (by rw[List.setIfInBounds_toArray,moC_nowset q mb hb A hκ])) rfl
theorem LW.setWn (h:LW w0 w qb hb mb nq m L q A F) {κ:Nat} (hκ:κ<6) (n:Nat):LW w0 (w.setCell ⟨qb,83+κ,none⟩ (.int .i64 n)) qb hb mb nq m L { q with wn:=set6 q.wn κ n } A F:=
 h.model (Tch.setCell _ _ _ _ rfl) ((blk_set (i:=83+κ) h.bk _).trans (by rw[List.setIfInBounds_toArray,moC_wnset q mb hb A hκ])) rfl
theorem LW.frz (h:LW w0 w qb hb mb nq m L q A F) (j:Nat):w.frozen? ⟨qb,j,none⟩=false:=blk_frozen h.bk j
theorem LW.there (h:LW w0 w qb hb mb nq m L q A F) {o n:Nat} (hn:o+n≤90):w.there qb o n:=fun j hj=>by
 refine⟨?_,h.frz _⟩
 rw[blk_cell h.bk,List.getElem?_toArray]
 have:o+j<(moC q mb hb A).length:=by show o+j<90;omega
 rw[List.getElem?_eq_getElem this];rfl
end
set_option maxRecDepth 100000
theorem set_blk {g:Nat} {t:TypeId} : ∀(vs:List Value) (o:Nat) (W:World) (cur:Array Value),W.heap[g]? =some (.cells cur t (0,0))→o+vs.length≤cur.size→(W.setCells g o vs).heap[g]? =some (.cells (cur.toList.take o++vs++cur.toList.drop (o+vs.length)).toArray t (0,0))
 |[],o,W,cur,h,hs=>by
  have e:(cur.toList.take o++[]++cur.toList.drop (o+([]:List Value).length)).toArray=cur:=by simp
  rw[e];exact h
 |v::vs,o,W,cur,h,hs=>by
  simp only[List.length_cons] at hs
  have h2:=set_blk vs (o+1) (W.setCell ⟨g,o,none⟩ v) (cur.setIfInBounds o v) (blk_set h v) (by simp;omega)
  have ho:o<cur.toList.length:=by simp;omega
  have e:(cur.setIfInBounds o v).toList.take (o+1)++vs++(cur.setIfInBounds o v).toList.drop (o+1+vs.length)=cur.toList.take o++(v::vs)++cur.toList.drop (o+(v::vs).length):=by
   rw[Array.toList_setIfInBounds,List.drop_set_of_lt (by omega),List.take_set,List.take_succ_eq_append_getElem ho,List.set_append_right _ _ (by simp;omega)]
   have e3:o - (cur.toList.take o).length=0:=by simp;omega
   rw[e3]
   simp[Nat.add_assoc,Nat.add_comm 1]
  rw[e] at h2
  exact h2
theorem tch_cells (g:Nat): ∀(vs:List Value) (o:Nat) (W:World),Tch (fun i=>i=g) W (W.setCells g o vs)
 |[],_,_=>Tch.refl _ _
 |v::vs,o,W=>(Tch.setCell (fun i=>i=g) W ⟨g,o,none⟩ v rfl).trans' (tch_cells g vs (o+1) _)
theorem moC_size (q:Mo) (mb hb:Nat) (A:Nat→Sx):(moC q mb hb A).toArray.size=90:=by
 rw[List.size_toArray];rfl
section
variable {w0:Fr} {w w':World} {qb hb mb nq:Nat} {m:Mg} {L:HL} {q:Mo} {A:Nat→Sx} {F:Nat→Prop}
theorem LW.sess (h:LW w0 w qb hb mb nq m L q A F) {k:Nat} (hk:k<5) {s':Se} {a':Sx} (hI:SeIn w0 w F s' a') (hb':SeBd s') (hap: ∀j,j≠k→j<5→ ∀a a2,(a'.po=some a→(A j).po=some a2→a.block≠a2.block)∧(a'.wo=some a→(A j).wo=some a2→a.block≠a2.block)):
  LW w0 (w.setCells qb (2+k*15) (seC s' a')) qb hb mb nq m L { q with l:=q.l.set k s' } (updA A k a') F:=by
 have t:=tch_cells qb (seC s' a') (2+k*15) w
 have hne: ∀ {b sz n:Nat} {ty:TypeId} {v:Value} {xs:List Value},w.ownsRow b ty sz v n xs→ty≠46→ ∀g,v.ownBlock=some g→ ¬g=qb:=fun ho hty g e e2=>by
  subst e2
  exact row_ne ho h.bk hty e rfl
 have hst: ∀(s:Se) (a:Sx),SeIn w0 w F s a→SeIn w0 (w.setCells qb (2+k*15) (seC s' a')) F s a:=fun s a hI=>⟨own_tch hI.on t (hne hI.on (by decide)),hI.onf,own_tch hI.ps t (hne hI.ps (by decide)),hI.psf,own_tch hI.ws t (hne hI.ws (by decide)),hI.wsf⟩
 have hget: ∀(j:Nat) (s:Se),(q.l.set k s')[j]? =some s→(j=k∧s=s')∨(j≠k∧q.l[j]? =some s):=fun j s hj=>by
  obtain⟨s0,hs0⟩: ∃s0,q.l[k]? =some s0:=⟨_,List.getElem?_eq_getElem (by have:=h.ln;omega)⟩
  exact set_get hs0 hj
 refine⟨h.hs.tch t (fun i _ e=>by rw[e];exact h.fq),h.f0,h.fq,h.q0,?_,by show(q.l.set k s').length=5;rw[List.length_set];exact h.ln,fun j s hj=>?_,fun j s hj=>?_,fun j j' hjj h5 h5' a a2=>?_,h.t.trans t (fun i hi e=>by have:=h.q0;omega) (fun i _ g e=>g.ne h.bk e)⟩
 ·have hb2:=set_blk (seC s' a') (2+k*15) w _ h.bk (by rw[moC_size,seC_len];omega)
  rw[seC_len,List.append_assoc,moC_set q h.ln mb hb A hk s' a'] at hb2
  exact hb2
 ·rcases hget j s hj with⟨rfl,rfl⟩|⟨hne,hs⟩
  ·rw[updA_same];exact hst _ _ hI
  ·rw[updA_other A a' hne];exact hst _ _ (h.se j s hs)
 ·rcases hget j s hj with⟨rfl,rfl⟩|⟨hne,hs⟩
  ·exact hb'
  ·exact h.bd j s hs
 ·by_cases e:j=k
  ·subst e
   rw[updA_same,updA_other A a' (fun e=>hjj e.symm)]
   exact hap j' (fun e=>hjj e.symm) h5' a a2
  ·by_cases e':j'=k
   ·subst e'
    rw[updA_other A a' e,updA_same]
    have:=hap j e h5 a2 a
    exact⟨fun h1 h2 e2=>this.1 h2 h1 e2.symm,fun h1 h2 e2=>this.2 h2 h1 e2.symm⟩
   ·rw[updA_other A a' e,updA_other A a' e']
    exact h.ap j j' hjj h5 h5' a a2
theorem LW.seKept (h:LW w0 w qb hb mb nq m L q A F) {k:Nat} {s:Se} (hs:q.l[k]? =some s) (t:Tch (fun i=>i=qb) w w'):SeIn w0 w' F s (A k):=by
 have hne: ∀ {b sz n:Nat} {ty:TypeId} {v:Value} {xs:List Value},w.ownsRow b ty sz v n xs→ty≠46→ ∀g,v.ownBlock=some g→ ¬g=qb:=fun ho hty g e e2=>by
  subst e2
  exact row_ne ho h.bk hty e rfl
 have hI:=h.se k s hs
 exact⟨own_tch hI.on t (hne hI.on (by decide)),hI.onf,own_tch hI.ps t (hne hI.ps (by decide)),hI.psf,own_tch hI.ws t (hne hI.ws (by decide)),hI.wsf⟩
def sx0:Sx:=⟨none,0,none,0,none,0⟩
theorem se0_in (w0:Fr) (w:World) (F:Nat→Prop):SeIn w0 w F se0 sx0:=⟨World.ownsRow_nil _ _ _ _,(fun g e=>by cases e),World.ownsRow_nil _ _ _ _,(fun g e=>by cases e),World.ownsRow_nil _ _ _ _,(fun g e=>by cases e)⟩
theorem se0_bd:SeBd se0:=⟨Nat.zero_le _,Nat.zero_le _,(fun i v e=>by cases e),(fun v hv=>by cases hv),fun κ hκ=>by
 rcases(by omega:κ=0∨κ=1∨κ=2∨κ=3∨κ=4∨κ=5) with rfl|rfl|rfl|rfl|rfl|rfl<;>exact Nat.zero_le _⟩
theorem LW.close (h:LW w0 w qb hb mb nq m L q A F) {k:Nat} (hk:k<5):LW w0 (w.setCells qb (2+k*15) (seC se0 sx0)) qb hb mb nq m L { q with l:=q.l.set k se0 } (updA A k sx0) F:=
 h.sess hk (se0_in _ _ _) se0_bd (fun _ _ _ _ _=>⟨(fun e=>by cases e),(fun e=>by cases e)⟩)
end
theorem siz_ses:(Tryz.prog.info? 43).map (·.size)=some 15:=by kernel_rfl
set_option maxRecDepth 100000
theorem one_seC (s:Se) (a:Sx):((seC s a).toArray.all (·.oneCell'))=true:=by simp[seC,Value.oneCell']
def actV (kind who key n:Int):Value:= .agg #[.int .i64 kind,.int .i64 who,.int .i64 key,.int .i64 n]
def E1 (w0:Fr) (qb hb mb nq:Nat) (m m':Mg) (L:HL) (q:Mo) (A:Nat→Sx) (F:Nat→Prop) (v:Value) (s:List Value) (W:World):Prop:=match s with
 |[]=>LW w0 W qb hb mb nq m L q A F
 |[y]=>y=v∧LW w0 W qb hb mb nq m' L q A F
 |_=>False
theorem E1.mor {w0:Fr} {qb hb mb nq:Nat} {m m':Mg} {L:HL} {q:Mo} {A:Nat→Sx} {F:Nat→Prop} {v:Value} {s:List Value} {W:World} (h:E1 w0 qb hb mb nq m m' L q A F v s W):MoR W qb mb hb q A:=by
 match s,h with
 |[],h=>exact LW.mor h
 |[_],h=>exact h.2.mor
theorem ends_abort {w0:Fr} {w:World} {qb hb mb nq:Nat} {m:Mg} {L:HL} {q:Mo} {A:Nat→Sx} {F:Nat→Prop} (h:LW w0 w qb hb mb nq m L q A F) (hwf:Wf m) {k:Nat} {s:Se} (hs:q.l[k]? =some s) {t:Tx} (ht:SesTx m s t) (hx:s.x≤1000000) (who key n:Int):
  Calls Tryz.prog 20 #[.pointer (some ⟨qb,0,none⟩),.int .i64 k,actV 2 who key n] w fun x w'=>x= .returned (.bool true)∧LW w0 w' qb hb mb nq (m.fin t.x 4) L { q with l:=q.l.set k se0 } (updA A k sx0) F:=by
 have hk:k<5:=by have:=(List.getElem?_eq_some_iff.1 hs).1;have:=h.ln;omega
 obtain⟨w1,hw1⟩: ∃w1,w1=w.alloc (.cells #[.int .i64 2,.int .i64 who,.int .i64 key,.int .i64 n] 29):=⟨_,rfl⟩
 have h1:LW w0 w1 qb hb mb nq m L q A F:=h.no (by rw[hw1];exact Tch.alloc _ _ _)
 obtain⟨N,hN⟩: ∃N,N=w.heap.size:=⟨_,rfl⟩
 have x0:w1.cell? ⟨N,0,none⟩=some (.int .i64 2):=by rw[hw1,hN,blk_cell (alloc_new _ _)];rfl
 have hf:=ses_x hwf ht
 have hst:=ht.lt3.2
 obtain⟨C,hC⟩: ∃C:List Value→World→Prop,C=E1 w0 qb hb mb nq m (m.fin t.x 4) L q A F (.int .i64 0):=⟨_,rfl⟩
 have hK:Hid (∀s1 W,C s1 W→W.cell? ⟨qb,0,none⟩=some (.pointer (some ⟨mb,0,none⟩))∧W.cell? ⟨qb,2+k*15+2,none⟩=some (.int .i64 s.x)):=fun s1 W hW=>by
  rw[hC] at hW
  exact⟨hW.mor.cm,(hW.mor.se k s hs).c 2 _ rfl⟩
 have h0':C [] w1.drew:=by
  rw[hC]
  exact LW.no h1 (Tch.refl _ _).drew
 have c1:Hid (∀W,C [] W→Calls Tryz.prog 40 #[.pointer (some ⟨mb,0,none⟩),.int .i64 s.x] W fun x W'=> ∃y,x= .returned y∧C [y] W'):=fun W hW=>by
  rw[hC] at hW ⊢
  exact(LW.aborts hW hf hst (by omega) (by omega)).mono fun x W' ⟨e,h2⟩=>⟨_,e,rfl,h2⟩
 have s1:Hid (∀y W,C [y] W→y= .int .i64 0):=fun y W hW=>by
  rw[hC] at hW
  exact hW.1
 have HF:Hid (∀y W,C [y] W→LW w0 W qb hb mb nq (m.fin t.x 4) L q A F):=fun y W hW=>by
  rw[hC] at hW
  exact hW.2
 have HW1:Hid (w1=_):=hw1
 have HN:Hid (N=w.heap.size):=hN
 unfold actV
 clear h h1 hC hf hst ht hs hwf hx hw1 hN
 go_enter Tryz.func20,Tryz.ntmps20
 go_upto_region 3 with(fail)
 rw[←HW1.out, ←HN.out]
 go_upto_region 4 with(fail)
 refine wp_region_ordv [8] C 9 [0,1,2,3,4,5,6,7,8] (by kernel_rfl) (by kernel_rfl) h0' ?_
 clear h0'
 iterate 8
  refine ordv_read rfl (by go_simp) (by rfl) ?_
  apply Exists.intro
  refine⟨fun s' W hW b K Q hK'=>?_,fun K hK'=>?_⟩
  ·obtain⟨q0,q1⟩:=hK.out _ W hW
   go_simp
   exact hK' W hW
  go_simp
  refine hK' _ ?_
  clear hK' K
 refine ordv_turn rfl (by go_simp) (by rfl) (fun W hW b K Q hK'=>?_) (fun u hu K hK'=>?_)
 ·go_simp
  go_at_call 40
  refine(c1.out W hW).mono ?_
  rintro x w' ⟨y,rfl,h1⟩
  exact hK' y w' h1
 obtain rfl:u= .int .i64 0:=by
  obtain⟨W',hW'⟩:=hu
  exact s1.out u W' hW'
 clear hu c1 s1
 go_simp
 refine hK' _ ?_
 clear hK' K
 refine ordv_nil ?_
 intro w5 hw5
 have H5:Hid (LW w0 w5 qb hb mb nq (m.fin t.x 4) L q A F):=HF.out _ w5 hw5
 clear hK HF hw5 x0 HW1 HN
 go_upto_region 14 with(fail)
 go_simp
 iterate 19 (first|go_values|go_skip|go_guarded|go_step|go_upon|go_in|go_back)
 refine wpList_store_mid rfl 43 (.tmp 74) (.tmp 71) rfl qb (2+k*15) (seC se0 sx0).toArray rfl rfl (H5.out.there (by show 2+k*15+15≤90;omega)) siz_ses (one_seC _ _) ?_
 have H6:Hid (LW w0 (w5.setCells qb (2+k*15) (seC se0 sx0)) qb hb mb nq (m.fin t.x 4) L { q with l:=q.l.set k se0 } (updA A k sx0) F):=H5.out.close hk
 obtain⟨w6,hw6⟩: ∃w6,w6=w5.setCells qb (2+k*15) (seC se0 sx0):=⟨_,rfl⟩
 rw[←hw6] at H6
 have e6:w5.setCells qb (2+k*15) (seC se0 sx0).toArray.toList=w6:=by rw[hw6]
 rw[e6]
 clear e6 hw6 H5
 go_wp2_with fail
 go_ret
 exact⟨rfl,H6.out⟩
set_option maxRecDepth 100000
def qj (q:Mo) (s:Se):Nat→Mo
 |0=> { q with n:=q.n+1 }
 |κ+1=>if wroteS s κ then { qj q s κ with now:=set6 (qj q s κ).now κ (seesS s κ),wn:=set6 (qj q s κ).wn κ (q.n+1) } else qj q s κ
theorem qj_l (q:Mo) (s:Se): ∀κ,(qj q s κ).l=q.l
 |0=>rfl
 |κ+1=>by
  unfold qj
  split
  ·exact qj_l q s κ
  ·exact qj_l q s κ
theorem qj_n (q:Mo) (s:Se): ∀κ,(qj q s κ).n=q.n+1
 |0=>rfl
 |κ+1=>by
  unfold qj
  split
  ·exact qj_n q s κ
  ·exact qj_n q s κ
theorem qj_now (q:Mo) (s:Se): ∀κ,κ≤6→ ∀j,j<6→(qj q s κ).now.getD j 0=if j<κ∧wroteS s j=true then seesS s j else q.now.getD j 0
 |0,_,j,_=>by rw[if_neg (by omega)];rfl
 |κ+1,hκ,j,hj=>by
  have ih:=qj_now q s κ (by omega) j hj
  unfold qj
  split
  ·rename_i hw
   show(set6 (qj q s κ).now κ (seesS s κ)).getD j 0=_
   rw[set6_get _ (by omega) hj]
   by_cases e:j=κ
   ·subst e;rw[if_pos rfl,if_pos ⟨by omega,hw⟩]
   ·rw[if_neg e,ih]
    by_cases h2:j<κ∧wroteS s j=true
    ·rw[if_pos h2,if_pos ⟨by omega,h2.2⟩]
    ·rw[if_neg h2,if_neg (fun h3=>h2 ⟨by omega,h3.2⟩)]
  ·rename_i hw
   rw[ih]
   by_cases e:j=κ
   ·subst e;rw[if_neg (fun h=>by omega),if_neg (fun h=>hw h.2)]
   ·by_cases h2:j<κ∧wroteS s j=true
    ·rw[if_pos h2,if_pos ⟨by omega,h2.2⟩]
    ·rw[if_neg h2,if_neg (fun h3=>h2 ⟨by omega,h3.2⟩)]
theorem qj_wn (q:Mo) (s:Se): ∀κ,κ≤6→ ∀j,j<6→(qj q s κ).wn.getD j 0=if j<κ∧wroteS s j=true then q.n+1 else q.wn.getD j 0
 |0,_,j,_=>by rw[if_neg (by omega)];rfl
 |κ+1,hκ,j,hj=>by
  have ih:=qj_wn q s κ (by omega) j hj
  unfold qj
  split
  ·rename_i hw
   show(set6 (qj q s κ).wn κ (q.n+1)).getD j 0=_
   rw[set6_get _ (by omega) hj]
   by_cases e:j=κ
   ·subst e;rw[if_pos rfl,if_pos ⟨by omega,hw⟩]
   ·rw[if_neg e,ih]
    by_cases h2:j<κ∧wroteS s j=true
    ·rw[if_pos h2,if_pos ⟨by omega,h2.2⟩]
    ·rw[if_neg h2,if_neg (fun h3=>h2 ⟨by omega,h3.2⟩)]
  ·rename_i hw
   rw[ih]
   by_cases e:j=κ
   ·subst e;rw[if_neg (fun h=>by omega),if_neg (fun h=>hw h.2)]
   ·by_cases h2:j<κ∧wroteS s j=true
    ·rw[if_pos h2,if_pos ⟨by omega,h2.2⟩]
    ·rw[if_neg h2,if_neg (fun h3=>h2 ⟨by omega,h3.2⟩)]
theorem ends_commit {w0:Fr} {w:World} {qb hb mb nq:Nat} {m:Mg} {L:HL} {q:Mo} {A:Nat→Sx} {F:Nat→Prop} (h:LW w0 w qb hb mb nq m L q A F) (hwf:Wf m) {k:Nat} {s:Se} (hs:q.l[k]? =some s) {t:Tx} (ht:SesTx m s t) (hx:s.x≤1000000) (hqn:q.n≤1000000) (who key n:Int):
  Calls Tryz.prog 20 #[.pointer (some ⟨qb,0,none⟩),.int .i64 k,actV 1 who key n] w fun x w'=>x= .returned (.bool true)∧LW w0 w' qb hb mb nq (m.fin t.x 3) L { qj q s 6 with l:=q.l.set k se0 } (updA A k sx0) F∧SeIn w0 w' F s (A k):=by
 have hk:k<5:=by have:=(List.getElem?_eq_some_iff.1 hs).1;have:=h.ln;omega
 have HSs:Hid (q.l[k]? =some s):=hs
 obtain⟨w1,hw1⟩: ∃w1,w1=w.alloc (.cells #[.int .i64 1,.int .i64 who,.int .i64 key,.int .i64 n] 29):=⟨_,rfl⟩
 have h1:LW w0 w1 qb hb mb nq m L q A F:=h.no (by rw[hw1];exact Tch.alloc _ _ _)
 obtain⟨N,hN⟩: ∃N,N=w.heap.size:=⟨_,rfl⟩
 have x0:w1.cell? ⟨N,0,none⟩=some (.int .i64 1):=by rw[hw1,hN,blk_cell (alloc_new _ _)];rfl
 have hf:=ses_x hwf ht
 have hst:=ht.lt3.2
 have hbd:=h.bd k s hs
 obtain⟨m',hm'⟩: ∃m',m'=m.fin t.x 3:=⟨_,rfl⟩
 obtain⟨C,hC⟩: ∃C:List Value→World→Prop,C=E1 w0 qb hb mb nq m m' L q A F (.int .i64 0):=⟨_,rfl⟩
 have hK:Hid (∀s1 W,C s1 W→W.cell? ⟨qb,0,none⟩=some (.pointer (some ⟨mb,0,none⟩))∧W.cell? ⟨qb,2+k*15+2,none⟩=some (.int .i64 s.x)):=fun s1 W hW=>by
  rw[hC] at hW
  exact⟨hW.mor.cm,(hW.mor.se k s hs).c 2 _ rfl⟩
 have h0':C [] w1.drew:=by
  rw[hC]
  exact LW.no h1 (Tch.refl _ _).drew
 have c1:Hid (∀W,C [] W→Calls Tryz.prog 18 #[.pointer (some ⟨mb,0,none⟩),.int .i64 s.x] W fun x W'=> ∃y,x= .returned y∧C [y] W'):=fun W hW=>by
  rw[hC] at hW ⊢
  rw[hm']
  exact(LW.commits hW hf hst (by omega) (by omega)).mono fun x W' ⟨e,h2⟩=>⟨_,e,rfl,h2⟩
 have s1:Hid (∀y W,C [y] W→y= .int .i64 0):=fun y W hW=>by
  rw[hC] at hW
  exact hW.1
 have HF:Hid (∀y W,C [y] W→LW w0 W qb hb mb nq m' L q A F):=fun y W hW=>by
  rw[hC] at hW
  exact hW.2
 have HS:Hid (q.l[k]? =some s):=hs
 have HBd:Hid (SeBd s):=hbd
 have HW1:Hid (w1=_):=hw1
 have HN:Hid (N=w.heap.size):=hN
 unfold actV
 rw[←hm']
 clear h h1 hC hf hst ht hs hwf hx hw1 hN hbd hm'
 go_enter Tryz.func20,Tryz.ntmps20
 go_upto_region 3 with(fail)
 rw[←HW1.out, ←HN.out]
 go_upto_region 5 with(fail)
 refine wp_region_ordv [8] C 9 [0,1,2,3,4,5,6,7,8] (by kernel_rfl) (by kernel_rfl) h0' ?_
 clear h0'
 iterate 8
  refine ordv_read rfl (by go_simp) (by rfl) ?_
  apply Exists.intro
  refine⟨fun s' W hW b K Q hK'=>?_,fun K hK'=>?_⟩
  ·obtain⟨q0,q1⟩:=hK.out _ W hW
   go_simp
   exact hK' W hW
  go_simp
  refine hK' _ ?_
  clear hK' K
 refine ordv_turn rfl (by go_simp) (by rfl) (fun W hW b K Q hK'=>?_) (fun u hu K hK'=>?_)
 ·go_simp
  go_at_call 18
  refine(c1.out W hW).mono ?_
  rintro x w' ⟨y,rfl,h1⟩
  exact hK' y w' h1
 obtain rfl:u= .int .i64 0:=by
  obtain⟨W',hW'⟩:=hu
  exact s1.out u W' hW'
 clear hu
 go_simp
 refine hK' _ ?_
 clear hK' K
 refine ordv_nil ?_
 intro w5 hw5
 have h5:=HF.out _ w5 hw5
 have y89:=h5.mor.n
 have f89:=h5.frz 89
 have H6:Hid (LW w0 (w5.setCell ⟨qb,89,none⟩ (.int .i64 (q.n+1:Nat))) qb hb mb nq m' L (qj q s 0) A F):=h5.setN (q.n+1)
 clear hK HF hw5 x0 HW1 HN c1 s1 h5
 go_wp2_with fail
 obtain⟨w6,hw6⟩: ∃w6,w6=w5.setCell ⟨qb,89,none⟩ (.int .i64 ((q.n:Int)+1)):=⟨_,rfl⟩
 have H6':Hid (LW w0 w6 qb hb mb nq m' L (qj q s 0) A F):=by rw[hw6];exact H6.out
 rw[←hw6]
 clear hw6 H6 y89 f89
 go_loopw [9] (fun x wr=> ∃κ:Nat,x= .int .i64 κ∧κ≤6∧Hid (LW w0 wr qb hb mb nq m' L (qj q s κ) A F)) (fun x _=>6 - (intOf x).toNat)
 case atStart=>exact⟨0,rfl,by omega,H6'⟩
 case round=>
  obtain⟨κ,rfl,hκ,HT⟩:=hrel
  obtain⟨wV,hwV⟩: ∃wV,wV=wr:=⟨_,rfl⟩
  subst hwV
  by_cases hlt:(κ:Int)<6
  ·have hR:=HT.out.mor.se k s (by rw[qj_l];exact HS.out)
   have q1:=wrote_any wV qb (2+k*15) s (A k) hR κ
   have hκ6:κ<6:=by omega
   obtain⟨d,hd⟩: ∃d,d=wroteS s κ:=⟨_,rfl⟩
   rw[←hd] at q1
   have HQ:Hid (qj q s (κ+1)=if d=true then { qj q s κ with now:=set6 (qj q s κ).now κ (seesS s κ),wn:=set6 (qj q s κ).wn κ (q.n+1) } else qj q s κ):=by
    show _=_
    rw[hd];rfl
   clear hR hd
   go_wp2_with fail
   refine q1.mono ?_
   rintro x w7 ⟨rfl,t7⟩
   have H7:Hid (LW w0 w7 qb hb mb nq m' L (qj q s κ) A F):=HT.out.no t7
   clear q1 t7 HT
   cases d with
   |false=>
    have HQ2:Hid (LW w0 w7 qb hb mb nq m' L (qj q s (κ+1)) A F):=by
     rw[HQ.out,if_neg (by simp)];exact H7.out
    clear HQ
    go_wp2_with fail
    go_roundw
    case rel=>exact⟨κ+1,by go_num,by omega,HQ2⟩
    case measure=>(simp[intOf]<;>omega)
   |true=>
    have HQ3:Hid (qj q s (κ+1)= { qj q s κ with now:=set6 (qj q s κ).now κ (seesS s κ),wn:=set6 (qj q s κ).wn κ (q.n+1) }):=by
     show _=_
     rw[HQ.out,if_pos rfl]
    obtain⟨C2,hC2⟩: ∃C2:List Value→World→Prop,C2=E1 w0 qb hb mb nq m' m' L (qj q s κ) A F (.int .i64 (seesS s κ)):=⟨_,rfl⟩
    have h02:C2 [] w7.drew:=by
     rw[hC2]
     exact LW.no H7.out (Tch.refl _ _).drew
    have c2:Hid (∀W,C2 [] W→Calls Tryz.prog 42 #[.pointer (some ⟨qb,2+k*15,none⟩),.int .i64 κ] W fun x W'=> ∃y,x= .returned y∧C2 [y] W'):=fun W hW=>by
     rw[hC2] at hW ⊢
     exact(sees_any W qb (2+k*15) s (A k) ((LW.mor hW).se k s (by rw[qj_l];exact HS.out)) κ hκ6 (HBd.out.ba κ hκ6)).mono fun x W' ⟨e,t⟩=>⟨_,e,rfl,LW.no hW t⟩
    have s2:Hid (∀y W,C2 [y] W→y= .int .i64 (seesS s κ)):=fun y W hW=>by
     rw[hC2] at hW
     exact hW.1
    have HF2:Hid (∀y W,C2 [y] W→LW w0 W qb hb mb nq m' L (qj q s κ) A F):=fun y W hW=>by
     rw[hC2] at hW
     exact hW.2
    have hK2:Hid (∀s1 W,C2 s1 W→True):=fun _ _ _=>trivial
    obtain⟨sv,hsv⟩: ∃sv,sv=seesS s κ:=⟨_,rfl⟩
    rw[←hsv] at s2 HQ3
    clear hC2 HQ H7 hsv
    go_wp2_with fail
    refine wp_region_ordv [4] C2 8 [0,1,2,3,5,6,4,7] (by kernel_rfl) (by kernel_rfl) h02 ?_
    clear h02
    iterate 6
     refine ordv_read rfl (by go_simp) (by rfl) ?_
     apply Exists.intro
     refine⟨fun s' W hW b K Q hK'=>?_,fun K hK'=>?_⟩
     ·have q0:=hK2.out _ W hW
      go_simp
      exact hK' W hW
     go_simp
     refine hK' _ ?_
     clear hK' K
    refine ordv_turn rfl (by go_simp) (by rfl) (fun W hW b K Q hK'=>?_) (fun u hu K hK'=>?_)
    ·go_simp
     go_at_call 42
     refine(c2.out W hW).mono ?_
     rintro x w' ⟨y,rfl,h1⟩
     exact hK' y w' h1
    obtain rfl:u= .int .i64 sv:=by
     obtain⟨W',hW'⟩:=hu
     exact s2.out u W' hW'
    clear hu
    go_simp
    refine hK' _ ?_
    clear hK' K
    refine ordv_read rfl (by go_simp) (by rfl) ?_
    apply Exists.intro
    refine⟨fun s' W hW b K Q hK'=>?_,fun K hK'=>?_⟩
    ·have q0:=hK2.out _ W hW
     go_simp
     exact hK' W hW
    go_simp
    refine hK' _ ?_
    clear hK' K
    refine ordv_nil ?_
    intro w8 hw8
    have h8:=HF2.out _ w8 hw8
    have y77:=h8.mor.now κ hκ6
    have f77:=h8.frz (77+κ)
    have h9:=h8.setNow hκ6 sv
    obtain⟨w9,hw9⟩: ∃w9,w9=w8.setCell ⟨qb,77+κ,none⟩ (.int .i64 sv):=⟨_,rfl⟩
    rw[←hw9] at h9
    obtain⟨q9,hq9⟩: ∃q9:Mo,q9= { qj q s κ with now:=set6 (qj q s κ).now κ sv } :=⟨_,rfl⟩
    rw[←hq9] at h9
    obtain⟨C3,hC3⟩: ∃C3:List Value→World→Prop,C3=E1 w0 qb hb mb nq m' m' L q9 A F (.int .i64 0):=⟨_,rfl⟩
    have h03:C3 [] w9.drew:=by
     rw[hC3]
     exact LW.no h9 (Tch.refl _ _).drew
    have hn9:q9.n=q.n+1:=by rw[hq9];exact qj_n q s κ
    have hK3:Hid (∀s1 W,C3 s1 W→W.cell? ⟨qb,89,none⟩=some (.int .i64 ((q.n:Int)+1))∧True):=fun s1 W hW=>by
     rw[hC3] at hW
     have:=hW.mor.n
     rw[hn9] at this
     exact⟨this,trivial⟩
    have HF3:Hid (∀W,C3 [] W→LW w0 W qb hb mb nq m' L q9 A F):=fun W hW=>by
     rw[hC3] at hW
     exact hW
    have HQ9:Hid ({ q9 with wn:=set6 q9.wn κ (q.n+1) } =qj q s (κ+1)):=by
     show _=_
     rw[HQ3.out,hq9]
    have HW9:Hid (w9=_):=hw9
    clear hw8 h8 hw9 h9 hq9 hC3 hn9 hK2 HF2 c2 s2 HQ3
    go_wp2_with fail
    rw[←HW9.out]
    refine wp_region_ordv [] C3 9 [0,1,2,3,4,5,6,7,8] (by kernel_rfl) (by kernel_rfl) h03 ?_
    clear h03
    iterate 9
     refine ordv_read rfl (by go_simp) (by rfl) ?_
     apply Exists.intro
     refine⟨fun s' W hW b K Q hK'=>?_,fun K hK'=>?_⟩
     ·obtain⟨q0,_⟩:=hK3.out _ W hW
      go_simp
      exact hK' W hW
     go_simp
     refine hK' _ ?_
     clear hK' K
    refine ordv_nil ?_
    intro w10 hw10
    have h10:=HF3.out w10 hw10
    have y83:=h10.mor.wn κ hκ6
    have f83:=h10.frz (83+κ)
    have H11:Hid (LW w0 (w10.setCell ⟨qb,83+κ,none⟩ (.int .i64 ((q.n:Int)+1))) qb hb mb nq m' L (qj q s (κ+1)) A F):=by
     rw[←HQ9.out]
     exact h10.setWn hκ6 (q.n+1)
    clear hw10 h10 hK3 HF3 HQ9 HW9 y77 f77
    go_wp2_with fail
    go_roundw
    case rel=>exact⟨κ+1,by go_num,by omega,H11⟩
    case measure=>(simp[intOf]<;>omega)
  ·have hκ6:κ=6:=by omega
   subst hκ6
   have H5:Hid (LW w0 wV qb hb mb nq m' L (qj q s 6) A F):=HT
   have HL:Hid ((qj q s 6).l=q.l):=qj_l q s 6
   clear HT
   go_upto_region 14 with(fail)
   go_simp
   iterate 19 (first|go_values|go_skip|go_guarded|go_step|go_upon|go_in|go_back)
   refine wpList_store_mid rfl 43 (.tmp 74) (.tmp 71) rfl qb (2+k*15) (seC se0 sx0).toArray rfl rfl (H5.out.there (by show 2+k*15+15≤90;omega)) siz_ses (one_seC _ _) ?_
   have H8:Hid (LW w0 (wV.setCells qb (2+k*15) (seC se0 sx0)) qb hb mb nq m' L { qj q s 6 with l:=q.l.set k se0 } (updA A k sx0) F∧SeIn w0 (wV.setCells qb (2+k*15) (seC se0 sx0)) F s (A k)):=by
    have:=H5.out.close hk
    rw[HL.out] at this
    exact⟨this,H5.out.seKept (by rw[HL.out];exact HSs.out) (tch_cells qb (seC se0 sx0) (2+k*15) wV)⟩
   obtain⟨w8,hw8⟩: ∃w8,w8=wV.setCells qb (2+k*15) (seC se0 sx0):=⟨_,rfl⟩
   rw[←hw8] at H8
   have e8:wV.setCells qb (2+k*15) (seC se0 sx0).toArray.toList=w8:=by rw[hw8]
   rw[e8]
   clear e8 hw8 H5
   go_wp2_with fail
   go_ret
   exact⟨rfl,H8.out.1,H8.out.2⟩
end Go.Proofs.YtppokgdofgigfaaGreat.F
