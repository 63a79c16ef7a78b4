import Derived.Test.YtppokgdofgigfaaGreatFS0
import Derived.Test.YtppokgdofgigfaaGreatFH
namespace Go.Proofs.YtppokgdofgigfaaGreat
open Go.RowKit Go Go.Sort Go.Maps
abbrev mgA:Mg:=⟨3,[1,2],[⟨1,1,[]⟩,⟨2,1,[]⟩]⟩
abbrev mgB:Mg:=⟨4,[1,2],[⟨1,1,[⟨3, -1,0⟩]⟩,⟨2,1,[]⟩]⟩
abbrev mgC:Mg:=⟨4,[1,2],[⟨1,1,[⟨3, -1,2⟩]⟩,⟨2,1,[]⟩]⟩
def m1 (part:Bool):Mg:=if part then mgB else mgA
def m2 (part:Bool):Mg:=if part then mgC else mgA
def byN (part:Bool):Int:=if part then 3 else 1
def kb (k:Nat):List UInt8:=(keyB k).data.toList
abbrev v1 (part:Bool) (k:Nat):Ver:=⟨byN part,true,1,rowC k⟩
abbrev v2 (k:Nat):Ver:=⟨1,true,1,rowC k⟩
def L2 (want:List Nat):HL:=want.map (fun k=>((2,kb k),[v2 k]))
theorem MF.freshT {w w':World} {b:Nat} {m:Mg} {F S:Nat→Prop} (h:MF w b m F) (t:Tch S w w') (hS: ∀i,i<w.heap.size→S i→F i):MF w' b m (fun i=>F i∨w.heap.size≤i∧i<w'.heap.size):=by
 obtain⟨σ,mb,bl,h,hF⟩:=h
 refine⟨σ,mb,bl,h.tch t (fun i hi hs=>(hF i (hS i hi hs)).1),fun i hi=>?_⟩
 rcases hi with hi|⟨h1,h2⟩
 ·exact⟨(hF i hi).1,Nat.lt_of_lt_of_le (hF i hi).2 t.size⟩
 ·refine⟨?_,h2⟩
  cases hs:σ i with
  |none=>rfl
  |some a=>have:=h.lt i (by rw[hs];exact fun h=>by cases h);omega
theorem HS.freshS {w w':World} {hb mb:Nat} {m:Mg} {L:HL} {F S:Nat→Prop} {q:Nat} (h:HS w hb mb m L F q) (t:Tch S w w') (hS: ∀i,i<w.heap.size→S i→F i):HS w' hb mb m L (fun i=>F i∨w.heap.size≤i∧i<w'.heap.size) q:=by
 obtain⟨tb,T,E,C,σ,h1,h2,h3,h4,h5⟩:=h
 refine⟨tb,T,E,C,σ,h1.tch t (fun i hi hs=>(h5 i (hS i hi hs)).1),h2,h3,(h4.freshT t (fun i hi hs=>.inl (hS i hi hs))).mono (fun i hi=>?_),fun i hi=>?_⟩
 ·rcases hi with(hi|hi)|hi
  ·exact .inl (.inl hi)
  ·exact .inr hi
  ·exact .inl (.inr hi)
 ·rcases hi with hi|hi
  ·exact⟨(h5 i hi).1,Nat.lt_of_lt_of_le (h5 i hi).2 t.size⟩
  ·refine⟨?_,hi.2⟩
   cases hs:σ i with
   |none=>rfl
   |some a=>exact absurd (h1.dom i (by rw[hs];exact fun h=>by cases h)) (by omega)
section
variable {w0 w:World} {base hb mb:Nat} {m:Mg} {L:HL} {q:Nat} {bx:List (Nat×Obj)} {v:Value} {l:List Nat}
end
end Go.Proofs.YtppokgdofgigfaaGreat
namespace Go.Proofs.YtppokgdofgigfaaGreat.F
open Go.RowKit Go Go.Sort
def n6 (l:List Nat):List Value:=[.int .i64 (l.getD 0 0),.int .i64 (l.getD 1 0),.int .i64 (l.getD 2 0),.int .i64 (l.getD 3 0),.int .i64 (l.getD 4 0),.int .i64 (l.getD 5 0)]
def moC (q:Mo) (mb hb:Nat) (A:Nat→Sx):List Value:=[.pointer (some ⟨mb,0,none⟩),.pointer (some ⟨hb,0,none⟩)]++(seC (q.l.getD 0 se0) (A 0)++(seC (q.l.getD 1 se0) (A 1)++(seC (q.l.getD 2 se0) (A 2)++(seC (q.l.getD 3 se0) (A 3)++(seC (q.l.getD 4 se0) (A 4)++(n6 q.now++(n6 q.wn++[.int .i64 q.n])))))))
theorem seC_len (s:Se) (a:Sx):(seC s a).length=15:=rfl
theorem moC_se (q:Mo) (mb hb:Nat) (A:Nat→Sx) {k:Nat} (hk:k<5) {j:Nat} (hj:j<15):(moC q mb hb A)[2+k*15+j]? =(seC (q.l.getD k se0) (A k))[j]? :=by
 have e: ∀(i:Nat),(moC q mb hb A)[2+i]? =(seC (q.l.getD 0 se0) (A 0)++(seC (q.l.getD 1 se0) (A 1)++(seC (q.l.getD 2 se0) (A 2)++(seC (q.l.getD 3 se0) (A 3)++(seC (q.l.getD 4 se0) (A 4)++(n6 q.now++(n6 q.wn++[.int .i64 q.n])))))))[i]? :=fun i=>by
  unfold moC
  rw[List.getElem?_append_right (by simp only[List.length_cons,List.length_nil];omega)]
  simp only[List.length_cons,List.length_nil,Nat.zero_add,Nat.reduceAdd,Nat.add_sub_cancel_left]
 rw[Nat.add_assoc,e]
 rcases(by omega:k=0∨k=1∨k=2∨k=3∨k=4) with rfl|rfl|rfl|rfl|rfl
 ·rw[List.getElem?_append_left (by rw[seC_len];omega)]
  congr 1;omega
 ·rw[List.getElem?_append_right (by rw[seC_len];omega),List.getElem?_append_left (by rw[seC_len,seC_len];omega)]
  congr 1;rw[seC_len];omega
 ·rw[List.getElem?_append_right (by rw[seC_len];omega),List.getElem?_append_right (by rw[seC_len,seC_len];omega),List.getElem?_append_left (by rw[seC_len,seC_len,seC_len];omega)]
  congr 1;rw[seC_len,seC_len];omega
 ·rw[List.getElem?_append_right (by rw[seC_len];omega),List.getElem?_append_right (by rw[seC_len,seC_len];omega),List.getElem?_append_right (by rw[seC_len,seC_len,seC_len];omega),List.getElem?_append_left (by rw[seC_len,seC_len,seC_len,seC_len];omega)]
  congr 1;rw[seC_len,seC_len,seC_len];omega
 ·rw[List.getElem?_append_right (by rw[seC_len];omega),List.getElem?_append_right (by rw[seC_len,seC_len];omega),List.getElem?_append_right (by rw[seC_len,seC_len,seC_len];omega),List.getElem?_append_right (by rw[seC_len,seC_len,seC_len,seC_len];omega),List.getElem?_append_left (by rw[seC_len,seC_len,seC_len,seC_len,seC_len];omega)]
  congr 1;rw[seC_len,seC_len,seC_len,seC_len];omega
theorem moC_now (q:Mo) (mb hb:Nat) (A:Nat→Sx) {κ:Nat} (hκ:κ<6):(moC q mb hb A)[77+κ]? =some (.int .i64 (q.now.getD κ 0)):=by
 rcases(by omega:κ=0∨κ=1∨κ=2∨κ=3∨κ=4∨κ=5) with rfl|rfl|rfl|rfl|rfl|rfl<;>rfl
theorem moC_wn (q:Mo) (mb hb:Nat) (A:Nat→Sx) {κ:Nat} (hκ:κ<6):(moC q mb hb A)[83+κ]? =some (.int .i64 (q.wn.getD κ 0)):=by
 rcases(by omega:κ=0∨κ=1∨κ=2∨κ=3∨κ=4∨κ=5) with rfl|rfl|rfl|rfl|rfl|rfl<;>rfl
theorem moC_n (q:Mo) (mb hb:Nat) (A:Nat→Sx):(moC q mb hb A)[89]? =some (.int .i64 q.n):=rfl
def Gd (w:World) (i:Nat):Prop:= ∃cs ty,w.heap[i]? =some (.cells cs ty (0,0))∧ty≠100∧ty≠104∧ty≠46
structure Fr where
 w:World
 S:World
 G:Nat→Prop
 gd: ∀i,G i→Gd S i
abbrev Fr.heap (f:Fr):=f.w.heap
structure Frm (f:Fr) (w:World):Prop where
 t:Tch (fun _=>False) f.w w
 z: ∀i,f.G i→w.heap[i]? =f.S.heap[i]?
theorem Frm.size {f:Fr} {w:World} (h:Frm f w):f.heap.size≤w.heap.size:=h.t.size
theorem Frm.trans {f:Fr} {w w':World} {S:Nat→Prop} (h:Frm f w) (t:Tch S w w') (hS: ∀i,i<f.heap.size→ ¬S i) (hg: ∀i,f.G i→Gd w i→ ¬S i):Frm f w':=
 ⟨h.t.trans t hS,fun i hi=>by
  have h1:=h.z i hi
  obtain⟨cs,ty,h2,h3⟩:=f.gd i hi
  have h4:=h1.trans h2
  exact(t.block i (blk_lt h4) (hg i hi ⟨cs,ty,h4,h3⟩)).trans h1⟩
theorem Frm.trans' {f:Fr} {w w':World} (h:Frm f w) (t:Tch (fun _=>False) w w'):Frm f w':=h.trans t (fun _ _ e=>e) (fun _ _ _ e=>e)
theorem Gd.ne {w:World} {i b:Nat} {cs:Array Value} (g:Gd w i) (hb:w.heap[b]? =some (.cells cs 46 (0,0))): ¬i=b:=fun e=>by
 obtain⟨c2,ty,h1,_,_,h2⟩:=g
 rw[e,hb] at h1
 injection h1 with h1
 injection h1 with _ h1
 exact h2 h1.symm
theorem Gd.own {w:World} {i b sz n:Nat} {ty:TypeId} {v:Value} {xs:List Value} (g:Gd w i) (h:w.ownsRow b ty sz v n xs) (hty:ty=100∨ty=104): ¬v.ownBlock=some i:=fun e=>by
 obtain⟨c2,t2,h1,h3,h4,_⟩:=g
 obtain⟨cur,hc⟩:=own_blk h e
 rw[hc] at h1
 injection h1 with h1
 injection h1 with _ h1
 rcases hty with hty|hty
 ·exact h3 (h1.symm.trans hty)
 ·exact h4 (h1.symm.trans hty)
structure SeIn (w0:Fr) (w:World) (F:Nat→Prop) (s:Se) (a:Sx):Prop where
 on:w.ownsRow w0.heap.size 3 1 (.slice a.so s.on.length a.sc) s.on.length (icl s.on)
 onf: ∀g,(Value.slice a.so s.on.length a.sc).ownBlock=some g→F g
 ps:w.ownsRow w0.heap.size 100 4 (.slice a.po s.ps.length a.pc) s.ps.length (prC s.ps)
 psf: ∀g,(Value.slice a.po s.ps.length a.pc).ownBlock=some g→F g
 ws:w.ownsRow w0.heap.size 104 4 (.slice a.wo s.ws.length a.wc) s.ws.length (wtC s.ws)
 wsf: ∀g,(Value.slice a.wo s.ws.length a.wc).ownBlock=some g→F g
structure SeBd (s:Se):Prop where
 pl:s.ps.length≤1000
 wl:s.ws.length≤1000
 pr: ∀(i:Nat) (v:Pr),s.ps[i]? =some v→ -1≤v.par∧v.par<i∧v.x≤1000000
 wr: ∀v∈s.ws, -1≤v.pt∧v.pt<s.ps.length∧v.key<6∧v.n<1000
 ba: ∀κ,κ<6→s.base.getD κ 0≤1000
theorem slf_of {w:World} {base sz n:Nat} {t:TypeId} {ao:Option Addr} {c:Nat} {xs:List Value} (h:w.ownsRow base t sz (.slice ao n c) n xs):SlF w ao xs:=fun hc=>by
 rcases h.2 with⟨e,h0⟩|⟨g,cap,cur,e,_,hg,_,_,hs,ht⟩
 ·have h1:=h.1
  rw[h0,Nat.zero_mul] at h1
  exact absurd (List.length_eq_zero_iff.1 h1) hc
 ·injection e with e
  subst e
  refine⟨g,rfl,blk_lt hg,fun j u hu=>?_⟩
  have h9:=h.cells (g:=g) rfl j u hu
  rw[add_plain] at h9
  exact h9
theorem SeIn.sr {w0:Fr} {w:World} {F:Nat→Prop} {s:Se} {a:Sx} (h:SeIn w0 w F s a) (hb:SeBd s) {b off:Nat} (hl:b<w.heap.size) (hc:AtF w b off (seC s a)):SR w b off s a:=
 ⟨hl,hc,slf_of h.ps,slf_of h.ws,hb.pl,hb.wl,hb.pr,hb.wr⟩
theorem SeIn.keep {w0:Fr} {w w':World} {F S:Nat→Prop} {s:Se} {a:Sx} (h:SeIn w0 w F s a) (t:Tch S w w') (hS: ∀i,F i→ ¬S i):SeIn w0 w' F s a:=
 ⟨own_tch h.on t (fun g e=>hS g (h.onf g e)),h.onf,own_tch h.ps t (fun g e=>hS g (h.psf g e)),h.psf,own_tch h.ws t (fun g e=>hS g (h.wsf g e)),h.wsf⟩
theorem SeIn.mono {w0:Fr} {w:World} {F F':Nat→Prop} {s:Se} {a:Sx} (h:SeIn w0 w F s a) (hF: ∀i,F i→F' i):SeIn w0 w F' s a:=
 ⟨h.on,fun g e=>hF g (h.onf g e),h.ps,fun g e=>hF g (h.psf g e),h.ws,fun g e=>hF g (h.wsf g e)⟩
structure LW (w0:Fr) (w:World) (qb hb mb nq:Nat) (m:Mg) (L:HL) (q:Mo) (A:Nat→Sx) (F:Nat→Prop):Prop where
 hs:HS w hb mb m L F nq
 f0: ∀i,(i<w0.heap.size∨w0.G i)→F i
 fq:F qb
 q0:w0.heap.size≤qb
 bk:w.heap[qb]? =some (.cells (moC q mb hb A).toArray 46 (0,0))
 ln:q.l.length=5
 se: ∀(k:Nat) (s:Se),q.l[k]? =some s→SeIn w0 w F s (A k)
 bd: ∀(k:Nat) (s:Se),q.l[k]? =some s→SeBd s
 ap: ∀(k k':Nat),k≠k'→k<5→k'<5→ ∀a a',((A k).po=some a→(A k').po=some a'→a.block≠a'.block)∧((A k).wo=some a→(A k').wo=some a'→a.block≠a'.block)
 t:Frm w0 w
section
variable {w0:Fr} {w w':World} {qb hb mb nq:Nat} {m:Mg} {L:HL} {q:Mo} {A:Nat→Sx} {F:Nat→Prop}
theorem getD_some {l:List Se} {k:Nat} {s:Se} (h:l[k]? =some s):l.getD k se0=s:=by
 rw[List.getD_eq_getElem?_getD,h];rfl
theorem LW.mor (h:LW w0 w qb hb mb nq m L q A F):MoR w qb mb hb q A:=by
 have hc: ∀j u,(moC q mb hb A)[j]? =some u→w.cell? ⟨qb,j,none⟩=some u:=fun j u hu=>by
  rw[blk_cell h.bk,List.getElem?_toArray];exact hu
 refine⟨blk_lt h.bk,hc 0 _ rfl,hc 1 _ rfl,h.ln,fun k s hs=>?_,fun κ hκ=>hc _ _ (moC_now q mb hb A hκ),fun κ hκ=>hc _ _ (moC_wn q mb hb A hκ),hc 89 _ (moC_n q mb hb A)⟩
 have hk:k<5:=by have:=(List.getElem?_eq_some_iff.1 hs).1;have:=h.ln;omega
 refine(h.se k s hs).sr (h.bd k s hs) (blk_lt h.bk) (fun j u hu=>hc _ _ ?_)
 have hj:j<15:=by have:=(List.getElem?_eq_some_iff.1 hu).1;rwa [seC_len] at this
 rw[moC_se q mb hb A hk hj,getD_some hs];exact hu
theorem LW.no (h:LW w0 w qb hb mb nq m L q A F) (t:Tch (fun _=>False) w w'):LW w0 w' qb hb mb nq m L q A F:=
 ⟨h.hs.no t,h.f0,h.fq,h.q0,(t.block qb (blk_lt h.bk) (fun e=>e)).trans h.bk,h.ln,fun k s hs=>(h.se k s hs).keep t (fun _ _ e=>e),h.bd,h.ap,h.t.trans' t⟩
theorem LW.kept {m':Mg} {L':HL} {nq':Nat} (h:LW w0 w qb hb mb nq m L q A F) (hs:HS w' hb mb m' L' F nq') (t:Kept F w w'):LW w0 w' qb hb mb nq' m' L' q A F:=
 ⟨hs,h.f0,h.fq,h.q0,(t.block qb (blk_lt h.bk) (fun e=>e h.fq)).trans h.bk,h.ln,fun k s hs=>(h.se k s hs).keep t (fun _ hf e=>e hf),h.bd,h.ap,h.t.trans t (fun i hi e=>e (h.f0 i (.inl hi))) (fun i hi _ e=>e (h.f0 i (.inr hi)))⟩
theorem LW.fresh (h:LW w0 w qb hb mb nq m L q A F) (t:Tch (fun _=>False) w w'):LW w0 w' qb hb mb nq m L q A (fun i=>F i∨w.heap.size≤i∧i<w'.heap.size):=
 ⟨h.hs.freshS t (fun _ _ e=>e.elim),fun i hi=>.inl (h.f0 i hi),.inl h.fq,h.q0,(t.block qb (blk_lt h.bk) (fun e=>e)).trans h.bk,h.ln,fun k s hs=>((h.se k s hs).keep t (fun _ _ e=>e)).mono (fun _ e=>.inl e),h.bd,h.ap,h.t.trans' t⟩
theorem LW.lt (h:LW w0 w qb hb mb nq m L q A F): ∀i,F i→i<w.heap.size:=by
 obtain⟨_,_,_,_,_,_,_,_,_,h5⟩:=h.hs
 exact fun i hi=>(h5 i hi).2
end
section
variable {w0:Fr} {w w':World} {qb hb mb nq:Nat} {m:Mg} {L:HL} {q:Mo} {A:Nat→Sx} {F:Nat→Prop}
theorem LW.begins (h:LW w0 w qb hb mb nq m L q A F) (hn:m.nx≤2147483647):Calls Tryz.prog 15 #[.pointer (some ⟨mb,0,none⟩)] w fun x w'=>x= .returned (.tuple #[.int .i64 m.nx,.int .i64 0])∧LW w0 w' qb hb mb nq m.begin L q A F:=
 (begin_h h.hs hn).mono fun _ _ ⟨e,hs,t⟩=>⟨e,h.kept hs t⟩
theorem LW.parts (h:LW w0 w qb hb mb nq m L q A F) {k:Int} {t:Tx} {i:Int} (hf:fnd m.tx k=some (t,i)) (hp:partE m t i=0) (h1: -9223372036854775808≤k) (h2:k≤9223372036854775807):Calls Tryz.prog 44 #[.pointer (some ⟨mb,0,none⟩),.int .i64 k] w fun x w'=>x= .returned (.tuple #[.int .i64 m.nx,.int .i64 0])∧LW w0 w' qb hb mb nq (m.part t i) L q A F:=
 (part_h h.hs hf hp h1 h2).mono fun _ _ ⟨e,hs,t⟩=>⟨e,h.kept hs t⟩
theorem LW.commits (h:LW w0 w qb hb mb nq m L q A F) {k:Int} {t:Tx} (hf:fnd m.tx k=some (t, -1)) (hp:t.st<3) (h1: -9223372036854775808≤k) (h2:k≤9223372036854775807):Calls Tryz.prog 18 #[.pointer (some ⟨mb,0,none⟩),.int .i64 k] w fun x w'=>x= .returned (.int .i64 0)∧LW w0 w' qb hb mb nq (m.fin t.x 3) L q A F:=
 (commit_h h.hs hf hp h1 h2).mono fun _ _ ⟨e,hs,t⟩=>⟨e,h.kept hs t⟩
theorem LW.aborts (h:LW w0 w qb hb mb nq m L q A F) {k:Int} {t:Tx} (hf:fnd m.tx k=some (t, -1)) (hp:t.st<3) (h1: -9223372036854775808≤k) (h2:k≤9223372036854775807):Calls Tryz.prog 40 #[.pointer (some ⟨mb,0,none⟩),.int .i64 k] w fun x w'=>x= .returned (.int .i64 0)∧LW w0 w' qb hb mb nq (m.fin t.x 4) L q A F:=
 (hs_turn (X:=fun x=>x= .returned (.int .i64 0)) h.hs (fun F' hM=>(abort_f mb m w F' hM k h1 h2).mono (fun _ _ ⟨_,ho⟩=>(ho.2 t hf).2 (by omega)))).mono fun _ _ ⟨e,hs,t⟩=>⟨e,h.kept hs t⟩
theorem LW.prepares (h:LW w0 w qb hb mb nq m L q A F) {k:Int} {t:Tx} (hf:fnd m.tx k=some (t, -1)) (hp:t.st=1) (h1: -9223372036854775808≤k) (h2:k≤9223372036854775807):Calls Tryz.prog 23 #[.pointer (some ⟨mb,0,none⟩),.int .i64 k] w fun x w'=>x= .returned (.int .i64 0)∧LW w0 w' qb hb mb nq (m.prep t.x) L q A F:=
 (hs_turn (X:=fun x=>x= .returned (.int .i64 0)) h.hs (fun F' hM=>(prepare_f mb m w F' hM k h1 h2).mono (fun _ _ ho=>(ho.2 t hf).2 (by omega)))).mono fun _ _ ⟨e,hs,t⟩=>⟨e,h.kept hs t⟩
theorem LW.snaps (h:LW w0 w qb hb mb nq m L q A F):Calls Tryz.prog 10 #[.pointer (some ⟨mb,0,none⟩)] w fun x w'=> ∃so sc,x= .returned (.agg #[.int .i64 (m.on.headD m.nx:Nat),.int .i64 m.nx,.slice so m.on.length sc])∧w'.ownsRow w.heap.size 3 1 (.slice so m.on.length sc) m.on.length (icl m.on)∧LW w0 w' qb hb mb nq m L q A (fun i=>F i∨w.heap.size≤i∧i<w'.heap.size):=
 (snapshot_h h.hs).mono fun x w' ⟨⟨v',e,ho⟩,t⟩=>by
  obtain⟨so,sc,rfl⟩:=row_slice ho
  exact⟨so,sc,e,ho,h.fresh t⟩
theorem ses_x {m:Mg} (hw:Wf m) {s:Se} {t:Tx} (ht:SesTx m s t):fnd m.tx (s.x:Int)=some (t, -1):=by
 rw[←ht.x];exact hw.fnd_tx ht.mem
end
end Go.Proofs.YtppokgdofgigfaaGreat.F
