import Derived.Test.YtaiadknglhemaaaGreatDoorDX5
import Derived.Deep.LoopGhost
import Derived.Deep.DeepCutAuto
import Derived.Deep.CutRange
set_option maxHeartbeats 8000000
set_option maxRecDepth 1000000
namespace Go.Proofs.YtaiadknglhemaaaGreatDoor.C
open Go.RowKit Go Go.Sort
theorem dRow_len (p:Ds):(dRow p).1.length≤8∧(dRow p).2.1.length≤p.1.length:=by
 have h1:=(dText_len p).2
 unfold dRow
 cases h:decR (dText p).1 with
 |none=>exact⟨by simp,h1⟩
 |some vs=>exact⟨(dec_enc h).2.1,h1⟩
theorem dCol_len (p:Ds):(dCol p).2.1.length≤p.1.length:=by
 have h1:=(dText_len p).2
 have h2:=dByte_len (dText p).2
 have h3:=dByte_len (dByte (dText p).2).2
 show(dByte (dByte (dText p).2).2).2.1.length≤_
 omega
theorem dCols_len: ∀(n:Nat) (p:Ds) (l:List Col),(dCols n p l).2.1.length≤p.1.length∧(dCols n p l).1.length≤l.length+n
 |0,p,l=>⟨Nat.le_refl _,Nat.le_refl _⟩
 |n+1,p,l=>by
  unfold dCols
  split
  ·exact⟨Nat.le_refl _,by show l.length≤_;omega⟩
  ·have h1:=dCols_len n (dCol p).2 (l++[(dCol p).1])
   have h2:=dCol_len p
   rw[List.length_append] at h1
   simp only[List.length_cons,List.length_nil] at h1
   omega
theorem dTab_len (p:Ds):(dTab p).2.1.length≤p.1.length∧(dTab p).1.cols.length≤255:=by
 have h1:=dNum_len p
 have h2:=dNum_len (dNum p).2
 have h3:=(dText_len (dNum (dNum p).2).2).2
 have h4:=dByte_len (dText (dNum (dNum p).2).2).2
 have h5:=dCols_len (dByte (dText (dNum (dNum p).2).2).2).1 (dByte (dText (dNum (dNum p).2).2).2).2 []
 have h6:=dByte_len (dCols (dByte (dText (dNum (dNum p).2).2).2).1 (dByte (dText (dNum (dNum p).2).2).2).2 []).2
 have h7:=dByte_lt (dText (dNum (dNum p).2).2).2
 refine⟨?_,?_⟩
 ·show(dByte (dCols (dByte (dText (dNum (dNum p).2).2).2).1 (dByte (dText (dNum (dNum p).2).2).2).2 []).2).2.1.length≤_
  omega
 ·show(dCols (dByte (dText (dNum (dNum p).2).2).2).1 (dByte (dText (dNum (dNum p).2).2).2).2 []).1.length≤_
  simp only[List.length_nil] at h5
  omega
section
variable {w wr w':World} {b M:Nat} {r:Rc} {s:Sk} {p:Ds}
theorem DS.x (h:DS w wr b M r s p) (t':Tch (fun i=>i=b) wr w') (h':DB w' b (dNum p).2):w'.cell? ⟨M,1,none⟩=some (.int .i64 r.x)∧w'.frozen? ⟨M,1,none⟩=false∧DS w (w'.setCell ⟨M,1,none⟩ (.int .i64 (dNum p).1)) b M { r with x:=(dNum p).1 } s (dNum p).2:=by
 obtain⟨⟨_,c,_⟩,f,d⟩:=h.set t' h' (dNum_len p) 1 (.int .i64 (dNum p).1) (r':= { r with x:=(dNum p).1 }) (s':=s) rfl (fun h=>⟨h.o,h.n,h.tb,h.tbs,h.eq,h.onf,h.nnf,h.oi,h.ni,h.ol,h.nl,h.cl,h.tl,h.pl⟩)
 exact⟨c,f,d⟩
theorem DS.pp (h:DS w wr b M r s p) (t':Tch (fun i=>i=b) wr w') (h':DB w' b (dNum p).2):w'.cell? ⟨M,2,none⟩=some (.int .i64 r.p)∧w'.frozen? ⟨M,2,none⟩=false∧DS w (w'.setCell ⟨M,2,none⟩ (.int .i64 (dNum p).1)) b M { r with p:=(dNum p).1 } s (dNum p).2:=by
 obtain⟨⟨_,c,_⟩,f,d⟩:=h.set t' h' (dNum_len p) 2 (.int .i64 (dNum p).1) (r':= { r with p:=(dNum p).1 }) (s':=s) rfl (fun h=>⟨h.o,h.n,h.tb,h.tbs,h.eq,h.onf,h.nnf,h.oi,h.ni,h.ol,h.nl,h.cl,h.tl,h.pl⟩)
 exact⟨c,f,d⟩
theorem DS.tt (h:DS w wr b M r s p) (t':Tch (fun i=>i=b) wr w') (h':DB w' b (dNum p).2):w'.cell? ⟨M,3,none⟩=some (.int .i64 r.t)∧w'.frozen? ⟨M,3,none⟩=false∧DS w (w'.setCell ⟨M,3,none⟩ (.int .i64 (dNum p).1)) b M { r with t:=(dNum p).1 } s (dNum p).2:=by
 obtain⟨⟨_,c,_⟩,f,d⟩:=h.set t' h' (dNum_len p) 3 (.int .i64 (dNum p).1) (r':= { r with t:=(dNum p).1 }) (s':=s) rfl (fun h=>⟨h.o,h.n,h.tb,h.tbs,h.eq,h.onf,h.nnf,h.oi,h.ni,h.ol,h.nl,h.cl,h.tl,h.pl⟩)
 exact⟨c,f,d⟩
theorem DS.org (h:DS w wr b M r s p) (t':Tch (fun i=>i=b) wr w') (h':DB w' b (dNum p).2):w'.cell? ⟨M,7,none⟩=some (.int .i64 r.org)∧w'.frozen? ⟨M,7,none⟩=false∧DS w (w'.setCell ⟨M,7,none⟩ (.int .i64 (dNum p).1)) b M { r with org:=(dNum p).1 } s (dNum p).2:=by
 obtain⟨⟨_,c,_⟩,f,d⟩:=h.set t' h' (dNum_len p) 7 (.int .i64 (dNum p).1) (r':= { r with org:=(dNum p).1 }) (s':=s) rfl (fun h=>⟨h.o,h.n,h.tb,h.tbs,h.eq,h.onf,h.nnf,h.oi,h.ni,h.ol,h.nl,h.cl,h.tl,h.pl⟩)
 exact⟨c,f,d⟩
theorem DS.nm (h:DS w wr b M r s p) (t':Tch (fun i=>i=b) wr w') (h':DB w' b (dText p).2):w'.cell? ⟨M,6,none⟩=some (.string r.nm)∧w'.frozen? ⟨M,6,none⟩=false∧DS w (w'.setCell ⟨M,6,none⟩ (.string (dText p).1)) b M { r with nm:=(dText p).1 } s (dText p).2:=by
 obtain⟨⟨_,c,_⟩,f,d⟩:=h.set t' h' (dText_len p).2 6 (.string (dText p).1) (r':= { r with nm:=(dText p).1 }) (s':=s) rfl (fun h=>⟨h.o,h.n,h.tb,h.tbs,h.eq,h.onf,h.nnf,h.oi,h.ni,h.ol,h.nl,h.cl,h.tl,h.pl⟩)
 exact⟨c,f,d⟩
theorem DS.nF (h:DS w wr b M r s p) {g:Nat} (hg:wr.heap.size≤g): ¬Fd w b M g:=fun e=>by
 have h1:=h.t.size
 have h2:=blk_lt h.db
 have h3:=blk_lt h.bx
 rcases e with e|e|e<;>omega
theorem DS.o (h:DS w wr b M r s p) (t':Tch (fun i=>i=b) wr w') (h':DB w' b (dRow p).2) {ro:Option Addr} {c:Nat} (hs:SL w' ro (vcl (dRow p).1)) (hg: ∀g o,ro=some ⟨g,o,none⟩→wr.heap.size≤g):w'.cell? ⟨M,4,none⟩=some (.slice s.oo r.o.length s.oc)∧w'.frozen? ⟨M,4,none⟩=false∧DS w (w'.setCell ⟨M,4,none⟩ (.slice ro (dRow p).1.length c)) b M { r with o:=(dRow p).1 } { s with oo:=ro,oc:=c } (dRow p).2:=by
 obtain⟨⟨_,c',_⟩,f,d⟩:=h.set t' h' (dRow_len p).2 4 (.slice ro (dRow p).1.length c) (r':= { r with o:=(dRow p).1 }) (s':= { s with oo:=ro,oc:=c }) rfl (fun k=>⟨hs,k.n,k.tb,k.tbs,k.eq,fun _ g o e=>h.nF (hg g o e),k.nnf,fun v hv=>(dRow_i64 p v hv).1,k.ni,by have:=(dRow_len p).1;show(dRow p).1.length≤_;omega,k.nl,k.cl,k.tl,k.pl⟩)
 exact⟨c',f,d⟩
theorem DS.n (h:DS w wr b M r s p) (t':Tch (fun i=>i=b) wr w') (h':DB w' b (dRow p).2) {ro:Option Addr} {c:Nat} (hs:SL w' ro (vcl (dRow p).1)) (hg: ∀g o,ro=some ⟨g,o,none⟩→wr.heap.size≤g):w'.cell? ⟨M,5,none⟩=some (.slice s.no r.n.length s.nc)∧w'.frozen? ⟨M,5,none⟩=false∧DS w (w'.setCell ⟨M,5,none⟩ (.slice ro (dRow p).1.length c)) b M { r with n:=(dRow p).1 } { s with no:=ro,nc:=c } (dRow p).2:=by
 obtain⟨⟨_,c',_⟩,f,d⟩:=h.set t' h' (dRow_len p).2 5 (.slice ro (dRow p).1.length c) (r':= { r with n:=(dRow p).1 }) (s':= { s with no:=ro,nc:=c }) rfl (fun k=>⟨k.o,hs,k.tb,k.tbs,k.eq,k.onf,fun _ g o e=>h.nF (hg g o e),k.oi,fun v hv=>(dRow_i64 p v hv).1,k.ol,by have:=(dRow_len p).1;show(dRow p).1.length≤_;omega,k.cl,k.tl,k.pl⟩)
 exact⟨c',f,d⟩
theorem DS.a (h:DS w wr b M r s p) (t':Tch (fun i=>i=b) wr w') (h':DB w' b (dTab p).2) {v:Value} (hv:w'.ownsRow wr.heap.size 43 3 v (dTab p).1.cols.length (ccl (dTab p).1.cols)): ∃co cc,v= .slice co (dTab p).1.cols.length cc∧w'.heap[M]? =some (.cells (rcl14 r s) 37 (0,0))∧DS w (((((w'.setCell ⟨M,8,none⟩ (.int .i64 (dTab p).1.id)).setCell ⟨M,9,none⟩ (.int .i64 (dTab p).1.ver)).setCell ⟨M,10,none⟩ (.string (dTab p).1.nm)).setCell ⟨M,11,none⟩ v).setCell ⟨M,12,none⟩ (.int .i64 (dTab p).1.key)) b M { r with tb:=(dTab p).1 } { s with co:=co,cc:=cc } (dTab p).2:=by
 obtain⟨co,cc,hck⟩:=own_ck (p:=((dTab p).1,v)) hv
 have ev:v= .slice co (dTab p).1.cols.length cc:=hck.eq
 subst ev
 have hM:=blk_lt h.bx
 have bx':w'.heap[M]? =some (.cells (rcl14 r s) 37 (0,0)):=(t'.block M hM (fun e=>h.ne e.symm)).trans h.bx
 refine⟨co,cc,rfl,bx',?_⟩
 have tS:Tch (fun g=>g=M) w' (((((w'.setCell ⟨M,8,none⟩ (.int .i64 (dTab p).1.id)).setCell ⟨M,9,none⟩ (.int .i64 (dTab p).1.ver)).setCell ⟨M,10,none⟩ (.string (dTab p).1.nm)).setCell ⟨M,11,none⟩ (.slice co (dTab p).1.cols.length cc)).setCell ⟨M,12,none⟩ (.int .i64 (dTab p).1.key)):=((((Tch.setCell (fun g=>g=M) w' ⟨M,8,none⟩ _ rfl).setCellR _ _ rfl).setCellR _ _ rfl).setCellR _ _ rfl).setCellR _ _ rfl
 have k:=h.rw.tch t' (fun g _ e=>.inr (.inl e))
 have hl:=dTab_len p
 refine⟨h'.tch tS h.ne,?_,?_,(h.t.trans t' (fun g hg e=>by have e':g=b:=e;have:=h.bb;omega)).trans tS (fun g hg e=>by have e':g=M:=e;have:=h.bm;omega),by have:=h.le;omega,h.bb,h.bm,h.ne⟩
 ·rw[blk_set (blk_set (blk_set (blk_set (blk_set bx' _) _) _) _) _]
  rfl
 ·refine RW.tch (S:=fun g=>g=M) ⟨k.o,k.n,⟨rfl,hck.sl,hck.no,hck.cap,fun hne g o e=>⟨h.nF ?_,(hck.nf hne g o e).2⟩⟩,k.tbs,k.eq,k.onf,k.nnf,k.oi,k.ni,k.ol,k.nl,by show(dTab p).1.cols.length≤_;omega,k.tl,k.pl⟩ tS (fun g _ e=>.inr (.inr e))
  have:=(hck.nf hne g o e).1
  omega
end
theorem dTabs_stop {n:Nat} {p:Ds} {l:List Tbl} (h:n=0∨p.2=true):dTabs n p l=(l,p):=by
 cases n with
 |zero=>rfl
 |succ n=>unfold dTabs;rw[if_pos (h.resolve_left (by omega))]
theorem dTabs_go {n k:Nat} {p:Ds} {l:List Tbl} (hk:k<n) (h:p.2=false):dTabs (n - k) p l=dTabs (n - (k+1)) (dTab p).2 (l++[(dTab p).1]):=by
 rw[show n - k=(n - (k+1))+1 by omega]
 conv=>lhs;unfold dTabs
 rw[if_neg (by rw[h];simp)]
theorem TL.weak {W:World} {F F':Nat→Prop} {ta:Option Addr} {P:List (Tbl×Value)} (h:TL W F ta P) (hF: ∀g,F' g→F g):TL W F' ta P:=
 ⟨h.sl,fun hP g o e hf=>h.nf hP g o e (hF g hf),fun i hi=>by
  obtain⟨co,cc,k⟩:=h.col i hi
  exact⟨co,cc,k.eq,k.sl,k.no,k.cap,fun hne g o e=>⟨fun hf=>(k.nf hne g o e).1 (hF g hf),(k.nf hne g o e).2⟩⟩⟩
structure DI (w wz wr:World) (b M n k:Nat) (r0:Rc) (s0:Sk) (A:List Tbl×Ds) (p:Ds) (P:List (Tbl×Value)) (ta:Option Addr) (tc:Nat):Prop where
 len:P.length=k
 eq:dTabs (n - k) p (P.map Prod.fst)=A
 db:DB wr b p
 bx:wr.heap[M]? =some (.cells (rcl14 { r0 with tbs:=P.map Prod.fst } { s0 with P:=P,«to»:=ta,tc:=tc }) 37 (0,0))
 own:TO wr wz.heap.size (.slice ta k tc) P
 t:Tch (fun g=>g=b∨g=M∨wz.heap.size≤g) wz wr
 le:p.1.length≤281474976710656
 cl: ∀i (hi:i<P.length),P[i].1.cols.length≤255
theorem DI.fin {w wz wr:World} {b M n k:Nat} {r0:Rc} {s0:Sk} {A:List Tbl×Ds} {p p0:Ds} {P:List (Tbl×Value)} {ta:Option Addr} {tc:Nat} (h:DI w wz wr b M n k r0 s0 A p P ta tc) (d:DS w wz b M r0 s0 p0) (hk:n - k=0∨p.2=true) (hkm:k≤255):
  DS w wr b M { r0 with tbs:=A.1 } { s0 with P:=P,«to»:=ta,tc:=tc } A.2∧A=(P.map Prod.fst,p):=by
 have e:A=(P.map Prod.fst,p):=by rw[←h.eq];exact dTabs_stop hk
 refine⟨?_,e⟩
 rw[e]
 have hbz:=blk_lt d.db
 have hMz:=blk_lt d.bx
 have k0:RW wr (Fd w b M) r0 s0:=d.rw.tch h.t (fun i hi hs=>by
  rcases hs with hs|hs|hs
  ·exact .inr (.inl hs)
  ·exact .inr (.inr hs)
  ·omega)
 have hown:=h.own
 have htl:TL wr (fun i=>i<wz.heap.size) ta P:=by
  rw[←h.len] at hown
  exact hown.toTL
 refine⟨h.db,h.bx,⟨k0.o,k0.n,k0.tb,htl.weak (fun g hg=>?_),rfl,k0.onf,k0.nnf,k0.oi,k0.ni,k0.ol,k0.nl,k0.cl,by show P.length≤_;rw[h.len];omega,fun i hi=>by have:=h.cl i hi;show P[i].1.cols.length≤_;omega⟩,d.t.trans h.t (fun i hi hs=>?_),h.le,d.bb,d.bm,d.ne⟩
 ·have h1:=d.t.size
  rcases hg with hg|hg|hg<;>omega
 ·have h1:=d.t.size
  have h2:=d.bb
  have h3:=d.bm
  rcases hs with hs|hs|hs<;>omega
theorem DI.start {w wz:World} {b M n:Nat} {r0:Rc} {s0:Sk} {p:Ds} (d:DS w wz b M r0 s0 p) (h2:s0.P=[]) (h3:s0.to=none) (h4:s0.tc=0):DI w wz wz b M n 0 r0 s0 (dTabs n p []) p [] none 0:=by
 refine⟨rfl,rfl,d.db,?_,to_nil _ _,Tch.refl _ _,d.le,fun i hi=>by simp at hi⟩
 have e:=d.bx
 have e1:rcl14 r0 s0=rcl14 { r0 with tbs:=([]:List (Tbl×Value)).map Prod.fst } { s0 with P:=[],«to»:=none,tc:=0 } :=by
  unfold rcl14
  rw[h2,h3,h4]
 rw[e1] at e
 exact e
theorem DI.step {w wz wr w':World} {b M n k:Nat} {r0:Rc} {s0:Sk} {A:List Tbl×Ds} {p p0:Ds} {P:List (Tbl×Value)} {ta:Option Addr} {tc:Nat} (h:DI w wz wr b M n k r0 s0 A p P ta tc) (d:DS w wz b M r0 s0 p0) (hk:k<n) (hn:n≤255) (hp:p.2=false) (t':Tch (fun i=>i=b) wr w') (h':DB w' b (dTab p).2) {v:Value} (hv:w'.ownsRow wr.heap.size 43 3 v (dTab p).1.cols.length (ccl (dTab p).1.cols)) {w1:World} (hw1:w1=w'.alloc (.cells #[.int .i64 (dTab p).1.id,.int .i64 (dTab p).1.ver,.string (dTab p).1.nm,v,.int .i64 (dTab p).1.key] 29)):
  w1.cell? ⟨M,13,none⟩=some (.slice ta k tc)∧ ∃ta' tc' w3,(Builtin.append_ #[35,35] 35 #[.slice ta k tc,.slice (some ⟨w1.heap.size,0,none⟩) 1 1]).run Tryz.prog (w1.alloc (.cells #[.int .i64 (dTab p).1.id,.int .i64 (dTab p).1.ver,.string (dTab p).1.nm,v,.int .i64 (dTab p).1.key] 29))= .ok (.slice ta' (k+1) tc') w3∧w3.cell? ⟨M,13,none⟩=some (.slice ta k tc)∧w3.frozen? ⟨M,13,none⟩=false∧DI w wz (w3.setCell ⟨M,13,none⟩ (.slice ta' (k+1) tc')) b M n (k+1) r0 s0 A (dTab p).2 (P++[((dTab p).1,v)]) ta' tc':=by
 obtain⟨i0,hi0,hz0,hz1,hz2⟩:=info_parts info_tbl
 obtain⟨vo,vc,rfl⟩:=row_slice hv
 have hbz:=blk_lt d.db
 have hMz:=blk_lt d.bx
 have hzr:=h.t.size
 have z':=t'.size
 obtain⟨w2,hw2⟩: ∃w2,w2=w1.alloc (.cells #[.int .i64 (dTab p).1.id,.int .i64 (dTab p).1.ver,.string (dTab p).1.nm,.slice vo (dTab p).1.cols.length vc,.int .i64 (dTab p).1.key] 29):=⟨_,rfl⟩
 rw[←hw2]
 have t1:Tch (fun _=>False) w' w1:=by rw[hw1];exact Tch.alloc _ _ _
 have t2:Tch (fun _=>False) w1 w2:=by rw[hw2];exact Tch.alloc _ _ _
 have b2:w2.heap[w1.heap.size]? =some (.cells #[.int .i64 (dTab p).1.id,.int .i64 (dTab p).1.ver,.string (dTab p).1.nm,.slice vo (dTab p).1.cols.length vc,.int .i64 (dTab p).1.key] 29 (0,0)):=by rw[hw2];exact heap_new w1 _
 have T1:Tch (fun i=>i=b) wr w1:=t'.trans t1 (fun _ _ e=>e.elim)
 have T2:Tch (fun i=>i=b) wr w2:=T1.trans t2 (fun _ _ e=>e.elim)
 have bx1:=(T1.block M (by omega) (fun e=>d.ne e.symm)).trans h.bx
 have bx2:=(T2.block M (by omega) (fun e=>d.ne e.symm)).trans h.bx
 have eM:(rcl14 { r0 with tbs:=P.map Prod.fst } { s0 with P:=P,«to»:=ta,tc:=tc })[13]? =some (.slice ta k tc):=by rw[←h.len];rfl
 have own2:TO w2 wz.heap.size (.slice ta k tc) P:=h.own.tch T2 (fun i hi _ e=>by have e':i=b:=e;omega)
 have hv2:w2.ownsRow wr.heap.size 43 3 (.slice vo (dTab p).1.cols.length vc) (dTab p).1.cols.length (ccl (dTab p).1.cols):=own_tch (own_tch hv t1 (fun _ _ e=>e)) t2 (fun _ _ e=>e)
 have hrow:w2.ownsRow wz.heap.size 29 5 (.slice ta k tc) k (tcl P):=by have:=own2.own;rw[h.len] at this;exact this
 obtain⟨v3,w3,hr,hown,hgr,_,hat⟩:=run_append_own_at (P:=Tryz.prog) w2 wz.heap.size 35 35 29 i0 _ 5 64 Tryz.underlying35 hi0 hz0 hz1 hz2 rfl (by decide) _ _ _ hrow ⟨w1.heap.size,0,none⟩ 1 1 [.int .i64 (dTab p).1.id,.int .i64 (dTab p).1.ver,.string (dTab p).1.nm,.slice vo (dTab p).1.cols.length vc,.int .i64 (dTab p).1.key] rfl (fun j u hu=>by rw[add_plain,Nat.zero_add,blk_cell b2, ←Array.getElem?_toList];exact hu) (fun u hu=>by
   simp only[List.mem_cons,List.not_mem_nil,or_false] at hu
   rcases hu with rfl|rfl|rfl|rfl|rfl<;>rfl) (by unfold maxLen;omega) (by omega) (by have:=T2.size;omega)
 obtain⟨ta',tc',rfl⟩:=row_slice hown
 have tG:Tch (fun g=>(Value.slice ta k tc).ownBlock=some g) w2 w3:=grown_at (Tch.refl (fun _=>False) w2) hgr|>.mono (fun _ _ h=>h)
 have hge: ∀g,(Value.slice ta k tc).ownBlock=some g→wz.heap.size≤g:=fun g hg=>(hrow.lt g hg).1
 have bx3:=(tG.block M (by have:=T2.size;omega) (fun e=>by have:=hge _ e;omega)).trans bx2
 have eC:tcl (P++[((dTab p).1,Value.slice vo (dTab p).1.cols.length vc)])=tcl P++[.int .i64 (dTab p).1.id,.int .i64 (dTab p).1.ver,.string (dTab p).1.nm,.slice vo (dTab p).1.cols.length vc,.int .i64 (dTab p).1.key]:=by rw[tcl_append];rfl
 have own3:TO w3 wz.heap.size (.slice ta' (k+1) tc') (P++[((dTab p).1,.slice vo (dTab p).1.cols.length vc)]):=by
  refine own2.snoc (M:=wr.heap.size) hv2 (by omega) (fun g hg=>?_) hgr (by rw[h.len,eC];exact hown) hat
  rcases hg with hg|⟨i,hi,hg⟩
  ·have h9:wr.ownsRow wz.heap.size 29 5 (.slice ta k tc) k (tcl P):=by have:=h.own.own;rw[h.len] at this;exact this
   exact(h9.lt g hg).2
  ·exact((h.own.col i hi).lt g hg).2
 have tS:Tch (fun g=>g=M) w3 (w3.setCell ⟨M,13,none⟩ (.slice ta' (k+1) tc')):=Tch.setCell (fun g=>g=M) w3 ⟨M,13,none⟩ _ rfl
 refine⟨by rw[blk_cell bx1];exact eM,ta',tc',w3,hr,by rw[blk_cell bx3];exact eM,blk_frozen bx3 13,?_⟩
 have hl:=dTab_len p
 refine⟨by rw[List.length_append,h.len];rfl,?_,?_,?_,?_,?_,by have:=h.le;omega,fun i hi=>?_⟩
 ·rw[List.map_append, ←h.eq,dTabs_go hk hp];rfl
 ·exact((((h'.no t1).no t2).tch tG (fun e=>by have:=hge _ e;omega)).tch tS d.ne)
 ·rw[blk_set bx3]
  have e9:(P++[((dTab p).1,Value.slice vo (dTab p).1.cols.length vc)]).length=k+1:=by rw[List.length_append,h.len];rfl
  show some (Obj.cells ((rcl14 { r0 with tbs:=P.map Prod.fst } { s0 with P:=P,«to»:=ta,tc:=tc }).setIfInBounds 13 (.slice ta' (k+1) tc')) _ _)=_
  unfold rcl14
  rw[e9]
  rfl
 ·exact own3.tch tS (fun i hi _ e=>by have e':i=M:=e;omega)
 ·refine((h.t.trans T2 (fun i _ e=>.inl e)).trans tG (fun i _ e=>.inr (.inr (hge _ e)))).trans tS (fun i _ e=>.inr (.inl e))
 ·rw[List.getElem_append]
  split
  ·exact h.cl i (by assumption)
  ·rename_i hi2
   have e0:i - P.length=0:=by simp at hi;omega
   simp only[e0,List.getElem_cons_zero]
   exact hl.2
def dloops:Code→List Code
 | .loop c=>c::dloops c
 | .seq a b=>dloops a++dloops b
 | .block _ c=>dloops c
 | .scope c=>dloops c
 | .cond _ a b=>dloops a++dloops b
 |_=>[]
noncomputable def ddB (k:Nat):Code:=(Tryz.f22.body.elim [] dloops).getD k .skip
theorem ddec2 (w wz:World) (b M n:Nat) (r0:Rc) (s0:Sk) (A:List Tbl×Ds) (p0:Ds) (hn:n≤255) (HD:Hid (DS w wz b M r0 s0 p0)) (HJ:Hid (DI w wz wz b M n 0 r0 s0 A p0 [] none 0)) (Q0:Exit→Act→World→Prop)
  (u0 u1 u2 u3 u6 u7 aJ aK aL aM aN aO aP aQ aR aS aT aU aV aW aX aY aZ ba be bf bg bh bi bj bp bq br bu bv bw bz bC bD bE bF bG bH bI bJ bK bL bM bN bO bP bQ bS bT bU bW bX bY bZ cd ce cf cg ch ci ck cn cq cr ct cw cy cz cA cB cC cE cF cG cH cI cJ cK cL cM cN cP cQ cR cT cU cV cW cX cY cZ aa ab ae af ah ai aj al am aq au av aw ax ay az aA aB aC aD aF aG aH aI:Value)
  (Hexit:Hid (∀(v9 d8 d9 da de df dh di dj dk dl dm dn dp dq dr dt du dv dw dx dy:Value) (wx:World),Hid (∃s',DS w wx b M { r0 with tbs:=A.1 } s' A.2)→Q0 (.exit 3) ⟨List.toArray (u0::u1::u2::u3::(.pointer (some ⟨b,0,none⟩))::(.pointer (some ⟨M,0,none⟩))::u6::u7::(.int .i64 n)::(v9)::(d8)::aK::aL::aM::aN::aO::aP::aQ::aR::aS::aT::aU::aV::aW::aX::aY::aZ::ba::be::bf::bg::bh::bi::bj::bp::bq::br::bu::bv::bw::(d9)::(da)::(de)::(df)::(dh)::(di)::(dj)::(dk)::(dl)::(dm)::(dn)::(dp)::(dq)::(dr)::(dt)::(du)::(dv)::(dw)::(dx)::(dy)::bX::bY::bZ::cd::ce::cf::cg::ch::ci::ck::cn::cq::cr::ct::cw::cy::cz::cA::cB::cC::cE::cF::cG::cH::cI::cJ::cK::cL::cM::cN::cP::cQ::cR::cT::cU::cV::cW::cX::cY::cZ::aa::ab::ae::af::ah::ai::aj::al::am::aq::au::av::aw::ax::ay::az::aA::aB::aC::aD::aF::aG::aH::aI::[]),[]⟩ wx)):
  Code.wp Tryz.prog (Code.loop (ddB 1)) Q0 ⟨List.toArray (u0::u1::u2::u3::(.pointer (some ⟨b,0,none⟩))::(.pointer (some ⟨M,0,none⟩))::u6::u7::(.int .i64 n)::(.int .i64 0)::aJ::aK::aL::aM::aN::aO::aP::aQ::aR::aS::aT::aU::aV::aW::aX::aY::aZ::ba::be::bf::bg::bh::bi::bj::bp::bq::br::bu::bv::bw::bz::bC::bD::bE::bF::bG::bH::bI::bJ::bK::bL::bM::bN::bO::bP::bQ::bS::bT::bU::bW::bX::bY::bZ::cd::ce::cf::cg::ch::ci::ck::cn::cq::cr::ct::cw::cy::cz::cA::cB::cC::cE::cF::cG::cH::cI::cJ::cK::cL::cM::cN::cP::cQ::cR::cT::cU::cV::cW::cX::cY::cZ::aa::ab::ae::af::ah::ai::aj::al::am::aq::au::av::aw::ax::ay::az::aA::aB::aC::aD::aF::aG::aH::aI::[]),[]⟩ wz:=by
 conv=>arg 2;arg 1;whnf
 go_loopg [9,10] 255 (fun kx s9 s10 wr=> ∃(k:Nat) (p:Ds) (P:List (Tbl×Value)) (ta:Option Addr) (tc:Nat),s9= .int .i64 k∧n - k≤kx∧k≤n∧Hid (DI w wz wr b M n k r0 s0 A p P ta tc))
 case atStart=>exact⟨0,p0,[],none,0,rfl,by omega,by omega,HJ⟩
 case round=>
  rename World=>wr
  obtain⟨k,p,P,ta,tc,rfl,hkx,hkn,J⟩:=hrel
  have c1:wr.cell? ⟨b,1,none⟩=some (.bool p.2):=blk_cell J.out.db 1
  obtain⟨bad,hbad⟩: ∃bad,bad=p.2:=⟨_,rfl⟩
  rw[←hbad] at c1
  have Hbad:Hid (bad=p.2):=hbad
  clear hbad
  obtain⟨d,hd⟩: ∃d:Bool,d=true ↔ k<n∧bad=false:=⟨decide (k<n∧bad=false),by simp⟩
  have hend:d=false→(n - k=0∨p.2=true):=fun e=>by
   rw[←Hbad.out]
   cases bad with
   |true=>exact .inr rfl
   |false=>
    left
    have: ¬k<n:=fun h=>by rw[hd.2 ⟨h,rfl⟩] at e;cases e
    omega
  have HEnd:Hid (d=false→(n - k=0∨p.2=true)):=hend
  go_upto_region 10 with(fail)
  go_cut [49] from 40 to 59 (fun s49 wc=>s49= .bool d∧wc=wr)
  case first=>
   clear hend HEnd
   by_cases hk1:k<n
   ·have hk1':(k:Int)<(n:Int):=by omega
    cases bad with
    |false=>
     have hdt:d=true:=hd.2 ⟨hk1,rfl⟩
     clear hd
     subst hdt
     go_wp2_with fail
     go_meet
     case rel=>exact⟨rfl,rfl⟩
    |true=>
     have hdt:d=false:=by cases d with
      |false=>rfl
      |true=>exact absurd (hd.1 rfl).2 (by simp)
     clear hd
     subst hdt
     go_wp2_with fail
     go_meet
     case rel=>exact⟨rfl,rfl⟩
   ·have hk1': ¬(k:Int)<(n:Int):=by omega
    have hdt:d=false:=by cases d with
     |false=>rfl
     |true=>exact absurd (hd.1 rfl).1 hk1
    clear hd
    subst hdt
    go_wp2_with fail
    go_meet
    case rel=>exact⟨rfl,rfl⟩
  case rest=>
   obtain⟨rfl,rfl⟩:=hcut
   rename World=>wr
   cases d with
   |true=>
    obtain⟨hk1,hb0⟩:=hd.1 rfl
    have hpf:p.2=false:=Hbad.out.symm.trans hb0
    have q5:=dtab_any b p wr J.out.db
    obtain⟨t,ht⟩: ∃t,t=(dTab p).1:=⟨_,rfl⟩
    rw[←ht] at q5
    unfold tA at q5
    have Ht:Hid (t=(dTab p).1∧p.2=false):=⟨ht,hpf⟩
    clear hend HEnd c1 Hbad hd hb0 hpf ht
    go_wp2_with fail
    refine q5.mono ?_
    rintro x w' ⟨⟨v,rfl,hv⟩,h',t'⟩
    obtain⟨vo,vc,rfl⟩:=row_slice hv
    obtain⟨cl,hcl⟩: ∃cl,cl=t.cols.length:=⟨_,rfl⟩
    obtain⟨BX,hBX⟩: ∃BX,BX=w'.heap.size:=⟨_,rfl⟩
    obtain⟨w1,hw1⟩: ∃w1,w1=w'.alloc (.cells #[.int .i64 t.id,.int .i64 t.ver,.string t.nm,.slice vo t.cols.length vc,.int .i64 t.key] 29):=⟨_,rfl⟩
    obtain⟨m13,ta',tc',w3,hr3,c313,f313,J3⟩:=J.out.step HD.out hk1 hn Ht.out.2 t' (by exact h') (v:= .slice vo t.cols.length vc) (by rw[Ht.out.1] at hv ⊢;exact hv) (w1:=w1) (by rw[hw1,Ht.out.1])
    rw[←Ht.out.1] at hr3 J3
    have b1:w1.heap[BX]? =some (.cells #[.int .i64 t.id,.int .i64 t.ver,.string t.nm,.slice vo t.cols.length vc,.int .i64 t.key] 29 (0,0)):=by rw[hw1,hBX];exact alloc_new _ _
    have x0:w1.cell? ⟨BX,0,none⟩=some (.int .i64 t.id):=blk_cell b1 0
    have x1:w1.cell? ⟨BX,1,none⟩=some (.int .i64 t.ver):=blk_cell b1 1
    have x2:w1.cell? ⟨BX,2,none⟩=some (.string t.nm):=blk_cell b1 2
    have x3:w1.cell? ⟨BX,3,none⟩=some (.slice vo t.cols.length vc):=blk_cell b1 3
    have x4:w1.cell? ⟨BX,4,none⟩=some (.int .i64 t.key):=blk_cell b1 4
    obtain⟨w4,hw4⟩: ∃w4,w4=w3.setCell ⟨M,13,none⟩ (.slice ta' (k+1) tc'):=⟨_,rfl⟩
    rw[←hw4] at J3
    have HJ4:Hid (∃P',DI w wz w4 b M n (k+1) r0 s0 A (dTab p).2 P' ta' tc'):=⟨_,J3⟩
    have HW1:Hid (w1=_):=hw1
    have HW4:Hid (w4=_):=hw4
    have HBX:Hid (BX=w'.heap.size):=hBX
    clear q5 hv h' t' hw1 hBX b1 hw4 J3 J hcl Ht
    go_upto_region 13 with(fail)
    rw[←HW1.out, ←HBX.out]
    go_upto_region 11 with(at_builtin;refine wpList_app9 _ rfl _ _ 35 rfl rfl _ _ rfl rfl hr3 ?_)
    rw[←HW4.out]
    clear x0 x1 x2 x3 x4 m13 hr3 c313 f313
    obtain⟨P',J4⟩:=HJ4.out
    have HJ5:Hid _:=J4
    clear J4
    go_wp2_with fail
    go_roundg (n - (k+1))
    case measure=>omega
    case rel=>exact⟨k+1,(dTab p).2,P',ta',tc',by first|rfl|(congr 1;omega),by omega,by omega,HJ5⟩
   |false=>
    have HF:Hid (∃s',DS w wr b M { r0 with tbs:=A.1 } s' A.2):=⟨_,(J.out.fin HD.out (HEnd.out rfl) (by omega)).1⟩
    clear hd hend HEnd c1 Hbad J
    go_wp2_with fail
    exact Hexit.out _ _ _ _ _ _ _ _ _ _ _ _ _ _ _ _ _ _ _ _ _ _ _ HF
theorem ddec1 (w wr:World) (b M:Nat) (WW:ByteArray) (L:List UInt8) (A:Rc×Ds) (r0:Rc) (s0:Sk) (p0:Ds) (HL:Hid (bl WW=L)) (hLz:L.length≤10) (hLs: ∀a∈L,a=120∨a=110∨a=112∨a=116∨a=117∨a=111∨a=119∨a=99∨a=109∨a=97∨a=108) (hL: ∀i,L[i]? =some 108→L.length≤i+1) (HJ:Hid (dW (L.drop 0) r0 p0=A∧DS w wr b M r0 s0 p0∧(108∈L.drop 0→s0.P=[]∧s0.to=none∧s0.tc=0))) (Q0:Exit→Act→World→Prop)
  (u0 u1 u2 u3 u8 u9 aO aP aQ aR aS aT aU aV aW aX aY aZ ba be bf bg bh bi bj bp bq br bu bv bw bz bC bD bE bF bG bH bI bJ bK bL bM bN bO bP bQ bS bT bU bW bX bY bZ cd ce cf cg ch ci ck cn cq cr ct cw cy cz cA cB cC cE cF cG cH cI cJ cK cL cM cN cP cQ cR cT cU cV cW cX cY cZ d8 d9 da de df aa ab ae af ah ai aj al am aq au av aw ax ay az aA aB aC aD aF aG aH aI:Value)
  (Hexit:Hid (∀(v7 v8 v9 dh di dj dk dl dm dn dp dq dr dt du dv dw dx dy dz dA dB dD dE dF dG dH dI dJ dK dL dM dN dO dP dQ dR dS dT dU dV dX dY dZ ed ee ef eh ei ej em es eu ex ey ez eA eB eD eE eF eH eI eJ eK eL eN eO eQ eR eS eT eU eV eW eX eY eZ fd fe ff fg aJ aK aL aM aN:Value) (wx:World),Hid (∃r s p,A=(r,p)∧DS w wx b M r s p)→Q0 (.exit 0) ⟨List.toArray (u0::u1::u2::u3::(.pointer (some ⟨b,0,none⟩))::(.pointer (some ⟨M,0,none⟩))::(.string WW)::(v7)::(v8)::(v9)::(dh)::aP::aQ::aR::aS::aT::aU::aV::aW::aX::aY::aZ::(di)::(dj)::(dk)::(dl)::(dm)::(dn)::(dp)::(dq)::(dr)::(dt)::(du)::(dv)::(dw)::(dx)::(dy)::(dz)::(dA)::(dB)::(dD)::(dE)::(dF)::(dG)::(dH)::(dI)::(dJ)::(dK)::(dL)::(dM)::(dN)::(dO)::(dP)::(dQ)::(dR)::(dS)::(dT)::(dU)::(dV)::(dX)::(dY)::(dZ)::(ed)::(ee)::(ef)::(eh)::(ei)::(ej)::(em)::(es)::(eu)::(ex)::(ey)::(ez)::(eA)::(eB)::(eD)::(eE)::(eF)::(eH)::(eI)::(eJ)::(eK)::(eL)::(eN)::(eO)::(eQ)::(eR)::(eS)::(eT)::(eU)::(eV)::(eW)::(eX)::(eY)::(eZ)::(fd)::(fe)::(ff)::(fg)::(aJ)::(aK)::(aL)::(aM)::(aN)::ai::aj::al::am::aq::au::av::aw::ax::ay::az::aA::aB::aC::aD::aF::aG::aH::aI::[]),[]⟩ wx)):
  Code.wp Tryz.prog (Code.loop (ddB 0)) Q0 ⟨List.toArray (u0::u1::u2::u3::(.pointer (some ⟨b,0,none⟩))::(.pointer (some ⟨M,0,none⟩))::(.string WW)::(.int .i64 0)::u8::u9::aO::aP::aQ::aR::aS::aT::aU::aV::aW::aX::aY::aZ::ba::be::bf::bg::bh::bi::bj::bp::bq::br::bu::bv::bw::bz::bC::bD::bE::bF::bG::bH::bI::bJ::bK::bL::bM::bN::bO::bP::bQ::bS::bT::bU::bW::bX::bY::bZ::cd::ce::cf::cg::ch::ci::ck::cn::cq::cr::ct::cw::cy::cz::cA::cB::cC::cE::cF::cG::cH::cI::cJ::cK::cL::cM::cN::cP::cQ::cR::cT::cU::cV::cW::cX::cY::cZ::d8::d9::da::de::df::aa::ab::ae::af::ah::ai::aj::al::am::aq::au::av::aw::ax::ay::az::aA::aB::aC::aD::aF::aG::aH::aI::[]),[]⟩ wr:=by
 conv=>arg 2;arg 1;whnf
 go_loopg [7,8,9,10] L.length (fun kx s7 s8 s9 s10 wr=> ∃(i:Nat) (r:Rc) (s:Sk) (p:Ds),s7= .int .i64 i∧L.length - i≤kx∧i≤L.length∧Hid (dW (L.drop i) r p=A∧DS w wr b M r s p∧(108∈L.drop i→s.P=[]∧s.to=none∧s.tc=0)))
 case atStart=>exact⟨0,r0,s0,p0,rfl,by omega,by omega,HJ⟩
 case round=>
  rename World=>wr
  obtain⟨i,r,s,p,rfl,hkx,hil,J⟩:=hrel
  have c1:wr.cell? ⟨b,1,none⟩=some (.bool p.2):=blk_cell J.out.2.1.db 1
  obtain⟨n0,hn0⟩: ∃n0,n0=L.length:=⟨_,rfl⟩
  have hWz:WW.size=n0:=by rw[hn0, ←HL.out];exact(bl_size WW).symm
  obtain⟨bad,hbad⟩: ∃bad,bad=p.2:=⟨_,rfl⟩
  rw[←hbad] at c1
  have Hbad:Hid (bad=p.2):=hbad
  clear hbad
  obtain⟨d,hd⟩: ∃d:Bool,d=true ↔ i<n0∧bad=false:=⟨decide (i<n0∧bad=false),by simp⟩
  have hend:d=false→(n0 - i=0∨p.2=true):=fun e=>by
   rw[←Hbad.out]
   cases bad with
   |true=>exact .inr rfl
   |false=>
    left
    have: ¬i<n0:=fun h=>by rw[hd.2 ⟨h,rfl⟩] at e;cases e
    omega
  have HEnd:Hid (d=false→(n0 - i=0∨p.2=true)):=hend
  go_upto_region 5 with(fail)
  go_cut [32] from 22 to 104 (fun s32 wc=>s32= .bool d∧wc=wr)
  case first=>
   clear hend HEnd
   by_cases hk1:i<n0
   ·have hk1':(i:Int)<(n0:Int):=by omega
    cases bad with
    |false=>
     have hdt:d=true:=hd.2 ⟨hk1,rfl⟩
     clear hd
     subst hdt
     go_wp2_with fail
     go_meet
     case rel=>exact⟨rfl,rfl⟩
    |true=>
     have hdt:d=false:=by cases d with
      |false=>rfl
      |true=>exact absurd (hd.1 rfl).2 (by simp)
     clear hd
     subst hdt
     go_wp2_with fail
     go_meet
     case rel=>exact⟨rfl,rfl⟩
   ·have hk1': ¬(i:Int)<(n0:Int):=by omega
    have hdt:d=false:=by cases d with
     |false=>rfl
     |true=>exact absurd (hd.1 rfl).1 hk1
    clear hd
    subst hdt
    go_wp2_with fail
    go_meet
    case rel=>exact⟨rfl,rfl⟩
  case rest=>
   obtain⟨rfl,rfl⟩:=hcut
   rename World=>wr
   clear hWz
   cases d with
   |true=>
    obtain⟨hk1,hb0⟩:=hd.1 rfl
    have hpf:p.2=false:=Hbad.out.symm.trans hb0
    have hi:i<L.length:=by omega
    obtain⟨a,ha⟩: ∃a,L[i]? =some a:=⟨_,List.getElem?_eq_getElem hi⟩
    have hgo:=dW_go (r:=r) ha hpf
    rw[J.out.1] at hgo
    have hix: ∀w:World,(Instr.index 9 (.string WW) (.int .i64 (i:Int))).run Tryz.prog w= .ok (.int .u8 (a.toNat:Int)) w:=fun w=>by
     have h1:=xindex0 WW i (by rw[←bl_size,HL.out];exact hi) w
     have e:(WW.data.toList.getD i 0)=a:=by
      have:WW.data.toList=L:=HL.out
      rw[this,List.getD_eq_getElem?_getD,ha];rfl
     rw[e] at h1
     exact h1
    have HSub:Hid (108∈L.drop (i+1)→108∈L.drop i):=fun hm=>by rw[List.drop_eq_getElem_cons hi];exact List.mem_cons_of_mem _ hm
    have hmem:=hLs a (List.mem_of_getElem? ha)
    have HGo0:Hid (A=dW (L.drop (i+1)) (fld a r p).1 (fld a r p).2):=hgo
    clear hend HEnd c1 Hbad hd hb0 hpf hgo hn0 hk1
    rcases hmem with rfl|rfl|rfl|rfl|rfl|rfl|rfl|rfl|rfl|rfl|rfl
    ·have HGo:Hid _:=HGo0.out.symm
     clear HGo0
     have q5:=ddig_any b p wr J.out.2.1.db
     go_wp2_with fail
     refine q5.mono ?_
     rintro x w5 ⟨rfl,h5,t5⟩
     obtain⟨y0,f0,D9⟩:=J.out.2.1.x t5 h5
     obtain⟨w9,hw9⟩: ∃w9,w9=w5.setCell ⟨M,1,none⟩ (.int .i64 (dNum p).1):=⟨_,rfl⟩
     rw[←hw9] at D9
     have HJ9:Hid (dW (L.drop (i+1)) { r with x:=(dNum p).1 } (dNum p).2=A∧DS w w9 b M { r with x:=(dNum p).1 } s (dNum p).2∧(108∈L.drop (i+1)→(s).P=[]∧(s).to=none∧(s).tc=0)):=⟨by have h:=HGo.out;rw[fx] at h;exact h,D9,fun hm=>J.out.2.2 (HSub.out hm)⟩
     have HW9:Hid (w9=_):=hw9
     clear q5 h5 t5 D9 hw9 J hix
     go_upto_region 6 with(fail)
     rw[←HW9.out]
     clear y0 f0
     go_wp2_with fail
     go_roundg (L.length - (i+1))
     case measure=>omega
     case rel=>exact⟨i+1,_,_,_,by first|rfl|(congr 1;omega),by omega,by omega,HJ9⟩
    ·have HGo:Hid _:=HGo0.out.symm
     clear HGo0
     have q5:=ddig_any b p wr J.out.2.1.db
     go_wp2_with fail
     refine q5.mono ?_
     rintro x w5 ⟨rfl,h5,t5⟩
     obtain⟨y0,f0,D9⟩:=J.out.2.1.x t5 h5
     obtain⟨w9,hw9⟩: ∃w9,w9=w5.setCell ⟨M,1,none⟩ (.int .i64 (dNum p).1):=⟨_,rfl⟩
     rw[←hw9] at D9
     have HJ9:Hid (dW (L.drop (i+1)) { r with x:=(dNum p).1 } (dNum p).2=A∧DS w w9 b M { r with x:=(dNum p).1 } s (dNum p).2∧(108∈L.drop (i+1)→(s).P=[]∧(s).to=none∧(s).tc=0)):=⟨by have h:=HGo.out;rw[fn] at h;exact h,D9,fun hm=>J.out.2.2 (HSub.out hm)⟩
     have HW9:Hid (w9=_):=hw9
     clear q5 h5 t5 D9 hw9 J hix
     go_upto_region 6 with(fail)
     rw[←HW9.out]
     clear y0 f0
     go_wp2_with fail
     go_roundg (L.length - (i+1))
     case measure=>omega
     case rel=>exact⟨i+1,_,_,_,by first|rfl|(congr 1;omega),by omega,by omega,HJ9⟩
    ·have HGo:Hid _:=HGo0.out.symm
     clear HGo0
     have q5:=ddig_any b p wr J.out.2.1.db
     go_wp2_with fail
     refine q5.mono ?_
     rintro x w5 ⟨rfl,h5,t5⟩
     obtain⟨y0,f0,D9⟩:=J.out.2.1.pp t5 h5
     obtain⟨w9,hw9⟩: ∃w9,w9=w5.setCell ⟨M,2,none⟩ (.int .i64 (dNum p).1):=⟨_,rfl⟩
     rw[←hw9] at D9
     have HJ9:Hid (dW (L.drop (i+1)) { r with p:=(dNum p).1 } (dNum p).2=A∧DS w w9 b M { r with p:=(dNum p).1 } s (dNum p).2∧(108∈L.drop (i+1)→(s).P=[]∧(s).to=none∧(s).tc=0)):=⟨by have h:=HGo.out;rw[fp] at h;exact h,D9,fun hm=>J.out.2.2 (HSub.out hm)⟩
     have HW9:Hid (w9=_):=hw9
     clear q5 h5 t5 D9 hw9 J hix
     go_upto_region 6 with(fail)
     rw[←HW9.out]
     clear y0 f0
     go_wp2_with fail
     go_roundg (L.length - (i+1))
     case measure=>omega
     case rel=>exact⟨i+1,_,_,_,by first|rfl|(congr 1;omega),by omega,by omega,HJ9⟩
    ·have HGo:Hid _:=HGo0.out.symm
     clear HGo0
     have q5:=ddig_any b p wr J.out.2.1.db
     go_wp2_with fail
     refine q5.mono ?_
     rintro x w5 ⟨rfl,h5,t5⟩
     obtain⟨y0,f0,D9⟩:=J.out.2.1.tt t5 h5
     obtain⟨w9,hw9⟩: ∃w9,w9=w5.setCell ⟨M,3,none⟩ (.int .i64 (dNum p).1):=⟨_,rfl⟩
     rw[←hw9] at D9
     have HJ9:Hid (dW (L.drop (i+1)) { r with t:=(dNum p).1 } (dNum p).2=A∧DS w w9 b M { r with t:=(dNum p).1 } s (dNum p).2∧(108∈L.drop (i+1)→(s).P=[]∧(s).to=none∧(s).tc=0)):=⟨by have h:=HGo.out;rw[ft] at h;exact h,D9,fun hm=>J.out.2.2 (HSub.out hm)⟩
     have HW9:Hid (w9=_):=hw9
     clear q5 h5 t5 D9 hw9 J hix
     go_upto_region 6 with(fail)
     rw[←HW9.out]
     clear y0 f0
     go_wp2_with fail
     go_roundg (L.length - (i+1))
     case measure=>omega
     case rel=>exact⟨i+1,_,_,_,by first|rfl|(congr 1;omega),by omega,by omega,HJ9⟩
    ·have HGo:Hid _:=HGo0.out.symm
     clear HGo0
     have q5:=ddig_any b p wr J.out.2.1.db
     go_wp2_with fail
     refine q5.mono ?_
     rintro x w5 ⟨rfl,h5,t5⟩
     obtain⟨y0,f0,D9⟩:=J.out.2.1.tt t5 h5
     obtain⟨w9,hw9⟩: ∃w9,w9=w5.setCell ⟨M,3,none⟩ (.int .i64 (dNum p).1):=⟨_,rfl⟩
     rw[←hw9] at D9
     have HJ9:Hid (dW (L.drop (i+1)) { r with t:=(dNum p).1 } (dNum p).2=A∧DS w w9 b M { r with t:=(dNum p).1 } s (dNum p).2∧(108∈L.drop (i+1)→(s).P=[]∧(s).to=none∧(s).tc=0)):=⟨by have h:=HGo.out;rw[fu] at h;exact h,D9,fun hm=>J.out.2.2 (HSub.out hm)⟩
     have HW9:Hid (w9=_):=hw9
     clear q5 h5 t5 D9 hw9 J hix
     go_upto_region 6 with(fail)
     rw[←HW9.out]
     clear y0 f0
     go_wp2_with fail
     go_roundg (L.length - (i+1))
     case measure=>omega
     case rel=>exact⟨i+1,_,_,_,by first|rfl|(congr 1;omega),by omega,by omega,HJ9⟩
    ·have HGo:Hid _:=HGo0.out.symm
     clear HGo0
     have q5:=drow_any b p wr J.out.2.1.db J.out.2.1.le
     go_wp2_with fail
     refine q5.mono ?_
     rintro x w5 ⟨⟨ro,rc,rfl,hs5,hg5⟩,h5,t5⟩
     obtain⟨y0,f0,D9⟩:=J.out.2.1.o t5 h5 (c:=rc) hs5 hg5
     obtain⟨w9,hw9⟩: ∃w9,w9=w5.setCell ⟨M,4,none⟩ (.slice ro (dRow p).1.length rc):=⟨_,rfl⟩
     rw[←hw9] at D9
     have HJ9:Hid (dW (L.drop (i+1)) { r with o:=(dRow p).1 } (dRow p).2=A∧DS w w9 b M { r with o:=(dRow p).1 } { s with oo:=ro,oc:=rc } (dRow p).2∧(108∈L.drop (i+1)→({ s with oo:=ro,oc:=rc }).P=[]∧({ s with oo:=ro,oc:=rc }).to=none∧({ s with oo:=ro,oc:=rc }).tc=0)):=⟨by have h:=HGo.out;rw[fo] at h;exact h,D9,fun hm=>J.out.2.2 (HSub.out hm)⟩
     have HW9:Hid (w9=_):=hw9
     clear q5 h5 t5 D9 hw9 J hix hs5 hg5
     go_upto_region 6 with(fail)
     rw[←HW9.out]
     clear y0 f0
     go_wp2_with fail
     go_roundg (L.length - (i+1))
     case measure=>omega
     case rel=>exact⟨i+1,_,_,_,by first|rfl|(congr 1;omega),by omega,by omega,HJ9⟩
    ·have HGo:Hid _:=HGo0.out.symm
     clear HGo0
     have q5:=drow_any b p wr J.out.2.1.db J.out.2.1.le
     go_wp2_with fail
     refine q5.mono ?_
     rintro x w5 ⟨⟨ro,rc,rfl,hs5,hg5⟩,h5,t5⟩
     obtain⟨y0,f0,D9⟩:=J.out.2.1.n t5 h5 (c:=rc) hs5 hg5
     obtain⟨w9,hw9⟩: ∃w9,w9=w5.setCell ⟨M,5,none⟩ (.slice ro (dRow p).1.length rc):=⟨_,rfl⟩
     rw[←hw9] at D9
     have HJ9:Hid (dW (L.drop (i+1)) { r with n:=(dRow p).1 } (dRow p).2=A∧DS w w9 b M { r with n:=(dRow p).1 } { s with no:=ro,nc:=rc } (dRow p).2∧(108∈L.drop (i+1)→({ s with no:=ro,nc:=rc }).P=[]∧({ s with no:=ro,nc:=rc }).to=none∧({ s with no:=ro,nc:=rc }).tc=0)):=⟨by have h:=HGo.out;rw[fw] at h;exact h,D9,fun hm=>J.out.2.2 (HSub.out hm)⟩
     have HW9:Hid (w9=_):=hw9
     clear q5 h5 t5 D9 hw9 J hix hs5 hg5
     go_upto_region 6 with(fail)
     rw[←HW9.out]
     clear y0 f0
     go_wp2_with fail
     go_roundg (L.length - (i+1))
     case measure=>omega
     case rel=>exact⟨i+1,_,_,_,by first|rfl|(congr 1;omega),by omega,by omega,HJ9⟩
    ·have HGo:Hid _:=HGo0.out.symm
     clear HGo0
     have q5:=dtext_any b p wr J.out.2.1.db
     go_wp2_with fail
     refine q5.mono ?_
     rintro x w5 ⟨rfl,h5,t5⟩
     obtain⟨x0,e0,D6⟩:=J.out.2.1.nm t5 h5
     obtain⟨w6,hw6⟩: ∃w6,w6=w5.setCell ⟨M,6,none⟩ (.string (dText p).1):=⟨_,rfl⟩
     rw[←hw6] at D6
     have q6:=ddig_any b (dText p).2 w6 D6.db
     have HW6:Hid (w6=_):=hw6
     clear q5 h5 t5 hw6 hix
     go_upto_region 28 with(fail)
     rw[←HW6.out]
     clear x0 e0
     go_wp2_with fail
     refine q6.mono ?_
     rintro x w7 ⟨rfl,h7,t7⟩
     obtain⟨y0,f0,D9⟩:=D6.org t7 h7
     obtain⟨w9,hw9⟩: ∃w9,w9=w7.setCell ⟨M,7,none⟩ (.int .i64 (dNum (dText p).2).1):=⟨_,rfl⟩
     rw[←hw9] at D9
     have HJ9:Hid (dW (L.drop (i+1)) { r with nm:=(dText p).1,org:=(dNum (dText p).2).1 } (dNum (dText p).2).2=A∧DS w w9 b M { r with nm:=(dText p).1,org:=(dNum (dText p).2).1 } s (dNum (dText p).2).2∧(108∈L.drop (i+1)→(s).P=[]∧(s).to=none∧(s).tc=0)):=⟨by have h:=HGo.out;rw[fc] at h;exact h,D9,fun hm=>J.out.2.2 (HSub.out hm)⟩
     have HW9:Hid (w9=_):=hw9
     clear q6 h7 t7 D9 hw9 J D6 HW6
     go_upto_region 6 with(fail)
     rw[←HW9.out]
     clear y0 f0
     go_wp2_with fail
     go_roundg (L.length - (i+1))
     case measure=>omega
     case rel=>exact⟨i+1,_,_,_,by first|rfl|(congr 1;omega),by omega,by omega,HJ9⟩
    ·have HGo:Hid _:=HGo0.out.symm
     clear HGo0
     have q5:=dtext_any b p wr J.out.2.1.db
     go_wp2_with fail
     refine q5.mono ?_
     rintro x w5 ⟨rfl,h5,t5⟩
     obtain⟨y0,f0,D9⟩:=J.out.2.1.nm t5 h5
     obtain⟨w9,hw9⟩: ∃w9,w9=w5.setCell ⟨M,6,none⟩ (.string (dText p).1):=⟨_,rfl⟩
     rw[←hw9] at D9
     have HJ9:Hid (dW (L.drop (i+1)) { r with nm:=(dText p).1 } (dText p).2=A∧DS w w9 b M { r with nm:=(dText p).1 } s (dText p).2∧(108∈L.drop (i+1)→(s).P=[]∧(s).to=none∧(s).tc=0)):=⟨by have h:=HGo.out;rw[fm] at h;exact h,D9,fun hm=>J.out.2.2 (HSub.out hm)⟩
     have HW9:Hid (w9=_):=hw9
     clear q5 h5 t5 D9 hw9 J hix
     go_upto_region 6 with(fail)
     rw[←HW9.out]
     clear y0 f0
     go_wp2_with fail
     go_roundg (L.length - (i+1))
     case measure=>omega
     case rel=>exact⟨i+1,_,_,_,by first|rfl|(congr 1;omega),by omega,by omega,HJ9⟩
    ·have HGo:Hid _:=HGo0.out.symm
     clear HGo0
     have q5:=dtab_any b p wr J.out.2.1.db
     unfold tA at q5
     go_wp2_with fail
     refine q5.mono ?_
     rintro x w5 ⟨⟨v,rfl,hv⟩,h5,t5⟩
     obtain⟨co,cc,rfl,bx5,D9⟩:=J.out.2.1.a t5 h5 hv
     obtain⟨t,ht⟩: ∃t,t=(dTab p).1:=⟨_,rfl⟩
     rw[←ht] at D9 ⊢
     obtain⟨w9,hw9⟩: ∃w9,w9=((((w5.setCell ⟨M,8,none⟩ (.int .i64 t.id)).setCell ⟨M,9,none⟩ (.int .i64 t.ver)).setCell ⟨M,10,none⟩ (.string t.nm)).setCell ⟨M,11,none⟩ (.slice co t.cols.length cc)).setCell ⟨M,12,none⟩ (.int .i64 t.key):=⟨_,rfl⟩
     rw[←hw9] at D9
     have HJ9:Hid (dW (L.drop (i+1)) { r with tb:=t } (dTab p).2=A∧DS w w9 b M { r with tb:=t } { s with co:=co,cc:=cc } (dTab p).2∧(108∈L.drop (i+1)→s.P=[]∧s.to=none∧s.tc=0)):=⟨by have h:=HGo.out;rw[fa] at h;rw[ht];exact h,D9,fun hm=>J.out.2.2 (HSub.out hm)⟩
     have HW9:Hid (w9=_):=hw9
     have y8:w5.cell? ⟨M,8,none⟩=some (.int .i64 r.tb.id):=blk_cell bx5 8
     have y9:w5.cell? ⟨M,9,none⟩=some (.int .i64 r.tb.ver):=blk_cell bx5 9
     have y10:w5.cell? ⟨M,10,none⟩=some (.string r.tb.nm):=blk_cell bx5 10
     have y11:w5.cell? ⟨M,11,none⟩=some (.slice s.co r.tb.cols.length s.cc):=blk_cell bx5 11
     have y12:w5.cell? ⟨M,12,none⟩=some (.int .i64 r.tb.key):=blk_cell bx5 12
     have f8:=blk_frozen bx5 8
     have f9:=blk_frozen bx5 9
     have f10:=blk_frozen bx5 10
     have f11:=blk_frozen bx5 11
     have f12:=blk_frozen bx5 12
     clear q5 h5 t5 D9 hw9 J hix hv bx5 ht
     go_upto_region 6 with(fail)
     rw[←HW9.out]
     clear y8 y9 y10 y11 y12 f8 f9 f10 f11 f12
     go_wp2_with fail
     go_roundg (L.length - (i+1))
     case measure=>omega
     case rel=>exact⟨i+1,_,_,_,by first|rfl|(congr 1;omega),by omega,by omega,HJ9⟩
    ·have HGo:Hid _:=HGo0.out.symm
     clear HGo0
     have q5:=dbyte_any b p wr J.out.2.1.db
     have hn5:=dByte_lt p
     have hne:=hL i ha
     obtain⟨e1,e2,e3⟩:=J.out.2.2 (by rw[List.drop_eq_getElem_cons (by omega)];rw[(List.getElem?_eq_some_iff.1 ha).2];exact List.mem_cons_self)
     have HZ:Hid (s.P=[]∧s.to=none∧s.tc=0):=⟨e1,e2,e3⟩
     clear e1 e2 e3
     go_wp2_with fail
     refine q5.mono ?_
     rintro x w5 ⟨rfl,h5,t5⟩
     have D5:DS w w5 b M r s (dByte p).2:=⟨h5,(t5.block M (blk_lt J.out.2.1.bx) (fun e=>J.out.2.1.ne e.symm)).trans J.out.2.1.bx,J.out.2.1.rw.tch t5 (fun g _ e=>.inr (.inl e)),J.out.2.1.t.trans t5 (fun g hg e=>by have e':g=b:=e;have:=J.out.2.1.bb;omega),by have:=J.out.2.1.le;have:=dByte_len p;omega,J.out.2.1.bb,J.out.2.1.bm,J.out.2.1.ne⟩
     obtain⟨n,hnn⟩: ∃n,n=(dByte p).1:=⟨_,rfl⟩
     rw[←hnn] at hn5 ⊢
     have HD5:Hid (DS w w5 b M r s (dByte p).2):=D5
     have HJ5:Hid (DI w w5 w5 b M n 0 r s (dTabs n (dByte p).2 []) (dByte p).2 [] none 0):=DI.start D5 HZ.out.1 HZ.out.2.1 HZ.out.2.2
     have HG5:Hid (dW (L.drop (i+1)) { r with tbs:=(dTabs n (dByte p).2 []).1 } (dTabs n (dByte p).2 []).2=A):=by show _=_;rw[hnn];have h:=HGo.out;rw[fl] at h;exact h
     clear q5 h5 t5 D5 hnn J hix HGo
     go_wp2_with fail
     refine ddec2 w w5 b M n r s (dTabs n (dByte p).2 []) (dByte p).2 (by omega) HD5 HJ5 _ _ _ _ _ _ _ _ _ _ _ _ _ _ _ _ _ _ _ _ _ _ _ _ _ _ _ _ _ _ _ _ _ _ _ _ _ _ _ _ _ _ _ _ _ _ _ _ _ _ _ _ _ _ _ _ _ _ _ _ _ _ _ _ _ _ _ _ _ _ _ _ _ _ _ _ _ _ _ _ _ _ _ _ _ _ _ _ _ _ _ _ _ _ _ _ _ _ _ _ _ _ _ _ _ _ _ _ _ _ _ _ _ _ _ _ _ _ _ _ _ ?_
     rintro v9 dh dD dE dF dG dH dI dJ dK dL dM dN dO dP dQ dR dS dT dU dV dX w9 HF
     obtain⟨s9,D9⟩:=HF.out
     have HJ9:Hid (dW (L.drop (i+1)) { r with tbs:=(dTabs n (dByte p).2 []).1 } (dTabs n (dByte p).2 []).2=A∧DS w w9 b M { r with tbs:=(dTabs n (dByte p).2 []).1 } s9 (dTabs n (dByte p).2 []).2∧(108∈L.drop (i+1)→s9.P=[]∧s9.to=none∧s9.tc=0)):=⟨HG5.out,D9,fun hm=>by rw[List.drop_eq_nil_of_le (by omega)] at hm;cases hm⟩
     clear HF D9 HG5 HJ5 HD5
     go_wp2_with fail
     go_roundg (L.length - (i+1))
     case measure=>omega
     case rel=>exact⟨i+1,_,_,_,by first|rfl|(congr 1;omega),by omega,by omega,HJ9⟩
   |false=>
    have HF:Hid (∃r s p,A=(r,p)∧DS w wr b M r s p):=⟨r,s,p,by rw[←J.out.1];exact dW_stop ((HEnd.out rfl).imp (fun e=>by omega) (fun e=>e)),J.out.2.1⟩
    clear hd hend HEnd c1 Hbad J hn0
    go_wp2_with fail
    exact Hexit.out _ _ _ _ _ _ _ _ _ _ _ _ _ _ _ _ _ _ _ _ _ _ _ _ _ _ _ _ _ _ _ _ _ _ _ _ _ _ _ _ _ _ _ _ _ _ _ _ _ _ _ _ _ _ _ _ _ _ _ _ _ _ _ _ _ _ _ _ _ _ _ _ _ _ _ _ _ _ _ _ _ _ _ _ _ _ _ _ HF
end Go.Proofs.YtaiadknglhemaaaGreatDoor.C
