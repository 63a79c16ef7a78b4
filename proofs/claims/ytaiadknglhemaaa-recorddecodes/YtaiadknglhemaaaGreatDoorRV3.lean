import Derived.Test.YtaiadknglhemaaaGreatDoorWRef
import Derived.Test.YtaiadknglhemaaaGreatDoorRV0
import Derived.Test.YtaiadknglhemaaaGreatDoorVRDec
import Derived.Deep.LoopGhost
import Derived.Maps.AppendAt
import Derived.Test.YtaiadknglhemaaaGreatDoorDX0
import Derived.Test.YtaiadknglhemaaaGreatDoorCKeeps
set_option maxHeartbeats 2000000
namespace Go.Proofs.YtaiadknglhemaaaGreatDoor.C
open Go.RowKit Go Go.Sort
theorem sl_rowOf {w:World} {ro:Option Addr} {vs:List Val} (h:RowOf w ro vs):SL w ro (vcl vs):=fun hne=>by
 have hv:vs≠[]:=by rintro rfl;exact hne rfl
 obtain⟨g,o,e,ha⟩:=h hv
 refine⟨g,o,e,fun j u hu=>?_⟩
 have hj:j<vs.length*3:=by rw[←vcl_len];exact(List.getElem?_eq_some_iff.1 hu).1
 obtain⟨q,r,rfl,hr⟩: ∃q r,j=q*3+r∧r<3:=⟨j / 3,j % 3,by omega,by omega⟩
 have hq:q<vs.length:=by omega
 obtain⟨a0,a1,a2⟩:=ha q hq
 unfold vcl at hu
 obtain⟨g0,g1,g2⟩:=f3_get (fun v:Val=>Value.int .i64 v.k) (fun v=>.int .i64 v.n) (fun v=>.string v.s) vs q hq
 rcases(by omega:r=0∨r=1∨r=2) with rfl|rfl|rfl
 ·rw[Nat.add_zero] at hu ⊢;rw[g0] at hu;rw[a0,hu]
 ·rw[g1] at hu;rw[←Nat.add_assoc,a1,hu]
 ·rw[g2] at hu;rw[←Nat.add_assoc,a2,hu]
def DRo (p:Ds) (N:Nat) (x:Ending) (w':World):Prop:= ∃ro c,x= .returned (.slice ro (dRow p).1.length c)∧SL w' ro (vcl (dRow p).1)∧ ∀g o,ro=some ⟨g,o,none⟩→N≤g
theorem dRow_i64 (p:Ds): ∀v∈(dRow p).1,v.i64∧(dRow p).1.length≤8:=fun v hv=>by
 unfold dRow at hv ⊢
 cases h:decR (dText p).1 with
 |none=>rw[h] at hv;cases hv
 |some vs=>
  rw[h] at hv
  exact⟨((dec_enc h).2.2 v hv).2,(dec_enc h).2.1⟩
theorem drow_any (b:Nat) (p:Ds) (w:World) (h:DB w b p) (hl:p.1.length≤281474976710656):
  Calls Tryz.prog 55 #[.pointer (some ⟨b,0,none⟩)] w fun x w'=>DRo p w.heap.size x w'∧DB w' b (dRow p).2∧Tch (fun i=>i=b) w w':=by
 have q1:=dtext_any b p w h
 have hT:=(dText_len p).1
 clear h
 unfold DRo
 have e0:dRow p=match decR (dText p).1 with
  |some vs=>(vs,(dText p).2)
  |none=>([],((dText p).2.1,true)):=rfl
 obtain⟨T,hTe⟩: ∃T,T=(dText p).1:=⟨_,rfl⟩
 obtain⟨p1,hp1⟩: ∃p1,p1=(dText p).2:=⟨_,rfl⟩
 rw[←hTe, ←hp1] at q1 e0
 rw[←hTe] at hT
 have hTs:T.size≤281474976710656:=by omega
 have HD:Hid (∀W,Calls Tryz.prog 95 #[.string T] W fun x w'=>RDecOut T W x w'∧Tch (fun _=>False) W w'):=fun W=>rdecode_any T W hTs
 have HE0:Hid _:=e0
 clear hTe hp1 hT hTs hl e0
 go_enter Tryz.func55,Tryz.ntmps55
 go_wp2_with fail
 refine q1.mono ?_
 rintro x w1 ⟨rfl,h1,t1⟩
 have H1:Hid (DB w1 b p1):=h1
 clear q1 h1
 go_wp2_with fail
 refine(HD.out w1).mono ?_
 rintro x w2 ⟨hO,t2⟩
 have H2:Hid (DB w2 b p1):=H1.out.no t2
 have HT:Hid (Tch (fun i=>i=b) w w2):=t1.trans' (t2.mono (fun _ _ h=>h.elim))
 have hz:=t1.size
 unfold RDecOut at hO
 cases hd:decR T with
 |none=>
  rw[hd] at hO
  have hO:x= .returned (.tuple #[.slice none 0 0,.int .i64 43]):=hO
  subst hO
  have HE:Hid (dRow p=([],(p1.1,true))):=by show _=_;rw[HE0.out,hd]
  have c1:w2.cell? ⟨b,1,none⟩=some (.bool p1.2):=blk_cell H2.out 1
  have f1:=blk_frozen H2.out 1
  clear HE0 hd t1 t2 H1 HD
  go_wp2_with fail
  go_ret
  rw[HE.out]
  have hq:=bad_set (l:=p1.1) (d:=p1.2) H2.out
  exact⟨⟨none,0,rfl,SL.nil _ _,fun g o e=>by cases e⟩,hq.1,HT.out.trans' hq.2⟩
 |some vs=>
  rw[hd] at hO
  obtain⟨ro,c,rfl,hro,hg⟩:=hO
  have HE:Hid (dRow p=(vs,p1)):=by show _=_;rw[HE0.out,hd]
  have HR:Hid (RowOf w2 ro vs):=hro
  have HG:Hid (∀g o,ro=some ⟨g,o,none⟩→w.heap.size≤g):=fun g o e=>by have:=hg g o e;omega
  clear HE0 hd t1 t2 H1 HD hro hg hz
  go_wp2_with fail
  go_ret
  rw[HE.out]
  exact⟨⟨ro,c,rfl,sl_rowOf HR.out,HG.out⟩,H2.out,HT.out⟩
theorem wpList_app9 {P:Program} (w:World) {ops:Array Oper} {rest:List Oper} {o:Oper} {a:Act} {Q:Exit→Act→World→Prop} (hgd:o.guard=none) (s x:Operand) (t:TypeId)
  (ho:o.op= .call { callee:= .builtin .append,args:=#[s,x],argTypes:=#[t,t] }) (hty:o.type=t) (v u:Value) (hs:a.eval s=v) (hx:a.eval x=u) {v':Value} {w':World}
  (hr:(Builtin.append_ #[t,t] t #[v,u]).run P w= .ok v' w') (h:wpList P ops Q rest (a.put o.dst v') w'):wpList P ops Q (o::rest) a w:=by
 refine wpList_plain hgd fun K hK=>?_
 unfold Oper.wp execOp
 simp only[ho,hty,resolve,invoke,builtin,Sem.run_bind,Sem.run_pure,Result.andThen_ok,List.map_toArray,List.map_cons,List.map_nil,hs,hx,hr]
 exact hK _ _ h
theorem dCols_stop {n:Nat} {p:Ds} {l:List Col} (h:n=0∨p.2=true):dCols n p l=(l,p):=by
 cases n with
 |zero=>rfl
 |succ n=>unfold dCols;rw[if_pos (h.resolve_left (by omega))]
theorem dCols_go {n k:Nat} {p:Ds} {l:List Col} (hk:k<n) (h:p.2=false):dCols (n - k) p l=dCols (n - (k+1)) (dCol p).2 (l++[(dCol p).1]):=by
 rw[show n - k=(n - (k+1))+1 by omega]
 conv=>lhs;unfold dCols
 rw[if_neg (by rw[h];simp)]
structure TR (w0 wr:World) (b N n k:Nat) (i1 i2:Int) (nm:ByteArray) (A5:List Col×Ds) (p:Ds) (l:List Col) (vo:Option Addr) (vc:Nat):Prop where
 len:l.length=k
 eq:dCols (n - k) p l=A5
 db:DB wr b p
 bx:wr.heap[N+1]? =some (.cells #[.int .i64 i1,.int .i64 i2,.string nm,.slice vo k vc,.int .i64 0] 29 (0,0))
 own:wr.ownsRow (N+2) 43 3 (.slice vo k vc) k (ccl l)
 t:Tch (fun g=>g=b∨N+1≤g) w0 wr
theorem TR.add {w0 wr w9:World} {b N n k:Nat} {i1 i2:Int} {nm:ByteArray} {A5:List Col×Ds} {p p':Ds} {l:List Col} {vo:Option Addr} {vc:Nat} (J:TR w0 wr b N n k i1 i2 nm A5 p l vo vc) (hb:b<N) (hz0:w0.heap.size=N+2) (c:Col) (h9:DB w9 b p') (t9:Tch (fun g=>g=b∨wr.heap.size≤g) wr w9) (heq:dCols (n - (k+1)) p' (l++[c])=A5) (hk:k<255):
  ∃vo' vc' w11,(Builtin.append_ #[22,22] 22 #[.slice vo k vc,.slice (some ⟨w9.heap.size,0,none⟩) 1 1]).run Tryz.prog (w9.alloc (.cells #[.string c.nm,.int .i64 c.k,.bool c.nl] 43))= .ok (.slice vo' (k+1) vc') w11∧w11.cell? ⟨N+1,3,none⟩=some (.slice vo k vc)∧w11.frozen? ⟨N+1,3,none⟩=false∧TR w0 (w11.setCell ⟨N+1,3,none⟩ (.slice vo' (k+1) vc')) b N n (k+1) i1 i2 nm A5 p' (l++[c]) vo' vc':=by
 obtain⟨i0,hi0,hz0',hz1,hz2⟩:=info_parts info_col
 obtain⟨w10,hw10⟩: ∃w10,w10=w9.alloc (.cells #[.string c.nm,.int .i64 c.k,.bool c.nl] 43):=⟨_,rfl⟩
 rw[←hw10]
 have t10:Tch (fun _=>False) w9 w10:=by rw[hw10];exact Tch.alloc _ _ _
 have b10:w10.heap[w9.heap.size]? =some (.cells #[.string c.nm,.int .i64 c.k,.bool c.nl] 43 (0,0)):=by rw[hw10];exact heap_new w9 _
 have hzr:N+2≤wr.heap.size:=by have:=J.t.size;omega
 have T10:Tch (fun g=>g=b∨wr.heap.size≤g) wr w10:=t9.trans t10 (fun _ _ e=>e.elim)
 have ho10:w10.ownsRow (N+2) 43 3 (.slice vo k vc) k (ccl l):=own_tch J.own T10 (fun g hg e=>by
  have h1:=J.own.lt g hg
  rcases e with e|e
  ·omega
  ·omega)
 obtain⟨v',w11,hr,hown,hgr,_,hat⟩:=run_append_own_at (P:=Tryz.prog) w10 (N+2) 22 22 43 i0 _ 3 32 Tryz.underlying22 hi0 hz0' hz1 hz2 rfl (by decide) _ _ _ ho10 ⟨w9.heap.size,0,none⟩ 1 1 [.string c.nm,.int .i64 c.k,.bool c.nl] rfl (fun j u hu=>by rw[add_plain,Nat.zero_add,blk_cell b10, ←Array.getElem?_toList];exact hu) (fun u hu=>by
   simp only[List.mem_cons,List.not_mem_nil,or_false] at hu
   rcases hu with rfl|rfl|rfl<;>rfl) (by unfold maxLen;omega) (by omega) (by have:=T10.size;omega)
 obtain⟨vo',vc',rfl⟩:=row_slice hown
 have tG:Tch (fun g=>(Value.slice vo k vc).ownBlock=some g) w10 w11:=grown_at (Tch.refl (fun _=>False) w10) hgr|>.mono (fun _ _ h=>h)
 have hnb: ∀g,(Value.slice vo k vc).ownBlock=some g→N+2≤g:=fun g hg=>(J.own.lt g hg).1
 have bx11:w11.heap[N+1]? =some (.cells #[.int .i64 i1,.int .i64 i2,.string nm,.slice vo k vc,.int .i64 0] 29 (0,0)):=by
  rw[tG.block (N+1) (by have:=T10.size;omega) (fun e=>by have:=hnb _ e;omega),T10.block (N+1) (by omega) (by omega)]
  exact J.bx
 refine⟨vo',vc',w11,hr,blk_cell bx11 3,blk_frozen bx11 3,?_⟩
 have tS:Tch (fun g=>g=N+1) w11 (w11.setCell ⟨N+1,3,none⟩ (.slice vo' (k+1) vc')):=Tch.setCell (fun g=>g=N+1) w11 ⟨N+1,3,none⟩ _ rfl
 refine⟨by rw[List.length_append,J.len];rfl,heq,?_,by rw[blk_set bx11];rfl,?_,?_⟩
 ·exact(((h9.no t10).tch tG (fun e=>by have:=hnb _ e;omega)).tch tS (by omega))
 ·rw[ccl_snoc]
  exact own_tch hown tS (fun g hg e=>by have:=(hown.lt g hg).1;omega)
 ·refine((J.t.trans T10 (fun g hg e=>?_)).trans tG (fun g hg e=>.inr (by have:=hnb _ e;omega))).trans tS (fun g hg e=>.inr (by omega))
  rcases e with e|e
  ·exact .inl e
  ·exact .inr (by omega)
def Fo (Z:Nat) (X:List (Value×Nat)) (i:Nat) (g:Nat):Prop:=g<Z∧ ¬ ∃(j:Nat) (x:Value×Nat),j<i∧X[j]? =some x∧x.1.ownBlock=some g
def Bo (X:List (Value×Nat)) (i:Nat) (g:Nat):Prop:= ∃(j:Nat) (x:Value×Nat),j<i∧X[j]? =some x∧x.1.ownBlock=some g
structure GOx (le e:TypeId) (sz:Nat) (mk:Nat→List Value) (wz wr:World) (X:List (Value×Nat)) (G m hc i:Nat) (A:List Value) (rv:Value):Prop where
 ls:LSb le wr (Fo wz.heap.size X i) G (fun j=>mk (j / 20)) A rv
 len:A.length=20*i
 rest: ∀(j:Nat) (x:Value×Nat),i≤j→X[j]? =some x→wr.ownsRow 0 e sz x.1 x.2 (rep x.2 (mk j))
 ap: ∀(i j:Nat) (x y:Value×Nat) (g:Nat),i≠j→X[i]? =some x→X[j]? =some y→x.1.ownBlock=some g→y.1.ownBlock≠some g
 lt: ∀(j:Nat) (x:Value×Nat) (g:Nat),X[j]? =some x→x.1.ownBlock=some g→g<wz.heap.size∧g≠G
 hx:HX wr le (some ⟨G,0,none⟩) m hc X
 gz:G<wz.heap.size
 t:Tch (Bo X i) wz wr
structure GIx (le e:TypeId) (sz:Nat) (mk:Nat→List Value) (wz wr:World) (X:List (Value×Nat)) (G m hc i k q n:Nat) (A:List Value) (rv x:Value):Prop where
 lg:LGb le e wr (Fo wz.heap.size X (i+1)) G (fun j=>mk (j / 20)) A rv x (mk i) (n+q)
 len:A.length=20*i+k
 rest: ∀(j:Nat) (x:Value×Nat),i+1≤j→X[j]? =some x→wr.ownsRow 0 e sz x.1 x.2 (rep x.2 (mk j))
 ap: ∀(i j:Nat) (x y:Value×Nat) (g:Nat),i≠j→X[i]? =some x→X[j]? =some y→x.1.ownBlock=some g→y.1.ownBlock≠some g
 lt: ∀(j:Nat) (x:Value×Nat) (g:Nat),X[j]? =some x→x.1.ownBlock=some g→g<wz.heap.size∧g≠G
 hx:HX wr le (some ⟨G,0,none⟩) m hc X
 gz:G<wz.heap.size
 t:Tch (Bo X (i+1)) wz wr
section
variable {le e:TypeId} {sz:Nat} {mk:Nat→List Value} {wz wr:World} {X:List (Value×Nat)} {G m hc i k q n:Nat} {A:List Value} {rv x:Value}
theorem GOx.enter (h:GOx le e sz mk wz wr X G m hc i A rv) {y:Value×Nat} (hy:X[i]? =some y) (hl:(mk i).length=sz):GIx le e sz mk wz wr X G m hc i 0 0 y.2 A rv y.1:=by
 refine⟨(h.ls.fresh (fun g _ hg=>?_)).enter (by rw[hl];exact h.rest i y (Nat.le_refl _) hy) (fun g hg=>⟨(h.lt i y g hy hg).2,fun hf=>hf.2 ⟨i,y,by omega,hy,hg⟩⟩),h.len,fun j x hj hx=>h.rest j x (by omega) hx,h.ap,h.lt,h.hx,h.gz,h.t.mono (fun g _ ⟨j,x,h1,h2⟩=>⟨j,x,by omega,h2⟩)⟩
 rcases hg with hg|hg
 ·exact⟨hg.1,fun⟨j,x,h1,h2⟩=>hg.2 ⟨j,x,by omega,h2⟩⟩
 ·refine⟨(h.lt i y g hy hg).1,fun⟨j,x,h1,h2,h3⟩=>h.ap i j y x g (by omega) hy h2 hg h3⟩
theorem GIx.leave (h:GIx le e sz mk wz wr X G m hc i 20 q n A rv x):GOx le e sz mk wz wr X G m hc (i+1) A rv:=
 ⟨h.lg.leave,by have:=h.len;omega,h.rest,h.ap,h.lt,h.hx,h.gz,h.t⟩
theorem Fo_no {Z i g:Nat} {X:List (Value×Nat)} (h: ¬Fo Z X i g) (hg:g<Z):Bo X i g:=Classical.byContradiction fun e=>h ⟨hg,e⟩
theorem GIx.keep (h:GIx le e sz mk wz wr X G m hc i k q n A rv x) {w':World} {S:Nat→Prop} (t:Tch S wr w') (hS: ∀g,S g→g≠G∧ ¬Fo wz.heap.size X (i+1) g):(∀(j:Nat) (x:Value×Nat),i+1≤j→X[j]? =some x→w'.ownsRow 0 e sz x.1 x.2 (rep x.2 (mk j)))∧HX w' le (some ⟨G,0,none⟩) m hc X∧Tch (Bo X (i+1)) wz w':=by
 refine⟨fun j y hj hy=>own_tch (h.rest j y hj hy) t (fun g hg hs=>(hS g hs).2 ⟨(h.lt j y g hy hg).1,fun⟨q,z,h1,h2,h3⟩=>h.ap j q y z g (by omega) hy h2 hg h3⟩),⟨h.hx.1,own_tch h.hx.2 t (fun g hg hs=>(hS g hs).1 (by injection hg with e;exact e.symm))⟩,h.t.trans t (fun g hg hs=>Fo_no (hS g hs).2 hg)⟩
theorem GIx.lts (h:GIx le e sz mk wz wr X G m hc i k q n A rv x):G<wr.heap.size∧ ∀g,Fo wz.heap.size X (i+1) g→g<wr.heap.size:=⟨Nat.lt_of_lt_of_le h.gz h.t.size,fun _ hg=>Nat.lt_of_lt_of_le hg.1 h.t.size⟩
theorem GIx.one (h:GIx le e sz mk wz wr X G m hc i k q n A rv x) (T:TypeId) (hT:Tryz.prog.underlying T=some (.slice le)) (hI:(Tryz.prog.info? le).map (fun i=>(i.zero,i.size,i.bytes))=some (some (.slice none 0 0),1,24)) (hx1:x.oneCell'=true) (hk:k<20) (hq:q≤20) (hn:n≤1000000) (hi:i≤1000000):
  ∃ro' rc' w1,(Builtin.append_ #[T,T] T #[rv,.slice (some ⟨wr.heap.size,0,none⟩) 1 1]).run Tryz.prog (wr.alloc (.cells #[x] le))= .ok (.slice ro' (A.length+1) rc') w1∧GIx le e sz mk wz w1 X G m hc i (k+1) q n (A++[x]) (.slice ro' (A.length+1) rc') x:=by
 obtain⟨i0,hi0,hz0,hz1,hz2⟩:=info_parts hI
 obtain⟨W1,hW1⟩: ∃W1,W1=wr.alloc (.cells #[x] le):=⟨_,rfl⟩
 rw[←hW1]
 have t:Tch (fun _=>False) wr W1:=by rw[hW1];exact Tch.alloc _ _ _
 have b1:W1.heap[wr.heap.size]? =some (.cells #[x] le (0,0)):=by rw[hW1];exact alloc_new _ _
 have hl:=h.len
 obtain⟨v',w1,hr,hown,hgr,hat,_⟩:=run_append_keeps (P:=Tryz.prog) W1 0 T T le i0 _ 1 24 hT hi0 hz0 hz1 hz2 rfl (by decide) rv A.length A (own_tch h.lg.all t (fun _ _ e=>e)) ⟨wr.heap.size,0,none⟩ 1 1 [x] rfl (fun j u hu=>by rw[add_plain,Nat.zero_add,blk_cell b1, ←Array.getElem?_toList];exact hu) (fun u hu=>by rw[List.mem_singleton.1 hu];exact hx1) (by unfold maxLen;omega) (by omega) (Nat.zero_le _)
 obtain⟨ro',rc',rfl⟩:=row_slice hown
 have TT:=grown_at t hgr
 obtain⟨k1,k2,k3⟩:=h.keep TT (fun g hs=>h.lg.ag g hs)
 exact⟨ro',rc',w1,hr,⟨h.lg.one t hgr hown hat (by show mk (A.length / 20)=mk i;rw[show A.length / 20=i by omega]) (by omega) h.lts.1 h.lts.2,by rw[List.length_append,hl];rfl,k1,h.ap,h.lt,k2,h.gz,k3⟩⟩
theorem GIx.two (h:GIx le e sz mk wz wr X G m hc i k q n A rv x) (T:TypeId) (hT:Tryz.prog.underlying T=some (.slice e)) {z:Value} {by':Nat} (hI:(Tryz.prog.info? e).map (fun i=>(i.zero,i.size,i.bytes))=some (some z,sz,by')) (hzs:z.cells.size=sz) (hs0:0<sz) (hby:by'≤64) (hm1: ∀u∈mk i,u.oneCell'=true) (hml: ∀j,(mk j).length=sz) (hq:q<20) (hn:n≤1000000):
  ∃xo' xc' w1,(Builtin.append_ #[T,T] T #[x,.slice (some ⟨wr.heap.size,0,none⟩) 1 1]).run Tryz.prog (wr.alloc (.cells (mk i).toArray e))= .ok (.slice xo' (n+q+1) xc') w1∧GIx le e sz mk wz w1 X G m hc i k (q+1) n A rv (.slice xo' (n+q+1) xc'):=by
 obtain⟨i0,hi0,hz0,hz1,hz2⟩:=info_parts hI
 obtain⟨W1,hW1⟩: ∃W1,W1=wr.alloc (.cells (mk i).toArray e):=⟨_,rfl⟩
 rw[←hW1]
 have t:Tch (fun _=>False) wr W1:=by rw[hW1];exact Tch.alloc _ _ _
 have b1:W1.heap[wr.heap.size]? =some (.cells (mk i).toArray e (0,0)):=by rw[hW1];exact alloc_new _ _
 have hxr:=h.lg.xr
 rw[hml i] at hxr
 have hbb:(n+q+1)*by'≤140737488355328:=by
  have:=Nat.mul_le_mul_left (n+q+1) hby
  omega
 obtain⟨v',w1,hr,hown,hgr,hat,hkk⟩:=run_append_keeps (P:=Tryz.prog) W1 0 T T e i0 z sz by' hT hi0 hz0 hz1 hz2 hzs hs0 x (n+q) (rep (n+q) (mk i)) (own_tch hxr t (fun _ _ e=>e)) ⟨wr.heap.size,0,none⟩ 1 1 (mk i) (by rw[hml i];omega) (fun j u hu=>by rw[add_plain,Nat.zero_add,blk_cell b1,List.getElem?_toArray];exact hu) hm1 (by unfold maxLen;omega) hbb (Nat.zero_le _)
 obtain⟨xo',xc',rfl⟩:=row_slice hown
 have TT:=grown_at t hgr
 obtain⟨k1,k2,k3⟩:=h.keep TT (fun g hs=>(h.lg.xg g hs).2)
 refine⟨xo',xc',w1,hr,⟨h.lg.two t hgr (by rw[hml i,rep_succ];exact hown) hat (fun b j hb hj=>hkk b j hb (fun e=>by have:=hj e;rw[hml i] at this;exact this)) h.lts.1 h.lts.2 (fun j=>by rw[hml i];exact hml _),h.len,k1,h.ap,h.lt,k2,h.gz,k3⟩⟩
end
theorem LX.nil {W:World} {e:TypeId} {sz:Nat} {mk:Nat→List Value} :LX W e sz mk [] 0:=
 ⟨fun i x h=>by simp at h,fun i x h=>by omega,fun i j x y g _ h=>by simp at h⟩
theorem snoc_get9 {α:Type} {X:List α} {y z:α} {i:Nat} (h:(X++[y])[i]? =some z):X[i]? =some z∨(i=X.length∧z=y):=by
 rw[List.getElem?_append] at h
 split at h
 ·exact Or.inl h
 ·rename_i hi
  have:=(List.getElem?_eq_some_iff.1 h)
  obtain⟨h1,h2⟩:=this
  simp only[List.length_cons,List.length_nil] at h1
  refine Or.inr ⟨by omega,?_⟩
  have e:i - X.length=0:=by omega
  simp only[e,List.getElem_cons_zero] at h2
  exact h2.symm
theorem HX.nil {W:World} {le:TypeId} :HX W le none 0 0 []:=⟨rfl,⟨rfl,Or.inl ⟨rfl,rfl⟩⟩⟩
theorem HX.push {W W1:World} {le:TypeId} {ho:Option Addr} {m hc:Nat} {X:List (Value×Nat)} (h:HX W le ho m hc X) (T:TypeId) (hT:Tryz.prog.underlying T=some (.slice le)) (hI:(Tryz.prog.info? le).map (fun i=>(i.zero,i.size,i.bytes))=some (some (.slice none 0 0),1,24)) (Y:List (Value×Nat)) (n:Nat) (hn:n=Y.length) (hY: ∀y∈Y,y.1.oneCell'=true) (hm:m≤1000000) (hY9:n≤1000000) (h0:0<n) (t:Tch (fun _=>False) W W1) (bb:Nat) (b1:W1.heap[bb]? =some (.cells (Y.map Prod.fst).toArray le (0,0))):
  ∃ho' hc' w1,(Builtin.append_ #[T,T] T #[.slice ho m hc,.slice (some ⟨bb,0,none⟩) n n]).run Tryz.prog W1= .ok (.slice ho' (m+n) hc') w1∧HX w1 le ho' (m+n) hc' (X++Y)∧Tch (fun g=>(Value.slice ho m hc).ownBlock=some g) W w1∧(∀g,(Value.slice ho' (m+n) hc').ownBlock=some g→(Value.slice ho m hc).ownBlock=some g∨W.heap.size≤g):=by
 obtain⟨i0,hi0,hz0,hz1,hz2⟩:=info_parts hI
 obtain⟨v',w1,hr,hown,hgr,hat,_⟩:=run_append_keeps (P:=Tryz.prog) W1 0 T T le i0 _ 1 24 hT hi0 hz0 hz1 hz2 rfl (by decide) (.slice ho m hc) m (X.map Prod.fst) (own_tch h.2 t (fun _ _ e=>e)) ⟨bb,0,none⟩ n n (Y.map Prod.fst) (by rw[List.length_map,hn];omega) (fun j u hu=>by rw[add_plain,Nat.zero_add,blk_cell b1,List.getElem?_toArray];exact hu) (fun u hu=>by obtain⟨y,hy,rfl⟩:=List.mem_map.1 hu;exact hY y hy) (by unfold maxLen;omega) (by omega) (Nat.zero_le _)
 obtain⟨ho',hc',rfl⟩:=row_slice hown
 refine⟨ho',hc',w1,hr,⟨by rw[List.length_append, ←h.1,hn],?_⟩,grown_at t hgr,fun g hg=>?_⟩
 ·rw[List.map_append]
  exact hown
 ·rcases hat with e|e
  ·rw[e] at hg;exact Or.inl hg
  ·rw[e] at hg
   injection hg with hg
   have:=t.size
   exact Or.inr (by omega)
theorem step_app9 {P:Program} {w:World} {ops:Array Oper} {o:Oper} {a:Act} {K:Act→World→Prop} {Q:Exit→Act→World→Prop} {E:Prop} (hgd:o.guard=none) (s x:Operand) (t:TypeId)
  (ho:o.op= .call { callee:= .builtin .append,args:=#[s,x],argTypes:=#[t,t] }) (hty:o.type=t) (v u:Value) (hs:a.eval s=v) (hx:a.eval x=u) {R:Value→World→Prop}
  (hr: ∃v' w',(Builtin.append_ #[t,t] t #[v,u]).run P w= .ok v' w'∧R v' w') (h: ∀v' w',R v' w'→K (a.put o.dst v') w'):if Region.wanted o (yielded ops a.tmps)=true then Oper.wp P o a w K Q else E:=by
 have hw:Region.wanted o (yielded ops a.tmps)=true:=by simp[Region.wanted,hgd]
 rw[if_pos hw]
 obtain⟨v',w',hr,hR⟩:=hr
 unfold Oper.wp execOp
 simp only[ho,hty,resolve,invoke,builtin,Sem.run_bind,Sem.run_pure,Result.andThen_ok,List.map_toArray,List.map_cons,List.map_nil,hs,hx,hr]
 exact h _ _ hR
end Go.Proofs.YtaiadknglhemaaaGreatDoor.C
namespace Go.Proofs.YtaiadknglhemaaaGreatDoor.C
open Go.RowKit
theorem rowL_len (vs:List Val):(rowL vs).length≤1700:=by
 have h1:=encR_len vs
 unfold rowL textL
 have h2:=fol_dg_len (⟨(encR vs).1.toArray⟩:ByteArray).size
 have h3:(⟨(encR vs).1.toArray⟩:ByteArray).data.toList.length=(encR vs).1.length:=by simp
 rw[List.length_append];omega
theorem textL_len {s:ByteArray} (h:s.size≤16):(textL s).length≤26:=by
 have h2:=fol_dg_len s.size
 have h3:s.data.toList.length=s.size:=by simp
 unfold textL;rw[List.length_append];omega
theorem wt_ge {b:Nat} {w:World} {i:Nat} (h:WT b w i):b≤i:=by
 rcases h with h|⟨h,_⟩<;>omega
theorem lay_1 (b:Nat) (bs:List UInt8) (r:Rc) (s:Sk) (w:World) (h:WS w b bs 0) (hg:HE w) (hgb:1<b) (hw:RW w (fun i=>b≤i) r s) (hr:rightC 1 r) (hlen:bs.length+100000≤140737488355328):
  Calls Tryz.prog 186 #[.agg #[.int .i64 r.x],.pointer (some ⟨b,0,none⟩)] w fun x w'=>x= .returned (.tuple #[])∧WS w' b (bs++bodyL 1 r) 0∧Tch (WT b w) w w':=by
 have g1:rtN r.x:=hr
 unfold rtN at g1
 have hlt:=h.lt
 obtain⟨w0,hw0⟩: ∃w0,w0=w.alloc (.cells #[.int .i64 r.x] 128):=⟨_,rfl⟩
 have t0:Tch (fun _=>False) w w0:=by rw[hw0];exact Tch.alloc _ _ _
 have b0:w0.heap[w.heap.size]? =some (.cells #[.int .i64 r.x] 128 (0,0)):=by rw[hw0];exact heap_new w _
 have HK:Hid (∀W,Tch (WT b w0) w0 W→(W.cell? ⟨w.heap.size,0,none⟩=some (.int .i64 r.x))∧RW W (fun i=>b≤i) r s∧HE W):=fun W t=>by
  have hb:=wt_keep t b0 (by decide) (by omega)
  exact⟨blk_cell hb 0,(hw.no t0).tch t (fun i _ h=>wt_ge h),(hg.tch t0 (fun h=>h)).tch t (fun h=>by have:=wt_ge h;omega)⟩
 have h0:WS w0 b bs 0:=h.tch t0 (fun _ _ _ h=>h)
 have HT0:Hid (Tch (fun _=>False) w w0):=t0
 have HW0:Hid (w0=w.alloc (.cells #[.int .i64 r.x] 128)):=hw0
 obtain⟨-,hR0,hE0⟩:=HK.out w0 (Tch.refl _ _)
 have HR0:Hid _:=hR0
 have HE0:Hid _:=hE0
 clear h hg hw t0 b0 hw0 hR0 hE0
 try clear hr
 go_enter Tryz.func186,Tryz.ntmps186
 go_wp2_with fail
 have q1:=wvar_ok b _ r.x w0 h0 (by omega) (by omega) (by first|omega|(simp only[List.length_append];omega))
 rw[HW0.out] at q1
 refine q1.mono ?_
 rintro x w1 ⟨rfl,h1,t1⟩
 rw[←HW0.out] at t1
 clear q1 h0
 have T1:=t1
 have l1:=fol_dg_len r.x.toNat
 go_wp2_with fail
 go_end0
 refine⟨rfl,?_,wt_new HT0.out T1⟩
 unfold bodyL
 simpa only[List.append_assoc] using h1
theorem lay_2 (b:Nat) (bs:List UInt8) (r:Rc) (s:Sk) (w:World) (h:WS w b bs 0) (hg:HE w) (hgb:1<b) (hw:RW w (fun i=>b≤i) r s) (hr:rightC 2 r) (hlen:bs.length+100000≤140737488355328):
  Calls Tryz.prog 193 #[.agg #[.int .i64 r.x,.int .i64 r.p],.pointer (some ⟨b,0,none⟩)] w fun x w'=>x= .returned (.tuple #[])∧WS w' b (bs++bodyL 2 r) 0∧Tch (WT b w) w w':=by
 obtain⟨g1,g2,g3⟩:rtN r.x∧rtN r.p∧r.p<r.x:=hr
 unfold rtN at g1 g2
 have hlt:=h.lt
 obtain⟨w0,hw0⟩: ∃w0,w0=w.alloc (.cells #[.int .i64 r.x,.int .i64 r.p] 130):=⟨_,rfl⟩
 have t0:Tch (fun _=>False) w w0:=by rw[hw0];exact Tch.alloc _ _ _
 have b0:w0.heap[w.heap.size]? =some (.cells #[.int .i64 r.x,.int .i64 r.p] 130 (0,0)):=by rw[hw0];exact heap_new w _
 have HK:Hid (∀W,Tch (WT b w0) w0 W→(W.cell? ⟨w.heap.size,0,none⟩=some (.int .i64 r.x)∧W.cell? ⟨w.heap.size,1,none⟩=some (.int .i64 r.p))∧RW W (fun i=>b≤i) r s∧HE W):=fun W t=>by
  have hb:=wt_keep t b0 (by decide) (by omega)
  exact⟨⟨blk_cell hb 0,blk_cell hb 1⟩,(hw.no t0).tch t (fun i _ h=>wt_ge h),(hg.tch t0 (fun h=>h)).tch t (fun h=>by have:=wt_ge h;omega)⟩
 have h0:WS w0 b bs 0:=h.tch t0 (fun _ _ _ h=>h)
 have HT0:Hid (Tch (fun _=>False) w w0):=t0
 have HW0:Hid (w0=w.alloc (.cells #[.int .i64 r.x,.int .i64 r.p] 130)):=hw0
 obtain⟨-,hR0,hE0⟩:=HK.out w0 (Tch.refl _ _)
 have HR0:Hid _:=hR0
 have HE0:Hid _:=hE0
 clear h hg hw t0 b0 hw0 hR0 hE0
 try clear hr
 go_enter Tryz.func193,Tryz.ntmps193
 go_wp2_with fail
 have q1:=wvar_ok b _ r.x w0 h0 (by omega) (by omega) (by first|omega|(simp only[List.length_append];omega))
 rw[HW0.out] at q1
 refine q1.mono ?_
 rintro x w1 ⟨rfl,h1,t1⟩
 rw[←HW0.out] at t1
 clear q1 h0
 have T1:=t1
 have l1:=fol_dg_len r.x.toNat
 obtain⟨⟨y0,y1⟩,hR1,hE1⟩:=HK.out w1 T1
 have HR1:Hid _:=hR1
 have HE1:Hid _:=hE1
 clear hR1 hE1 t1
 go_wp2_with fail
 refine(wvar_ok b _ r.p w1 h1 (by omega) (by omega) (by first|omega|(simp only[List.length_append];omega))).mono ?_
 rintro x w2 ⟨rfl,h2,t2⟩
 have T2:=wt_trans T1 t2
 clear y0 y1 h1 T1
 have l2:=fol_dg_len r.p.toNat
 go_wp2_with fail
 go_end0
 refine⟨rfl,?_,wt_new HT0.out T2⟩
 unfold bodyL
 simpa only[List.append_assoc] using h2
theorem lay_3 (b:Nat) (bs:List UInt8) (r:Rc) (s:Sk) (w:World) (h:WS w b bs 0) (hg:HE w) (hgb:1<b) (hw:RW w (fun i=>b≤i) r s) (hr:rightC 3 r) (hlen:bs.length+100000≤140737488355328):
  Calls Tryz.prog 196 #[.agg #[.int .i64 r.x,.int .i64 r.t,.slice s.no r.n.length s.nc],.pointer (some ⟨b,0,none⟩)] w fun x w'=>x= .returned (.tuple #[])∧WS w' b (bs++bodyL 3 r) 0∧Tch (WT b w) w w':=by
 obtain⟨g1,g2, -⟩:rtN r.x∧rtN r.t∧rtRow r.n:=hr
 unfold rtN at g1 g2
 have hlt:=h.lt
 obtain⟨w0,hw0⟩: ∃w0,w0=w.alloc (.cells #[.int .i64 r.x,.int .i64 r.t,.slice s.no r.n.length s.nc] 132):=⟨_,rfl⟩
 have t0:Tch (fun _=>False) w w0:=by rw[hw0];exact Tch.alloc _ _ _
 have b0:w0.heap[w.heap.size]? =some (.cells #[.int .i64 r.x,.int .i64 r.t,.slice s.no r.n.length s.nc] 132 (0,0)):=by rw[hw0];exact heap_new w _
 have HK:Hid (∀W,Tch (WT b w0) w0 W→(W.cell? ⟨w.heap.size,0,none⟩=some (.int .i64 r.x)∧W.cell? ⟨w.heap.size,1,none⟩=some (.int .i64 r.t)∧W.cell? ⟨w.heap.size,2,none⟩=some (.slice s.no r.n.length s.nc))∧RW W (fun i=>b≤i) r s∧HE W):=fun W t=>by
  have hb:=wt_keep t b0 (by decide) (by omega)
  exact⟨⟨blk_cell hb 0,blk_cell hb 1,blk_cell hb 2⟩,(hw.no t0).tch t (fun i _ h=>wt_ge h),(hg.tch t0 (fun h=>h)).tch t (fun h=>by have:=wt_ge h;omega)⟩
 have h0:WS w0 b bs 0:=h.tch t0 (fun _ _ _ h=>h)
 have HT0:Hid (Tch (fun _=>False) w w0):=t0
 have HW0:Hid (w0=w.alloc (.cells #[.int .i64 r.x,.int .i64 r.t,.slice s.no r.n.length s.nc] 132)):=hw0
 obtain⟨-,hR0,hE0⟩:=HK.out w0 (Tch.refl _ _)
 have HR0:Hid _:=hR0
 have HE0:Hid _:=hE0
 clear h hg hw t0 b0 hw0 hR0 hE0
 try clear hr
 go_enter Tryz.func196,Tryz.ntmps196
 go_wp2_with fail
 have q1:=wvar_ok b _ r.x w0 h0 (by omega) (by omega) (by first|omega|(simp only[List.length_append];omega))
 rw[HW0.out] at q1
 refine q1.mono ?_
 rintro x w1 ⟨rfl,h1,t1⟩
 rw[←HW0.out] at t1
 clear q1 h0
 have T1:=t1
 have l1:=fol_dg_len r.x.toNat
 obtain⟨⟨y0,y1,y2⟩,hR1,hE1⟩:=HK.out w1 T1
 have HR1:Hid _:=hR1
 have HE1:Hid _:=hE1
 clear hR1 hE1 t1
 go_wp2_with fail
 refine(wvar_ok b _ r.t w1 h1 (by omega) (by omega) (by first|omega|(simp only[List.length_append];omega))).mono ?_
 rintro x w2 ⟨rfl,h2,t2⟩
 have T2:=wt_trans T1 t2
 clear y0 y1 y2 h1 T1
 have l2:=fol_dg_len r.t.toNat
 obtain⟨⟨y0,y1,y2⟩,hR2,hE2⟩:=HK.out w2 T2
 have HR2:Hid _:=hR2
 have HE2:Hid _:=hE2
 clear hR2 hE2 t2
 go_wp2_with fail
 refine(layRow_any b _ r.n s.no s.nc w2 h2 HE2.out HR2.out.n HR2.out.ni HR2.out.nl (by first|omega|(simp only[List.length_append];omega))).mono ?_
 rintro x w3 ⟨rfl,h3,t3⟩
 have T3:=wt_trans T2 t3
 clear y0 y1 y2 h2 T2
 have l3:=rowL_len r.n
 go_wp2_with fail
 go_end0
 refine⟨rfl,?_,wt_new HT0.out T3⟩
 unfold bodyL
 simpa only[List.append_assoc] using h3
theorem lay_4 (b:Nat) (bs:List UInt8) (r:Rc) (s:Sk) (w:World) (h:WS w b bs 0) (hg:HE w) (hgb:1<b) (hw:RW w (fun i=>b≤i) r s) (hr:rightC 4 r) (hlen:bs.length+100000≤140737488355328):
  Calls Tryz.prog 211 #[.agg #[.int .i64 r.x,.int .i64 r.t,.slice s.oo r.o.length s.oc,.slice s.no r.n.length s.nc],.pointer (some ⟨b,0,none⟩)] w fun x w'=>x= .returned (.tuple #[])∧WS w' b (bs++bodyL 4 r) 0∧Tch (WT b w) w w':=by
 obtain⟨g1,g2, -⟩:rtN r.x∧rtN r.t∧rtRow r.o∧rtRow r.n:=hr
 unfold rtN at g1 g2
 have hlt:=h.lt
 obtain⟨w0,hw0⟩: ∃w0,w0=w.alloc (.cells #[.int .i64 r.x,.int .i64 r.t,.slice s.oo r.o.length s.oc,.slice s.no r.n.length s.nc] 134):=⟨_,rfl⟩
 have t0:Tch (fun _=>False) w w0:=by rw[hw0];exact Tch.alloc _ _ _
 have b0:w0.heap[w.heap.size]? =some (.cells #[.int .i64 r.x,.int .i64 r.t,.slice s.oo r.o.length s.oc,.slice s.no r.n.length s.nc] 134 (0,0)):=by rw[hw0];exact heap_new w _
 have HK:Hid (∀W,Tch (WT b w0) w0 W→(W.cell? ⟨w.heap.size,0,none⟩=some (.int .i64 r.x)∧W.cell? ⟨w.heap.size,1,none⟩=some (.int .i64 r.t)∧W.cell? ⟨w.heap.size,2,none⟩=some (.slice s.oo r.o.length s.oc)∧W.cell? ⟨w.heap.size,3,none⟩=some (.slice s.no r.n.length s.nc))∧RW W (fun i=>b≤i) r s∧HE W):=fun W t=>by
  have hb:=wt_keep t b0 (by decide) (by omega)
  exact⟨⟨blk_cell hb 0,blk_cell hb 1,blk_cell hb 2,blk_cell hb 3⟩,(hw.no t0).tch t (fun i _ h=>wt_ge h),(hg.tch t0 (fun h=>h)).tch t (fun h=>by have:=wt_ge h;omega)⟩
 have h0:WS w0 b bs 0:=h.tch t0 (fun _ _ _ h=>h)
 have HT0:Hid (Tch (fun _=>False) w w0):=t0
 have HW0:Hid (w0=w.alloc (.cells #[.int .i64 r.x,.int .i64 r.t,.slice s.oo r.o.length s.oc,.slice s.no r.n.length s.nc] 134)):=hw0
 obtain⟨-,hR0,hE0⟩:=HK.out w0 (Tch.refl _ _)
 have HR0:Hid _:=hR0
 have HE0:Hid _:=hE0
 clear h hg hw t0 b0 hw0 hR0 hE0
 try clear hr
 go_enter Tryz.func211,Tryz.ntmps211
 go_wp2_with fail
 have q1:=wvar_ok b _ r.x w0 h0 (by omega) (by omega) (by first|omega|(simp only[List.length_append];omega))
 rw[HW0.out] at q1
 refine q1.mono ?_
 rintro x w1 ⟨rfl,h1,t1⟩
 rw[←HW0.out] at t1
 clear q1 h0
 have T1:=t1
 have l1:=fol_dg_len r.x.toNat
 obtain⟨⟨y0,y1,y2,y3⟩,hR1,hE1⟩:=HK.out w1 T1
 have HR1:Hid _:=hR1
 have HE1:Hid _:=hE1
 clear hR1 hE1 t1
 go_wp2_with fail
 refine(wvar_ok b _ r.t w1 h1 (by omega) (by omega) (by first|omega|(simp only[List.length_append];omega))).mono ?_
 rintro x w2 ⟨rfl,h2,t2⟩
 have T2:=wt_trans T1 t2
 clear y0 y1 y2 y3 h1 T1
 have l2:=fol_dg_len r.t.toNat
 obtain⟨⟨y0,y1,y2,y3⟩,hR2,hE2⟩:=HK.out w2 T2
 have HR2:Hid _:=hR2
 have HE2:Hid _:=hE2
 clear hR2 hE2 t2
 go_wp2_with fail
 refine(layRow_any b _ r.o s.oo s.oc w2 h2 HE2.out HR2.out.o HR2.out.oi HR2.out.ol (by first|omega|(simp only[List.length_append];omega))).mono ?_
 rintro x w3 ⟨rfl,h3,t3⟩
 have T3:=wt_trans T2 t3
 clear y0 y1 y2 y3 h2 T2
 have l3:=rowL_len r.o
 obtain⟨⟨y0,y1,y2,y3⟩,hR3,hE3⟩:=HK.out w3 T3
 have HR3:Hid _:=hR3
 have HE3:Hid _:=hE3
 clear hR3 hE3 t3
 go_wp2_with fail
 refine(layRow_any b _ r.n s.no s.nc w3 h3 HE3.out HR3.out.n HR3.out.ni HR3.out.nl (by first|omega|(simp only[List.length_append];omega))).mono ?_
 rintro x w4 ⟨rfl,h4,t4⟩
 have T4:=wt_trans T3 t4
 clear y0 y1 y2 y3 h3 T3
 have l4:=rowL_len r.n
 go_wp2_with fail
 go_end0
 refine⟨rfl,?_,wt_new HT0.out T4⟩
 unfold bodyL
 simpa only[List.append_assoc] using h4
theorem lay_5 (b:Nat) (bs:List UInt8) (r:Rc) (s:Sk) (w:World) (h:WS w b bs 0) (hg:HE w) (hgb:1<b) (hw:RW w (fun i=>b≤i) r s) (hr:rightC 5 r) (hlen:bs.length+100000≤140737488355328):
  Calls Tryz.prog 214 #[.agg #[.int .i64 r.x,.int .i64 r.t,.slice s.oo r.o.length s.oc],.pointer (some ⟨b,0,none⟩)] w fun x w'=>x= .returned (.tuple #[])∧WS w' b (bs++bodyL 5 r) 0∧Tch (WT b w) w w':=by
 obtain⟨g1,g2, -⟩:rtN r.x∧rtN r.t∧rtRow r.o:=hr
 unfold rtN at g1 g2
 have hlt:=h.lt
 obtain⟨w0,hw0⟩: ∃w0,w0=w.alloc (.cells #[.int .i64 r.x,.int .i64 r.t,.slice s.oo r.o.length s.oc] 135):=⟨_,rfl⟩
 have t0:Tch (fun _=>False) w w0:=by rw[hw0];exact Tch.alloc _ _ _
 have b0:w0.heap[w.heap.size]? =some (.cells #[.int .i64 r.x,.int .i64 r.t,.slice s.oo r.o.length s.oc] 135 (0,0)):=by rw[hw0];exact heap_new w _
 have HK:Hid (∀W,Tch (WT b w0) w0 W→(W.cell? ⟨w.heap.size,0,none⟩=some (.int .i64 r.x)∧W.cell? ⟨w.heap.size,1,none⟩=some (.int .i64 r.t)∧W.cell? ⟨w.heap.size,2,none⟩=some (.slice s.oo r.o.length s.oc))∧RW W (fun i=>b≤i) r s∧HE W):=fun W t=>by
  have hb:=wt_keep t b0 (by decide) (by omega)
  exact⟨⟨blk_cell hb 0,blk_cell hb 1,blk_cell hb 2⟩,(hw.no t0).tch t (fun i _ h=>wt_ge h),(hg.tch t0 (fun h=>h)).tch t (fun h=>by have:=wt_ge h;omega)⟩
 have h0:WS w0 b bs 0:=h.tch t0 (fun _ _ _ h=>h)
 have HT0:Hid (Tch (fun _=>False) w w0):=t0
 have HW0:Hid (w0=w.alloc (.cells #[.int .i64 r.x,.int .i64 r.t,.slice s.oo r.o.length s.oc] 135)):=hw0
 obtain⟨-,hR0,hE0⟩:=HK.out w0 (Tch.refl _ _)
 have HR0:Hid _:=hR0
 have HE0:Hid _:=hE0
 clear h hg hw t0 b0 hw0 hR0 hE0
 try clear hr
 go_enter Tryz.func214,Tryz.ntmps214
 go_wp2_with fail
 have q1:=wvar_ok b _ r.x w0 h0 (by omega) (by omega) (by first|omega|(simp only[List.length_append];omega))
 rw[HW0.out] at q1
 refine q1.mono ?_
 rintro x w1 ⟨rfl,h1,t1⟩
 rw[←HW0.out] at t1
 clear q1 h0
 have T1:=t1
 have l1:=fol_dg_len r.x.toNat
 obtain⟨⟨y0,y1,y2⟩,hR1,hE1⟩:=HK.out w1 T1
 have HR1:Hid _:=hR1
 have HE1:Hid _:=hE1
 clear hR1 hE1 t1
 go_wp2_with fail
 refine(wvar_ok b _ r.t w1 h1 (by omega) (by omega) (by first|omega|(simp only[List.length_append];omega))).mono ?_
 rintro x w2 ⟨rfl,h2,t2⟩
 have T2:=wt_trans T1 t2
 clear y0 y1 y2 h1 T1
 have l2:=fol_dg_len r.t.toNat
 obtain⟨⟨y0,y1,y2⟩,hR2,hE2⟩:=HK.out w2 T2
 have HR2:Hid _:=hR2
 have HE2:Hid _:=hE2
 clear hR2 hE2 t2
 go_wp2_with fail
 refine(layRow_any b _ r.o s.oo s.oc w2 h2 HE2.out HR2.out.o HR2.out.oi HR2.out.ol (by first|omega|(simp only[List.length_append];omega))).mono ?_
 rintro x w3 ⟨rfl,h3,t3⟩
 have T3:=wt_trans T2 t3
 clear y0 y1 y2 h2 T2
 have l3:=rowL_len r.o
 go_wp2_with fail
 go_end0
 refine⟨rfl,?_,wt_new HT0.out T3⟩
 unfold bodyL
 simpa only[List.append_assoc] using h3
theorem lay_6 (b:Nat) (bs:List UInt8) (r:Rc) (s:Sk) (w:World) (h:WS w b bs 0) (hg:HE w) (hgb:1<b) (hw:RW w (fun i=>b≤i) r s) (hr:rightC 6 r) (hlen:bs.length+100000≤140737488355328):
  Calls Tryz.prog 217 #[.agg #[.int .i64 r.x,.string r.nm,.int .i64 r.org],.pointer (some ⟨b,0,none⟩)] w fun x w'=>x= .returned (.tuple #[])∧WS w' b (bs++bodyL 6 r) 0∧Tch (WT b w) w w':=by
 obtain⟨g1,g2⟩:rtN r.x∧((r.nm.size=0∧r.org=0)∨(nmOk r.nm=true∧1≤r.org∧r.org≤819208192)):=hr
 have hnm:r.nm.size≤16:=by
  rcases g2 with h|h
  ·omega
  ·exact nm_size h.1
 have g3:0≤r.org∧r.org≤819208192:=by rcases g2 with h|h<;>omega
 unfold rtN at g1
 clear g2
 have hlt:=h.lt
 obtain⟨w0,hw0⟩: ∃w0,w0=w.alloc (.cells #[.int .i64 r.x,.string r.nm,.int .i64 r.org] 137):=⟨_,rfl⟩
 have t0:Tch (fun _=>False) w w0:=by rw[hw0];exact Tch.alloc _ _ _
 have b0:w0.heap[w.heap.size]? =some (.cells #[.int .i64 r.x,.string r.nm,.int .i64 r.org] 137 (0,0)):=by rw[hw0];exact heap_new w _
 have HK:Hid (∀W,Tch (WT b w0) w0 W→(W.cell? ⟨w.heap.size,0,none⟩=some (.int .i64 r.x)∧W.cell? ⟨w.heap.size,1,none⟩=some (.string r.nm)∧W.cell? ⟨w.heap.size,2,none⟩=some (.int .i64 r.org))∧RW W (fun i=>b≤i) r s∧HE W):=fun W t=>by
  have hb:=wt_keep t b0 (by decide) (by omega)
  exact⟨⟨blk_cell hb 0,blk_cell hb 1,blk_cell hb 2⟩,(hw.no t0).tch t (fun i _ h=>wt_ge h),(hg.tch t0 (fun h=>h)).tch t (fun h=>by have:=wt_ge h;omega)⟩
 have h0:WS w0 b bs 0:=h.tch t0 (fun _ _ _ h=>h)
 have HT0:Hid (Tch (fun _=>False) w w0):=t0
 have HW0:Hid (w0=w.alloc (.cells #[.int .i64 r.x,.string r.nm,.int .i64 r.org] 137)):=hw0
 obtain⟨-,hR0,hE0⟩:=HK.out w0 (Tch.refl _ _)
 have HR0:Hid _:=hR0
 have HE0:Hid _:=hE0
 clear h hg hw t0 b0 hw0 hR0 hE0
 try clear hr
 go_enter Tryz.func217,Tryz.ntmps217
 go_wp2_with fail
 have q1:=wvar_ok b _ r.x w0 h0 (by omega) (by omega) (by first|omega|(simp only[List.length_append];omega))
 rw[HW0.out] at q1
 refine q1.mono ?_
 rintro x w1 ⟨rfl,h1,t1⟩
 rw[←HW0.out] at t1
 clear q1 h0
 have T1:=t1
 have l1:=fol_dg_len r.x.toNat
 obtain⟨⟨y0,y1,y2⟩,hR1,hE1⟩:=HK.out w1 T1
 have HR1:Hid _:=hR1
 have HE1:Hid _:=hE1
 clear hR1 hE1 t1
 go_wp2_with fail
 refine(wtext_ok b _ r.nm 16 w1 h1 (by omega) (by first|omega|(simp only[List.length_append];omega))).mono ?_
 rintro x w2 ⟨rfl,h2,t2⟩
 have T2:=wt_trans T1 t2
 clear y0 y1 y2 h1 T1
 have l2:=textL_len hnm
 obtain⟨⟨y0,y1,y2⟩,hR2,hE2⟩:=HK.out w2 T2
 have HR2:Hid _:=hR2
 have HE2:Hid _:=hE2
 clear hR2 hE2 t2
 go_wp2_with fail
 refine(wvar_ok b _ r.org w2 h2 (by omega) (by omega) (by first|omega|(simp only[List.length_append];omega))).mono ?_
 rintro x w3 ⟨rfl,h3,t3⟩
 have T3:=wt_trans T2 t3
 clear y0 y1 y2 h2 T2
 have l3:=fol_dg_len r.org.toNat
 go_wp2_with fail
 go_end0
 refine⟨rfl,?_,wt_new HT0.out T3⟩
 unfold bodyL
 simpa only[List.append_assoc] using h3
theorem lay_7 (b:Nat) (bs:List UInt8) (r:Rc) (s:Sk) (w:World) (h:WS w b bs 0) (hg:HE w) (hgb:1<b) (hw:RW w (fun i=>b≤i) r s) (hr:rightC 7 r) (hlen:bs.length+100000≤140737488355328):
  Calls Tryz.prog 222 #[.agg #[.int .i64 r.x,.string r.nm],.pointer (some ⟨b,0,none⟩)] w fun x w'=>x= .returned (.tuple #[])∧WS w' b (bs++bodyL 7 r) 0∧Tch (WT b w) w w':=by
 obtain⟨g1,g2⟩:rtN r.x∧nmOk r.nm=true:=hr
 have hnm:=nm_size g2
 unfold rtN at g1
 clear g2
 have hlt:=h.lt
 obtain⟨w0,hw0⟩: ∃w0,w0=w.alloc (.cells #[.int .i64 r.x,.string r.nm] 139):=⟨_,rfl⟩
 have t0:Tch (fun _=>False) w w0:=by rw[hw0];exact Tch.alloc _ _ _
 have b0:w0.heap[w.heap.size]? =some (.cells #[.int .i64 r.x,.string r.nm] 139 (0,0)):=by rw[hw0];exact heap_new w _
 have HK:Hid (∀W,Tch (WT b w0) w0 W→(W.cell? ⟨w.heap.size,0,none⟩=some (.int .i64 r.x)∧W.cell? ⟨w.heap.size,1,none⟩=some (.string r.nm))∧RW W (fun i=>b≤i) r s∧HE W):=fun W t=>by
  have hb:=wt_keep t b0 (by decide) (by omega)
  exact⟨⟨blk_cell hb 0,blk_cell hb 1⟩,(hw.no t0).tch t (fun i _ h=>wt_ge h),(hg.tch t0 (fun h=>h)).tch t (fun h=>by have:=wt_ge h;omega)⟩
 have h0:WS w0 b bs 0:=h.tch t0 (fun _ _ _ h=>h)
 have HT0:Hid (Tch (fun _=>False) w w0):=t0
 have HW0:Hid (w0=w.alloc (.cells #[.int .i64 r.x,.string r.nm] 139)):=hw0
 obtain⟨-,hR0,hE0⟩:=HK.out w0 (Tch.refl _ _)
 have HR0:Hid _:=hR0
 have HE0:Hid _:=hE0
 clear h hg hw t0 b0 hw0 hR0 hE0
 try clear hr
 go_enter Tryz.func222,Tryz.ntmps222
 go_wp2_with fail
 have q1:=wvar_ok b _ r.x w0 h0 (by omega) (by omega) (by first|omega|(simp only[List.length_append];omega))
 rw[HW0.out] at q1
 refine q1.mono ?_
 rintro x w1 ⟨rfl,h1,t1⟩
 rw[←HW0.out] at t1
 clear q1 h0
 have T1:=t1
 have l1:=fol_dg_len r.x.toNat
 obtain⟨⟨y0,y1⟩,hR1,hE1⟩:=HK.out w1 T1
 have HR1:Hid _:=hR1
 have HE1:Hid _:=hE1
 clear hR1 hE1 t1
 go_wp2_with fail
 refine(wtext_ok b _ r.nm 16 w1 h1 (by omega) (by first|omega|(simp only[List.length_append];omega))).mono ?_
 rintro x w2 ⟨rfl,h2,t2⟩
 have T2:=wt_trans T1 t2
 clear y0 y1 h1 T1
 have l2:=textL_len hnm
 go_wp2_with fail
 go_end0
 refine⟨rfl,?_,wt_new HT0.out T2⟩
 unfold bodyL
 simpa only[List.append_assoc] using h2
theorem lay_8 (b:Nat) (bs:List UInt8) (r:Rc) (s:Sk) (w:World) (h:WS w b bs 0) (hg:HE w) (hgb:1<b) (hw:RW w (fun i=>b≤i) r s) (hr:rightC 8 r) (hlen:bs.length+100000≤140737488355328):
  Calls Tryz.prog 225 #[.agg #[.int .i64 r.x,.int .i64 r.tb.id,.int .i64 r.tb.ver,.string r.tb.nm,.slice s.co r.tb.cols.length s.cc,.int .i64 r.tb.key],.pointer (some ⟨b,0,none⟩)] w fun x w'=>x= .returned (.tuple #[])∧WS w' b (bs++bodyL 8 r) 0∧Tch (WT b w) w w':=by
 obtain⟨g1,g2⟩:rtN r.x∧rightE r.tb=0:=hr
 have HRT:Hid (RT r.tb):=right_rt g2
 unfold rtN at g1
 have HNF:Hid (∀g o,s.co=some ⟨g,o,none⟩→g<b):=fun g o e=>by
  have hne:r.tb.cols≠[]:=fun e0=>by have h1:=HRT.out.len;rw[e0] at h1;simp at h1
  have:=(hw.tb.nf hne g o e).1
  omega
 clear g2
 have hlt:=h.lt
 obtain⟨w0,hw0⟩: ∃w0,w0=w.alloc (.cells #[.int .i64 r.x,.int .i64 r.tb.id,.int .i64 r.tb.ver,.string r.tb.nm,.slice s.co r.tb.cols.length s.cc,.int .i64 r.tb.key] 141):=⟨_,rfl⟩
 have t0:Tch (fun _=>False) w w0:=by rw[hw0];exact Tch.alloc _ _ _
 have b0:w0.heap[w.heap.size]? =some (.cells #[.int .i64 r.x,.int .i64 r.tb.id,.int .i64 r.tb.ver,.string r.tb.nm,.slice s.co r.tb.cols.length s.cc,.int .i64 r.tb.key] 141 (0,0)):=by rw[hw0];exact heap_new w _
 have HK:Hid (∀W,Tch (WT b w0) w0 W→(W.cell? ⟨w.heap.size,0,none⟩=some (.int .i64 r.x)∧W.cell? ⟨w.heap.size,1,none⟩=some (.int .i64 r.tb.id)∧W.cell? ⟨w.heap.size,2,none⟩=some (.int .i64 r.tb.ver)∧W.cell? ⟨w.heap.size,3,none⟩=some (.string r.tb.nm)∧W.cell? ⟨w.heap.size,4,none⟩=some (.slice s.co r.tb.cols.length s.cc)∧W.cell? ⟨w.heap.size,5,none⟩=some (.int .i64 r.tb.key))∧RW W (fun i=>b≤i) r s∧HE W):=fun W t=>by
  have hb:=wt_keep t b0 (by decide) (by omega)
  exact⟨⟨blk_cell hb 0,blk_cell hb 1,blk_cell hb 2,blk_cell hb 3,blk_cell hb 4,blk_cell hb 5⟩,(hw.no t0).tch t (fun i _ h=>wt_ge h),(hg.tch t0 (fun h=>h)).tch t (fun h=>by have:=wt_ge h;omega)⟩
 have h0:WS w0 b bs 0:=h.tch t0 (fun _ _ _ h=>h)
 have HT0:Hid (Tch (fun _=>False) w w0):=t0
 have HW0:Hid (w0=w.alloc (.cells #[.int .i64 r.x,.int .i64 r.tb.id,.int .i64 r.tb.ver,.string r.tb.nm,.slice s.co r.tb.cols.length s.cc,.int .i64 r.tb.key] 141)):=hw0
 obtain⟨-,hR0,hE0⟩:=HK.out w0 (Tch.refl _ _)
 have HR0:Hid _:=hR0
 have HE0:Hid _:=hE0
 clear h hg hw t0 b0 hw0 hR0 hE0
 try clear hr
 go_enter Tryz.func225,Tryz.ntmps225
 go_wp2_with fail
 have q1:=wvar_ok b _ r.x w0 h0 (by omega) (by omega) (by first|omega|(simp only[List.length_append];omega))
 rw[HW0.out] at q1
 refine q1.mono ?_
 rintro x w1 ⟨rfl,h1,t1⟩
 rw[←HW0.out] at t1
 clear q1 h0
 have T1:=t1
 have l1:=fol_dg_len r.x.toNat
 obtain⟨⟨y0,y1,y2,y3,y4,y5⟩,hR1,hE1⟩:=HK.out w1 T1
 have HR1:Hid _:=hR1
 have HE1:Hid _:=hE1
 clear hR1 hE1 t1
 go_wp2_with fail
 refine(layTable_any b _ r.tb s.co s.cc w1 h1 HRT.out HR1.out.tb.sl (HNF.out) (by first|omega|(simp only[List.length_append];omega))).mono ?_
 rintro x w2 ⟨rfl,h2,t2⟩
 have T2:=wt_trans T1 t2
 clear y0 y1 y2 y3 y4 y5 h1 T1
 go_wp2_with fail
 go_end0
 refine⟨rfl,?_,wt_new HT0.out T2⟩
 unfold bodyL
 simpa only[List.append_assoc] using h2
theorem lay_9 (b:Nat) (bs:List UInt8) (r:Rc) (s:Sk) (w:World) (h:WS w b bs 0) (hg:HE w) (hgb:1<b) (hw:RW w (fun i=>b≤i) r s) (hr:rightC 9 r) (hlen:bs.length+100000≤140737488355328):
  Calls Tryz.prog 232 #[.agg #[.int .i64 r.x,.int .i64 r.t],.pointer (some ⟨b,0,none⟩)] w fun x w'=>x= .returned (.tuple #[])∧WS w' b (bs++bodyL 9 r) 0∧Tch (WT b w) w w':=by
 obtain⟨g1,g2⟩:rtN r.x∧rtN r.t:=hr
 unfold rtN at g1 g2
 have hlt:=h.lt
 obtain⟨w0,hw0⟩: ∃w0,w0=w.alloc (.cells #[.int .i64 r.x,.int .i64 r.t] 143):=⟨_,rfl⟩
 have t0:Tch (fun _=>False) w w0:=by rw[hw0];exact Tch.alloc _ _ _
 have b0:w0.heap[w.heap.size]? =some (.cells #[.int .i64 r.x,.int .i64 r.t] 143 (0,0)):=by rw[hw0];exact heap_new w _
 have HK:Hid (∀W,Tch (WT b w0) w0 W→(W.cell? ⟨w.heap.size,0,none⟩=some (.int .i64 r.x)∧W.cell? ⟨w.heap.size,1,none⟩=some (.int .i64 r.t))∧RW W (fun i=>b≤i) r s∧HE W):=fun W t=>by
  have hb:=wt_keep t b0 (by decide) (by omega)
  exact⟨⟨blk_cell hb 0,blk_cell hb 1⟩,(hw.no t0).tch t (fun i _ h=>wt_ge h),(hg.tch t0 (fun h=>h)).tch t (fun h=>by have:=wt_ge h;omega)⟩
 have h0:WS w0 b bs 0:=h.tch t0 (fun _ _ _ h=>h)
 have HT0:Hid (Tch (fun _=>False) w w0):=t0
 have HW0:Hid (w0=w.alloc (.cells #[.int .i64 r.x,.int .i64 r.t] 143)):=hw0
 obtain⟨-,hR0,hE0⟩:=HK.out w0 (Tch.refl _ _)
 have HR0:Hid _:=hR0
 have HE0:Hid _:=hE0
 clear h hg hw t0 b0 hw0 hR0 hE0
 try clear hr
 go_enter Tryz.func232,Tryz.ntmps232
 go_wp2_with fail
 have q1:=wvar_ok b _ r.x w0 h0 (by omega) (by omega) (by first|omega|(simp only[List.length_append];omega))
 rw[HW0.out] at q1
 refine q1.mono ?_
 rintro x w1 ⟨rfl,h1,t1⟩
 rw[←HW0.out] at t1
 clear q1 h0
 have T1:=t1
 have l1:=fol_dg_len r.x.toNat
 obtain⟨⟨y0,y1⟩,hR1,hE1⟩:=HK.out w1 T1
 have HR1:Hid _:=hR1
 have HE1:Hid _:=hE1
 clear hR1 hE1 t1
 go_wp2_with fail
 refine(wvar_ok b _ r.t w1 h1 (by omega) (by omega) (by first|omega|(simp only[List.length_append];omega))).mono ?_
 rintro x w2 ⟨rfl,h2,t2⟩
 have T2:=wt_trans T1 t2
 clear y0 y1 h1 T1
 have l2:=fol_dg_len r.t.toNat
 go_wp2_with fail
 go_end0
 refine⟨rfl,?_,wt_new HT0.out T2⟩
 unfold bodyL
 simpa only[List.append_assoc] using h2
end Go.Proofs.YtaiadknglhemaaaGreatDoor.C
