import Derived.Test.YtaiadknglhemaaaGreatDoorOW1
import Derived.Test.YtaiadknglhemaaaGreatDoorRV3
import Derived.Deep.DeepCutAuto
import Derived.Deep.CutRange
import Derived.Test.YtaiadknglhemaaaGreatDoorRX3
set_option maxHeartbeats 4000000
set_option maxRecDepth 100000
namespace Go.Proofs.YtaiadknglhemaaaGreatDoor.C
open Go.RowKit Go Go.Sort
abbrev Bx (X:List (Value×Nat)) (g:Nat):Prop:= ∃(i:Nat) (x:Value×Nat),X[i]? =some x∧x.1.ownBlock=some g
theorem Bo.bx {X:List (Value×Nat)} {m g:Nat} (h:Bo X m g):Bx X g:=by
 obtain⟨j,x,_,h⟩:=h
 exact⟨j,x,h⟩
theorem LX.kind {W:World} {e:TypeId} {sz:Nat} {mk:Nat→List Value} {X:List (Value×Nat)} {q g:Nat} (h:LX W e sz mk X q) (hg:Bx X g): ∃cur,W.heap[g]? =some (.cells cur e (0,0)):=by
 obtain⟨i,x,hx,hg⟩:=hg
 obtain⟨xs,ho⟩:=h.own i x hx
 exact own_ty9 ho hg
theorem LX.apart {W:World} {e e':TypeId} {sz sz':Nat} {mk mk':Nat→List Value} {X X':List (Value×Nat)} {q q' g:Nat} (h:LX W e sz mk X q) (h':LX W e' sz' mk' X' q') (hne:e≠e') (hg:Bx X g): ¬Bx X' g:=fun hg'=>by
 obtain⟨c,hc⟩:=h.kind hg
 obtain⟨c',hc'⟩:=h'.kind hg'
 exact ne_ty9 hc hc' hne rfl
theorem LX.far {W W':World} {e e':TypeId} {sz sz':Nat} {mk mk':Nat→List Value} {X X':List (Value×Nat)} {q q':Nat} (h:LX W e sz mk X q) (h':LX W e' sz' mk' X' q') (hne:e≠e') (t:Tch (Bx X') W W'):LX W' e sz mk X q:=
 h.no t (fun i x _ hx hg=>h.apart h' hne ⟨i,x,hx,hg⟩)
theorem HX.farX {W W':World} {le e':TypeId} {sz':Nat} {mk':Nat→List Value} {ho:Option Addr} {m hc:Nat} {X X':List (Value×Nat)} {q':Nat} (h:HX W le ho m hc X) (h':LX W e' sz' mk' X' q') (hne:le≠e') (t:Tch (Bx X') W W'):HX W' le ho m hc X:=
 h.tch t (fun g cur hb hg=>by
  obtain⟨c,hc⟩:=h'.kind hg
  exact ne_ty9 hb hc hne rfl)
theorem LSb.farX {le e e':TypeId} {sz sz':Nat} {mk mk1 mk2:Nat→List Value} {wz wr wr':World} {X X':List (Value×Nat)} {G i q q':Nat} {A:List Value} {rv:Value} (h:LSb le wr (Fo wz.heap.size X i) G mk A rv) (hX:LX wz e sz mk1 X q) (hX':LX wz e' sz' mk2 X' q') (hne:e≠e') (t:Tch (Bx X') wr wr'):LSb le wr' (Fo wz.heap.size X i) G mk A rv:=
 h.tch t (fun g hg=>Or.inr ⟨by obtain⟨c,hc⟩:=hX'.kind hg;exact blk_lt hc,fun hb=>hX'.apart hX (Ne.symm hne) hg (Bo.bx hb)⟩)
theorem LSb.last {le:TypeId} {wr:World} {F:Nat→Prop} {G L rc:Nat} {mk:Nat→List Value} {A:List Value} {ro:Option Addr} (h:LSb le wr F G (fun j=>mk (j / 20)) A (.slice ro L rc)) (hL:L=A.length) (sz:Nat) (hs: ∀j,(mk j).length=sz): ∀j,j<L→ ∃G xo m xc,ro=some ⟨G,0,none⟩∧wr.cell? ⟨G,j,none⟩=some (.slice xo m xc)∧m≤1099511627776∧ ∀q,q<m→ ∃g,xo=some ⟨g,0,none⟩∧ ∀i u,(mk (j / 20))[i]? =some u→wr.cell? ⟨g,q*sz+i,none⟩=some u:=fun j hj=>by
 obtain⟨ao,c,e,ha⟩:=h.read
 simp only[Value.slice.injEq] at e
 obtain⟨e1,_,_⟩:=e
 obtain⟨G,xo,m,xc,h1,h2,h3,h4⟩:=ha j (by omega)
 refine⟨G,xo,m,xc,e1.trans h1,h2,h3,fun q hq=>?_⟩
 obtain⟨g,h5,h6⟩:=h4 q hq
 refine⟨g,h5,fun i u hu=>?_⟩
 have:=h6 i u hu
 rw[hs] at this
 exact this
theorem app_get9 {α:Type} {X Y:List α} {z:α} {i:Nat} (h:(X++Y)[i]? =some z):X[i]? =some z∨(X.length≤i∧Y[i - X.length]? =some z):=by
 rw[List.getElem?_append] at h
 split at h
 ·exact Or.inl h
 ·rename_i hi
  exact Or.inr ⟨by omega,h⟩
theorem LX.add {W W':World} {e:TypeId} {sz:Nat} {mk:Nat→List Value} {X Y:List (Value×Nat)} (h:LX W e sz mk X 0) (t:Tch (fun _=>False) W W') (hY: ∀(i:Nat) (y:Value×Nat),Y[i]? =some y→ ∃xs,W'.ownsRow W.heap.size e sz y.1 y.2 xs) (hd: ∀(i j:Nat) (y z:Value×Nat) (g:Nat),i≠j→Y[i]? =some y→Y[j]? =some z→y.1.ownBlock=some g→z.1.ownBlock≠some g):LX W' e sz mk (X++Y) 0:=by
 have lo: ∀(i:Nat) (x:Value×Nat) (g:Nat),X[i]? =some x→x.1.ownBlock=some g→g<W.heap.size:=fun i x g hx hg=>by
  obtain⟨c,hc⟩:=h.kind ⟨i,x,hx,hg⟩
  exact blk_lt hc
 have hi: ∀(i:Nat) (y:Value×Nat) (g:Nat),Y[i]? =some y→y.1.ownBlock=some g→W.heap.size≤g:=fun i y g hy hg=>by
  obtain⟨xs,ho⟩:=hY i y hy
  exact row_ge ho hg
 refine⟨fun i x hx=>?_,fun i x hi=>by omega,fun i j y z g hij hy hz hg hg'=>?_⟩
 ·rcases app_get9 hx with hx|⟨_,hx⟩
  ·obtain⟨xs,ho⟩:=h.own i x hx
   exact⟨xs,own_tch ho t (fun _ _ e=>e)⟩
  ·obtain⟨xs,ho⟩:=hY _ x hx
   exact⟨xs,own_low ho (Nat.zero_le _)⟩
 ·rcases app_get9 hy with h1|⟨l1,h1⟩<;>rcases app_get9 hz with h2|⟨l2,h2⟩
  ·exact h.ap i j y z g hij h1 h2 hg hg'
  ·have:=lo i y g h1 hg;have:=hi _ z g h2 hg';omega
  ·have:=lo j z g h2 hg';have:=hi _ y g h1 hg;omega
  ·exact hd _ _ y z g (by omega) h1 h2 hg hg'
structure RQ (W:World) (RS:List (Rc×Sk)):Prop where
 r:LX W 58 3 mkR6 (RS.flatMap xr6) 0
 c:LX W 43 3 mkL6 (RS.flatMap xc6) 0
 t:LX W 29 5 mkT6 (RS.map xt6) 0
theorem RQ.nil (W:World):RQ W []:=⟨LX.nil,LX.nil,LX.nil⟩
theorem RQ.no {W W':World} {RS:List (Rc×Sk)} (h:RQ W RS) (t:Tch (fun _=>False) W W'):RQ W' RS:=⟨h.r.no t (fun _ _ _ _ _ e=>e),h.c.no t (fun _ _ _ _ _ e=>e),h.t.no t (fun _ _ _ _ _ e=>e)⟩
theorem RQ.add {W W':World} {RS:List (Rc×Sk)} (h:RQ W RS) (t:Tch (fun _=>False) W W') {r:Rc} {s:Sk} (hr:RN W' W.heap.size r s) (hct: ∀(i:Nat) (q:Tbl×Value) (g:Nat),s.P[i]? =some q→q.2.ownBlock=some g→(Value.slice s.co r.tb.cols.length s.cc).ownBlock≠some g):RQ W' (RS++[(r,s)]):=by
 refine⟨?_,?_,?_⟩
 ·rw[List.flatMap_append]
  refine h.r.add t (fun i y hy=>?_) (fun i j y z g hij hy hz hg hg'=>?_)
  ·simp only[List.flatMap_cons,List.flatMap_nil,List.append_nil] at hy
   rcases i with _|_|i
   ·simp at hy;subst hy;exact⟨_,hr.o⟩
   ·simp at hy;subst hy;exact⟨_,hr.n⟩
   ·simp at hy
  ·simp only[List.flatMap_cons,List.flatMap_nil,List.append_nil] at hy hz
   rcases i with _|_|i<;>rcases j with _|_|j<;>simp at hy hz hij
   ·subst hy hz;exact hr.on g hg hg'
   ·subst hy hz;exact hr.on g hg' hg
 ·rw[List.flatMap_append]
  have key: ∀(i:Nat) (y:Value×Nat),(s.P.map xq6)[i]? =some y→ ∃q,s.P[i]? =some q∧y=xq6 q:=fun i y hy=>by
   rw[List.getElem?_map] at hy
   cases e:s.P[i]? with
   |none=>rw[e] at hy;simp at hy
   |some q=>rw[e] at hy;simp at hy;exact⟨q,rfl,hy.symm⟩
  have col: ∀(i:Nat) (q:Tbl×Value),s.P[i]? =some q→W'.ownsRow W.heap.size 43 3 q.2 q.1.cols.length (ccl q.1.cols):=fun i q hq=>by
   obtain⟨hi,e⟩:=List.getElem?_eq_some_iff.1 hq
   have:=hr.tbs.col i hi
   rw[e] at this
   exact this
  refine h.c.add t (fun i y hy=>?_) (fun i j y z g hij hy hz hg hg'=>?_)
  ·simp only[List.flatMap_cons,List.flatMap_nil,List.append_nil] at hy
   rcases i with _|i
   ·simp at hy;subst hy;exact⟨_,hr.tb⟩
   ·obtain⟨q,hq,rfl⟩:=key i y (by simpa using hy)
    exact⟨_,col i q hq⟩
  ·simp only[List.flatMap_cons,List.flatMap_nil,List.append_nil] at hy hz
   rcases i with _|i<;>rcases j with _|j
   ·omega
   ·obtain⟨q,hq,rfl⟩:=key j z (by simpa using hz)
    simp at hy;subst hy
    exact hct j q g hq hg' hg
   ·obtain⟨q,hq,rfl⟩:=key i y (by simpa using hy)
    simp at hz;subst hz
    exact hct i q g hq hg hg'
   ·obtain⟨q,hq,rfl⟩:=key i y (by simpa using hy)
    obtain⟨q',hq',rfl⟩:=key j z (by simpa using hz)
    obtain⟨hi,e⟩:=List.getElem?_eq_some_iff.1 hq
    obtain⟨hj,e'⟩:=List.getElem?_eq_some_iff.1 hq'
    have:=hr.tbs.dis i j hi hj g (by omega)
    rw[e,e'] at this
    exact this hg hg'
 ·rw[List.map_append]
  refine h.t.add t (fun i y hy=>?_) (fun i j y z g hij hy hz hg hg'=>?_)
  ·rcases i with _|i
   ·simp at hy;subst hy;exact⟨_,hr.tbs.own⟩
   ·simp at hy
  ·rcases i with _|i<;>rcases j with _|j<;>simp at hy hz
   omega
abbrev z5:Array Value:=#[.int .i64 0,.int .i64 0,.string ⟨#[]⟩,.slice none 0 0,.int .i64 0]
theorem dtab_any (b:Nat) (p:Ds) (w:World) (h:DB w b p):
  Calls Tryz.prog 57 #[.pointer (some ⟨b,0,none⟩)] w fun x w'=>(∃v,x= .returned (tA (dTab p).1.id (dTab p).1.ver (dTab p).1.nm v (dTab p).1.key)∧w'.ownsRow w.heap.size 43 3 v (dTab p).1.cols.length (ccl (dTab p).1.cols))∧DB w' b (dTab p).2∧Tch (fun i=>i=b) w w':=by
 obtain⟨N,hN⟩: ∃N,N=w.heap.size:=⟨_,rfl⟩
 obtain⟨w0,hw0⟩: ∃w0,w0=(w.alloc (.cells #[.int .i64 0,.int .i64 0,.string ⟨#[]⟩,.slice none 0 0,.int .i64 0] 29)).alloc (.cells #[.int .i64 0,.int .i64 0,.string ⟨#[]⟩,.slice none 0 0,.int .i64 0] 29):=⟨_,rfl⟩
 have hbN:b<N:=by rw[hN];exact blk_lt h
 have t0:Tch (fun _=>False) w w0:=by rw[hw0];exact(Tch.alloc _ _ _).allocR _
 have hz0:w0.heap.size=N+2:=by rw[hw0,hN,World.size_alloc,World.size_alloc]
 have bR:w0.heap[N]? =some (.cells #[.int .i64 0,.int .i64 0,.string ⟨#[]⟩,.slice none 0 0,.int .i64 0] 29 (0,0)):=by
  rw[hw0,hN];exact(Tch.alloc (fun _=>False) _ _).block _ (by simp) (fun h=>h)|>.trans (alloc_new _ _)
 have bB0:w0.heap[N+1]? =some (.cells #[.int .i64 0,.int .i64 0,.string ⟨#[]⟩,.slice none 0 0,.int .i64 0] 29 (0,0)):=by
  rw[hw0,hN, ←World.size_alloc];exact alloc_new _ _
 have q1:=ddig_any b p w0 (h.no t0)
 unfold dTab
 simp only
 obtain⟨A1,hA1⟩: ∃A,A=dNum p:=⟨_,rfl⟩
 rw[←hA1] at q1 ⊢
 obtain⟨A2,hA2⟩: ∃A,A=dNum A1.2:=⟨_,rfl⟩
 rw[←hA2]
 obtain⟨A3,hA3⟩: ∃A,A=dText A2.2:=⟨_,rfl⟩
 rw[←hA3]
 obtain⟨A4,hA4⟩: ∃A,A=dByte A3.2:=⟨_,rfl⟩
 have hn:=dByte_lt A3.2
 rw[←hA4] at hn ⊢
 obtain⟨A5,hA5⟩: ∃A,A=dCols A4.1 A4.2 []:=⟨_,rfl⟩
 rw[←hA5]
 obtain⟨A6,hA6⟩: ∃A,A=dByte A5.2:=⟨_,rfl⟩
 rw[←hA6]
 have HA:Hid (A2=dNum A1.2∧A3=dText A2.2∧A4=dByte A3.2∧A6=dByte A5.2):=⟨hA2,hA3,hA4,hA6⟩
 have HA5:Hid (A5=dCols A4.1 A4.2 []):=hA5
 obtain⟨i1,hi1⟩: ∃i1:Int,i1=(A1.1:Int):=⟨_,rfl⟩
 obtain⟨i2,hi2⟩: ∃i2:Int,i2=(A2.1:Int):=⟨_,rfl⟩
 obtain⟨nm,hnm⟩: ∃nm,nm=A3.1:=⟨_,rfl⟩
 obtain⟨n,hnn⟩: ∃n,n=A4.1:=⟨_,rfl⟩
 rw[←hi1] at q1 ⊢
 rw[←hi2, ←hnm]
 rw[←hnn] at hn
 have HI:Hid (i1=(A1.1:Int)∧i2=(A2.1:Int)∧nm=A3.1∧n=A4.1):=⟨hi1,hi2,hnm,hnn⟩
 have HT0:Hid (Tch (fun _=>False) w w0):=t0
 have HW0:Hid (w0=_):=hw0
 have HN:Hid (N=w.heap.size):=hN
 have HBR:Hid _:=bR
 have HBB:Hid _:=bB0
 rw[←hN]
 clear hA1 hA2 hA3 hA4 hA5 hA6 h hw0 t0 bR bB0 hi1 hi2 hnm hnn hN
 go_enter Tryz.func57,Tryz.ntmps57
 go_upto_region 2 with(fail)
 rw[←HW0.out, ←HN.out]
 go_wp2_with fail
 refine q1.mono ?_
 rintro x w1 ⟨rfl,h1,t1⟩
 have b1:=(t1.block (N+1) (by omega) (by omega)).trans HBB.out
 have x0:w1.cell? ⟨N+1,0,none⟩=some (.int .i64 0):=blk_cell b1 0
 have f0:=blk_frozen b1 0
 obtain⟨w2,hw2⟩: ∃w2,w2=w1.setCell ⟨N+1,0,none⟩ (.int .i64 i1):=⟨_,rfl⟩
 have t2:Tch (fun g=>g=N+1) w1 w2:=by rw[hw2];exact Tch.setCell (fun g=>g=N+1) w1 ⟨N+1,0,none⟩ _ rfl
 have b2:w2.heap[N+1]? =some (.cells #[.int .i64 i1,.int .i64 0,.string ⟨#[]⟩,.slice none 0 0,.int .i64 0] 29 (0,0)):=by rw[hw2,blk_set b1];rfl
 have q2:=ddig_any b A1.2 w2 (h1.tch t2 (by omega))
 rw[←HA.out.1, ←HI.out.2.1] at q2
 have HT2:Hid (Tch (fun g=>g=b∨N+1≤g) w0 w2):=(t1.mono (fun _ _ e=>.inl e)).trans t2 (fun g _ e=>.inr (by omega))
 have HB2:Hid _:=b2
 have HW2:Hid (w2=_):=hw2
 clear q1 h1 t1 b1 hw2 t2 b2
 go_upto_region 3 with(fail)
 rw[←HW2.out]
 clear x0 f0 HW2
 go_wp2_with fail
 refine q2.mono ?_
 rintro x w3 ⟨rfl,h3,t3⟩
 have hz2:=HT2.out.size
 have b3:=(t3.block (N+1) (by omega) (by omega)).trans HB2.out
 have x1:w3.cell? ⟨N+1,1,none⟩=some (.int .i64 0):=blk_cell b3 1
 have f1:=blk_frozen b3 1
 obtain⟨w4,hw4⟩: ∃w4,w4=w3.setCell ⟨N+1,1,none⟩ (.int .i64 i2):=⟨_,rfl⟩
 have t4:Tch (fun g=>g=N+1) w3 w4:=by rw[hw4];exact Tch.setCell (fun g=>g=N+1) w3 ⟨N+1,1,none⟩ _ rfl
 have b4:w4.heap[N+1]? =some (.cells #[.int .i64 i1,.int .i64 i2,.string ⟨#[]⟩,.slice none 0 0,.int .i64 0] 29 (0,0)):=by rw[hw4,blk_set b3];rfl
 have q3:=dtext_any b A2.2 w4 (h3.tch t4 (by omega))
 rw[←HA.out.2.1, ←HI.out.2.2.1] at q3
 have HT4:Hid (Tch (fun g=>g=b∨N+1≤g) w0 w4):=(HT2.out.trans t3 (fun g _ e=>.inl e)).trans t4 (fun g _ e=>.inr (by omega))
 have HB4:Hid _:=b4
 have HW4:Hid (w4=_):=hw4
 clear q2 h3 t3 b3 hw4 t4 b4 HT2 HB2 hz2
 go_upto_region 4 with(fail)
 rw[←HW4.out]
 clear x1 f1 HW4
 go_wp2_with fail
 refine q3.mono ?_
 rintro x w5 ⟨rfl,h5,t5⟩
 have hz4:=HT4.out.size
 have b5:=(t5.block (N+1) (by omega) (by omega)).trans HB4.out
 have x2:w5.cell? ⟨N+1,2,none⟩=some (.string ⟨#[]⟩):=blk_cell b5 2
 have f2:=blk_frozen b5 2
 obtain⟨w6,hw6⟩: ∃w6,w6=w5.setCell ⟨N+1,2,none⟩ (.string nm):=⟨_,rfl⟩
 have t6:Tch (fun g=>g=N+1) w5 w6:=by rw[hw6];exact Tch.setCell (fun g=>g=N+1) w5 ⟨N+1,2,none⟩ _ rfl
 have b6:w6.heap[N+1]? =some (.cells #[.int .i64 i1,.int .i64 i2,.string nm,.slice none 0 0,.int .i64 0] 29 (0,0)):=by rw[hw6,blk_set b5];rfl
 have q4:=dbyte_any b A3.2 w6 (h5.tch t6 (by omega))
 rw[←HA.out.2.2.1, ←HI.out.2.2.2] at q4
 have HT6:Hid (Tch (fun g=>g=b∨N+1≤g) w0 w6):=(HT4.out.trans t5 (fun g _ e=>.inl e)).trans t6 (fun g _ e=>.inr (by omega))
 have HB6:Hid _:=b6
 have HW6:Hid (w6=_):=hw6
 clear q3 h5 t5 b5 hw6 t6 b6 HT4 HB4 hz4
 go_upto_region 5 with(fail)
 rw[←HW6.out]
 clear x2 f2 HW6
 go_wp2_with fail
 refine q4.mono ?_
 rintro x w7 ⟨rfl,h7,t7⟩
 have hz6:=HT6.out.size
 have HJ:Hid (TR w0 w7 b N n 0 i1 i2 nm A5 A4.2 [] none 0):=⟨rfl,by rw[HA5.out,HI.out.2.2.2];rfl,h7,(t7.block (N+1) (by omega) (by omega)).trans HB6.out,World.ownsRow_nil _ _ _ _,HT6.out.trans t7 (fun g _ e=>.inl e)⟩
 clear q4 h7 t7 HT6 HB6 hz6
 go_wp2_with fail
 go_loopg [5,6] 255 (fun kx s5 s6 wr=> ∃(k:Nat) (p':Ds) (l:List Col) (vo:Option Addr) (vc:Nat),s5= .int .i64 k∧n - k≤kx∧k≤n∧Hid (TR w0 wr b N n k i1 i2 nm A5 p' l vo vc))
 case atStart=>exact⟨0,A4.2,[],none,0,rfl,by omega,by omega,HJ⟩
 case round=>
  rename World=>wr
  obtain⟨k,p',l,vo,vc,rfl,hkx,hkn,J⟩:=hrel
  have c1:wr.cell? ⟨b,1,none⟩=some (.bool p'.2):=blk_cell J.out.db 1
  obtain⟨bad,hbad⟩: ∃bad,bad=p'.2:=⟨_,rfl⟩
  rw[←hbad] at c1
  have Hbad:Hid (bad=p'.2):=hbad
  clear hbad
  obtain⟨d,hd⟩: ∃d:Bool,d=true ↔ k<n∧bad=false:=⟨decide (k<n∧bad=false),by simp⟩
  have hend:d=false→(n - k=0∨p'.2=true):=fun e=>by
   rw[←Hbad.out]
   cases bad with
   |true=>exact .inr rfl
   |false=>
    left
    have: ¬k<n:=fun h=>by rw[hd.2 ⟨h,rfl⟩] at e;cases e
    omega
  have HEnd:Hid (d=false→(n - k=0∨p'.2=true)):=hend
  go_upto_region 7 with(fail)
  go_cut [27] from 18 to 45 (fun s27 wc=>s27= .bool d∧wc=wr)
  case first=>
   clear hend HEnd
   by_cases hk1:k<n
   ·have hk1':(k:Int)<(n:Int):=by omega
    cases bad with
    |false=>
     have hdt:d=true:=hd.2 ⟨hk1,rfl⟩
     clear hd
     subst hdt
     go_wp2_with fail
     go_meet
     case rel=>exact⟨rfl,rfl⟩
    |true=>
     have hdt:d=false:=by cases d with
      |false=>rfl
      |true=>exact absurd (hd.1 rfl).2 (by simp)
     clear hd
     subst hdt
     go_wp2_with fail
     go_meet
     case rel=>exact⟨rfl,rfl⟩
   ·have hk1': ¬(k:Int)<(n:Int):=by omega
    have hdt:d=false:=by cases d with
     |false=>rfl
     |true=>exact absurd (hd.1 rfl).1 hk1
    clear hd
    subst hdt
    go_wp2_with fail
    go_meet
    case rel=>exact⟨rfl,rfl⟩
  case rest=>
   obtain⟨rfl,rfl⟩:=hcut
   rename World=>wr
   cases d with
   |true=>
    obtain⟨hk1,hb0⟩:=hd.1 rfl
    have hst:=dCols_go (l:=l) hk1 (Hbad.out.symm.trans hb0)
    rw[J.out.eq] at hst
    obtain⟨M,hM⟩: ∃M,M=wr.heap.size:=⟨_,rfl⟩
    obtain⟨v1,hv1⟩: ∃v1,v1=wr.alloc (.cells #[.string ⟨#[]⟩,.int .i64 0,.bool false] 43):=⟨_,rfl⟩
    have s1:Tch (fun _=>False) wr v1:=by rw[hv1];exact Tch.alloc _ _ _
    have d1:v1.heap[M]? =some (.cells #[.string ⟨#[]⟩,.int .i64 0,.bool false] 43 (0,0)):=by rw[hv1,hM];exact alloc_new _ _
    have hbM:b<M:=by rw[hM];exact blk_lt J.out.db
    have q5:=dtext_any b p' v1 (J.out.db.no s1)
    obtain⟨c,hc⟩: ∃c,c=(dCol p').1:=⟨_,rfl⟩
    obtain⟨p9,hp9⟩: ∃p9,p9=(dCol p').2:=⟨_,rfl⟩
    obtain⟨B1,hB1⟩: ∃B,B=dText p':=⟨_,rfl⟩
    obtain⟨B2,hB2⟩: ∃B,B=dByte B1.2:=⟨_,rfl⟩
    obtain⟨B3,hB3⟩: ∃B,B=dByte B2.2:=⟨_,rfl⟩
    have ec:c=⟨B1.1,B2.1,decide (B3.1=1)⟩:=by rw[hc,hB3,hB2,hB1];rfl
    have e9:p9=B3.2:=by rw[hp9,hB3,hB2,hB1];rfl
    rw[←hc, ←hp9] at hst
    have hcn:c.nm=B1.1:=by rw[ec]
    have hck:c.k=(B2.1:Int):=by rw[ec]
    have hcd:((B3.1:Int)==1)=c.nl:=by
     rw[ec]
     by_cases e:B3.1=1
     ·rw[e];rfl
     ·have e': ¬(B3.1:Int)=1:=by omega
      simp[e,e']
    rw[←hB1, ←hcn] at q5
    have HBs:Hid (B2=dByte B1.2∧B3=dByte B2.2):=⟨hB2,hB3⟩
    have HC:Hid (c.k=(B2.1:Int)∧p9=B3.2):=⟨hck,e9⟩
    have HST:Hid (dCols (n - (k+1)) p9 (l++[c])=A5):=hst.symm
    have HS1:Hid (Tch (fun g=>g=b∨M≤g) wr v1):=s1.mono (fun _ _ e=>e.elim)
    have HM:Hid (M=wr.heap.size):=hM
    have HV1:Hid (v1=_):=hv1
    have HD1:Hid _:=d1
    have hM1:M<v1.heap.size:=blk_lt d1
    clear hc hp9 hB1 hB2 hB3 ec e9 hcn hck hst hM hv1 s1 d1 hb0 hend HEnd c1 Hbad hd
    go_upto_region 10 with(fail)
    rw[←HV1.out, ←HM.out]
    go_wp2_with fail
    refine q5.mono ?_
    rintro x v2 ⟨rfl,h2,s2⟩
    have d2:=(s2.block M hM1 (by omega)).trans HD1.out
    have y0:v2.cell? ⟨M,0,none⟩=some (.string ⟨#[]⟩):=blk_cell d2 0
    have g0:=blk_frozen d2 0
    obtain⟨v3,hv3⟩: ∃v3,v3=v2.setCell ⟨M,0,none⟩ (.string c.nm):=⟨_,rfl⟩
    have s3:Tch (fun g=>g=M) v2 v3:=by rw[hv3];exact Tch.setCell (fun g=>g=M) v2 ⟨M,0,none⟩ _ rfl
    have d3:v3.heap[M]? =some (.cells #[.string c.nm,.int .i64 0,.bool false] 43 (0,0)):=by rw[hv3,blk_set d2];rfl
    have q6:=dbyte_any b B1.2 v3 (h2.tch s3 (by omega))
    rw[←HBs.out.1, ←HC.out.1] at q6
    have HS3:Hid (Tch (fun g=>g=b∨M≤g) wr v3):=(HS1.out.trans s2 (fun g _ e=>.inl e)).trans s3 (fun g _ e=>.inr (by omega))
    have HD3:Hid _:=d3
    have HV3:Hid (v3=_):=hv3
    have hM3:M<v3.heap.size:=blk_lt d3
    clear q5 h2 s2 d2 hv3 s3 d3 HS1 HD1 hM1 HV1
    go_upto_region 11 with(fail)
    rw[←HV3.out]
    clear y0 g0 HV3
    go_wp2_with fail
    refine q6.mono ?_
    rintro x v4 ⟨rfl,h4,s4⟩
    have d4:=(s4.block M hM3 (by omega)).trans HD3.out
    have y1:v4.cell? ⟨M,1,none⟩=some (.int .i64 0):=blk_cell d4 1
    have g1:=blk_frozen d4 1
    obtain⟨v5,hv5⟩: ∃v5,v5=v4.setCell ⟨M,1,none⟩ (.int .i64 c.k):=⟨_,rfl⟩
    have s5:Tch (fun g=>g=M) v4 v5:=by rw[hv5];exact Tch.setCell (fun g=>g=M) v4 ⟨M,1,none⟩ _ rfl
    have d5:v5.heap[M]? =some (.cells #[.string c.nm,.int .i64 c.k,.bool false] 43 (0,0)):=by rw[hv5,blk_set d4];rfl
    have q7:=dbyte_any b B2.2 v5 (h4.tch s5 (by omega))
    rw[←HBs.out.2, ←HC.out.2] at q7
    have HS5:Hid (Tch (fun g=>g=b∨M≤g) wr v5):=(HS3.out.trans s4 (fun g _ e=>.inl e)).trans s5 (fun g _ e=>.inr (by omega))
    have HD5:Hid _:=d5
    have HV5:Hid (v5=_):=hv5
    have hM5:M<v5.heap.size:=blk_lt d5
    clear q6 h4 s4 d4 hv5 s5 d5 HS3 HD3 hM3
    go_upto_region 12 with(fail)
    rw[←HV5.out]
    clear y1 g1 HV5
    go_wp2_with fail
    refine q7.mono ?_
    rintro x v6 ⟨rfl,h6,s6⟩
    have d6:=(s6.block M hM5 (by omega)).trans HD5.out
    have y2:v6.cell? ⟨M,2,none⟩=some (.bool false):=blk_cell d6 2
    have g2:=blk_frozen d6 2
    obtain⟨v7,hv7⟩: ∃v7,v7=v6.setCell ⟨M,2,none⟩ (.bool c.nl):=⟨_,rfl⟩
    have s7:Tch (fun g=>g=M) v6 v7:=by rw[hv7];exact Tch.setCell (fun g=>g=M) v6 ⟨M,2,none⟩ _ rfl
    have d7:v7.heap[M]? =some (.cells #[.string c.nm,.int .i64 c.k,.bool c.nl] 43 (0,0)):=by rw[hv7,blk_set d6];rfl
    have S7:Tch (fun g=>g=b∨M≤g) wr v7:=(HS5.out.trans s6 (fun g _ e=>.inl e)).trans s7 (fun g _ e=>.inr (by omega))
    rw[HM.out] at S7
    obtain⟨vo',vc',v8,hr8,c83,f83,J8⟩:=J.out.add hbN hz0 c (h6.tch s7 (by omega)) S7 HST.out (by omega)
    have hzN:N+2≤wr.heap.size:=by have:=J.out.t.size;omega
    have m3:v7.cell? ⟨N+1,3,none⟩=some (.slice vo k vc):=(S7.cell (p:=⟨N+1,3,none⟩) (by show N+1<_;omega) (by show¬(N+1=b∨wr.heap.size≤N+1);omega)).trans (blk_cell J.out.bx 3)
    have z0:v7.cell? ⟨M,0,none⟩=some (.string c.nm):=blk_cell d7 0
    have z1:v7.cell? ⟨M,1,none⟩=some (.int .i64 c.k):=blk_cell d7 1
    have z2:v7.cell? ⟨M,2,none⟩=some (.bool c.nl):=blk_cell d7 2
    obtain⟨v9,hv9⟩: ∃v9,v9=v8.setCell ⟨N+1,3,none⟩ (.slice vo' (k+1) vc'):=⟨_,rfl⟩
    rw[←hv9] at J8
    have HJ9:Hid (TR w0 v9 b N n (k+1) i1 i2 nm A5 p9 (l++[c]) vo' vc'):=J8
    have HV7:Hid (v7=_):=hv7
    have HV9:Hid (v9=_):=hv9
    clear q7 h6 s6 d6 hv7 s7 d7 S7 hv9 J8 HS5 HD5 hM5 J HST HBs HC
    go_upto_region 13 with(fail)
    rw[←HV7.out]
    clear y2 g2 HV7 hcd
    go_upto_region 8 with(at_builtin;refine wpList_app9 _ rfl _ _ 22 rfl rfl _ _ rfl rfl hr8 ?_)
    rw[←HV9.out]
    clear m3 z0 z1 z2 c83 f83 hr8
    go_wp2_with fail
    go_roundg (n - (k+1))
    case measure=>omega
    case rel=>exact⟨k+1,p9,l++[c],vo',vc',by first|rfl|(congr 1;omega),by omega,by omega,HJ9⟩
   |false=>
    have e5:A5=(l,p'):=by rw[←J.out.eq];exact dCols_stop (HEnd.out rfl)
    have q6:=dbyte_any b p' wr J.out.db
    have e6:dByte p'=A6:=by rw[HA.out.2.2.2,e5]
    rw[e6] at q6
    have HE5:Hid (A5=(l,p')):=e5
    clear hd hend HEnd e5 e6 c1 Hbad
    go_wp2_with fail
    refine q6.mono ?_
    rintro x w8 ⟨rfl,h8,t8⟩
    have hzr:=J.out.t.size
    have bx8:=(t8.block (N+1) (by omega) (by omega)).trans J.out.bx
    have hT8:Tch (fun g=>g=b∨N+1≤g) w0 w8:=J.out.t.trans t8 (fun g _ e=>.inl e)
    have hR8:=(hT8.block N (by omega) (by omega)).trans HBR.out
    have hO8:=own_tch J.out.own t8 (fun g hg e=>by have:=(J.out.own.lt g hg).1;omega)
    have m4:w8.cell? ⟨N+1,4,none⟩=some (.int .i64 0):=blk_cell bx8 4
    have f4:=blk_frozen bx8 4
    obtain⟨w9,hw9⟩: ∃w9,w9=w8.setCell ⟨N+1,4,none⟩ (.int .i64 A6.1):=⟨_,rfl⟩
    have t9:Tch (fun g=>g=N+1) w8 w9:=by rw[hw9];exact Tch.setCell (fun g=>g=N+1) w8 ⟨N+1,4,none⟩ _ rfl
    have bx9:w9.heap[N+1]? =some (.cells #[.int .i64 i1,.int .i64 i2,.string nm,.slice vo k vc,.int .i64 A6.1] 29 (0,0)):=by rw[hw9,blk_set bx8];rfl
    have hR9:=(t9.block N (by have:=t8.size;omega) (by omega)).trans hR8
    obtain⟨o0,o1,o2,o3,o4⟩:=blk5 bx9
    obtain⟨y0,y1,y2,y3,y4⟩:=blk5 hR9
    have g0:=blk_frozen hR9 0;have g1:=blk_frozen hR9 1;have g2:=blk_frozen hR9 2;have g3:=blk_frozen hR9 3;have g4:=blk_frozen hR9 4
    have HV:Hid (∀W,Tch (fun i=>i=N) w9 W→W.ownsRow N 43 3 (.slice vo k vc) l.length (ccl l)∧DB W b A6.2∧Tch (fun i=>i=b) w W):=fun W tW=>by
     refine⟨?_,(h8.tch t9 (by omega)).tch tW (by omega),?_⟩
     ·rw[J.out.len]
      exact own_low (own_tch (own_tch hO8 t9 (fun g hg h=>by have:=(hO8.lt g hg).1;omega)) tW (fun g hg h=>by have:=(hO8.lt g hg).1;omega)) (by omega)
     ·refine(((HT0.out.mono (fun _ _ h=>h.elim)).trans hT8 (fun i hi h=>?_)).trans t9 (fun i hi h=>?_)).trans tW (fun i hi h=>?_)
      ·rcases h with h|h
       ·exact h
       ·have:=HN.out;omega
      ·have:=HN.out;omega
      ·have:=HN.out;omega
    have HW9:Hid (w9=_):=hw9
    clear q6 bx8 hT8 hR8 hO8 t8 h8 J hzr hkx hkn hn hz0 hbN hw9 t9 bx9 hR9
    go_upto_region 15 with(fail)
    rw[←HW9.out]
    clear m4 f4 HW9
    obtain⟨B,hB⟩: ∃B,B=N+1:=⟨_,rfl⟩
    rw[←hB] at o0 o1 o2 o3 o4 ⊢
    have hne:B≠N:=by omega
    clear hB
    go_wp2_with fail
    rw[HE5.out]
    have hrs:Tryz.f57.results=#[.cell 2 29]:=by kernel_rfl
    refine bodyPost_ret (v:=tA i1 i2 nm (.slice vo k vc) A6.1) (by simp only[results,hrs];go_simp) rfl ⟨⟨.slice vo k vc,rfl,(HV.out _ ?_).1⟩,(HV.out _ ?_).2⟩
    all_goals exact((((Tch.setCell (fun i=>i=N) w9 ⟨N,0,none⟩ _ rfl).setCellR ⟨N,1,none⟩ _ rfl).setCellR ⟨N,2,none⟩ _ rfl).setCellR ⟨N,3,none⟩ _ rfl).setCellR ⟨N,4,none⟩ _ rfl
def fld (a:UInt8) (r:Rc) (p:Ds):Rc×Ds:=
 if a=120∨a=110 then({ r with x:=(dNum p).1 },(dNum p).2)
 else if a=112 then({ r with p:=(dNum p).1 },(dNum p).2)
 else if a=116∨a=117 then({ r with t:=(dNum p).1 },(dNum p).2)
 else if a=111 then({ r with o:=(dRow p).1 },(dRow p).2)
 else if a=119 then({ r with n:=(dRow p).1 },(dRow p).2)
 else if a=99 then({ r with nm:=(dText p).1,org:=(dNum (dText p).2).1 },(dNum (dText p).2).2)
 else if a=109 then({ r with nm:=(dText p).1 },(dText p).2)
 else if a=97 then({ r with tb:=(dTab p).1 },(dTab p).2)
 else({ r with tbs:=(dTabs (dByte p).1 (dByte p).2 []).1 },(dTabs (dByte p).1 (dByte p).2 []).2)
def dW:List UInt8→Rc→Ds→Rc×Ds
 |[],r,p=>(r,p)
 |a::l,r,p=>if p.2=true then(r,p) else dW l (fld a r p).1 (fld a r p).2
theorem dW_go {l:List UInt8} {i:Nat} {a:UInt8} {r:Rc} {p:Ds} (h:l[i]? =some a) (hp:p.2=false):dW (l.drop i) r p=dW (l.drop (i+1)) (fld a r p).1 (fld a r p).2:=by
 obtain⟨hi,e⟩:=List.getElem?_eq_some_iff.1 h
 rw[List.drop_eq_getElem_cons hi,e]
 conv=>lhs;unfold dW
 rw[if_neg (by rw[hp];simp)]
theorem dW_stop {l:List UInt8} {i:Nat} {r:Rc} {p:Ds} (h:l.length≤i∨p.2=true):dW (l.drop i) r p=(r,p):=by
 rcases h with h|h
 ·rw[List.drop_eq_nil_of_le h];rfl
 ·cases l.drop i with
  |nil=>rfl
  |cons a l=>unfold dW;rw[if_pos h]
theorem dByte_bad {p:Ds} (h:p.2=true):(dByte p).2.2=true:=by
 obtain⟨l,bad⟩:=p
 cases bad with
 |true=>cases l<;>rfl
 |false=>cases h
theorem dNum_bad {p:Ds} (h:p.2=true):(dNum p).2.2=true:=by unfold dNum;rw[dDg_bad h]
theorem dRaw_bad {n:Int} {p:Ds} (h:p.2=true):(dRaw n p).2.2=true:=by unfold dRaw;rw[if_pos (.inl h)]
theorem dText_bad {p:Ds} (h:p.2=true):(dText p).2.2=true:=dRaw_bad (dNum_bad h)
theorem dRow_bad {p:Ds} (h:p.2=true):(dRow p).2.2=true:=by
 unfold dRow
 split
 ·exact dText_bad h
 ·rfl
theorem dCols_bad: ∀(n:Nat) (p:Ds) (l:List Col),p.2=true→(dCols n p l).2.2=true
 |0,_,_,h=>h
 |n+1,p,l,h=>by unfold dCols;rw[if_pos h];exact h
theorem dTab_bad {p:Ds} (h:p.2=true):(dTab p).2.2=true:=dByte_bad (dCols_bad _ _ _ (dByte_bad (dText_bad (dNum_bad (dNum_bad h)))))
theorem dTabs_bad: ∀(n:Nat) (p:Ds) (l:List Tbl),p.2=true→(dTabs n p l).2.2=true
 |0,_,_,h=>h
 |n+1,p,l,h=>by unfold dTabs;rw[if_pos h];exact h
theorem nbad {p q:Ds} (h:p.2=true→q.2=true) (hq:q.2=false):p.2=false:=by
 cases e:p.2 with
 |false=>rfl
 |true=>rw[h e] at hq;cases hq
theorem dW_cons {a:UInt8} {l:List UInt8} {r:Rc} {p:Ds} (h:p.2=false):dW (a::l) r p=dW l (fld a r p).1 (fld a r p).2:=by
 conv=>lhs;unfold dW
 rw[if_neg (by rw[h];simp)]
theorem fx (r:Rc) (p:Ds):fld 120 r p=({ r with x:=(dNum p).1 },(dNum p).2):=rfl
theorem fn (r:Rc) (p:Ds):fld 110 r p=({ r with x:=(dNum p).1 },(dNum p).2):=rfl
theorem fp (r:Rc) (p:Ds):fld 112 r p=({ r with p:=(dNum p).1 },(dNum p).2):=rfl
theorem ft (r:Rc) (p:Ds):fld 116 r p=({ r with t:=(dNum p).1 },(dNum p).2):=rfl
theorem fu (r:Rc) (p:Ds):fld 117 r p=({ r with t:=(dNum p).1 },(dNum p).2):=rfl
theorem fo (r:Rc) (p:Ds):fld 111 r p=({ r with o:=(dRow p).1 },(dRow p).2):=rfl
theorem fw (r:Rc) (p:Ds):fld 119 r p=({ r with n:=(dRow p).1 },(dRow p).2):=rfl
theorem fc (r:Rc) (p:Ds):fld 99 r p=({ r with nm:=(dText p).1,org:=(dNum (dText p).2).1 },(dNum (dText p).2).2):=rfl
theorem fm (r:Rc) (p:Ds):fld 109 r p=({ r with nm:=(dText p).1 },(dText p).2):=rfl
theorem fa (r:Rc) (p:Ds):fld 97 r p=({ r with tb:=(dTab p).1 },(dTab p).2):=rfl
theorem fl (r:Rc) (p:Ds):fld 108 r p=({ r with tbs:=(dTabs (dByte p).1 (dByte p).2 []).1 },(dTabs (dByte p).1 (dByte p).2 []).2):=rfl
theorem dW_dC (k:Int) (c:Nat) (p:Ds) (h1:1≤c) (h2:c≤10) (hp:p.2=false) (h:(dC k c p).2.2=false):dW (bl (wordC c)) (rc0 k) p=dC k c p:=by
 have hc0:c=1∨c=2∨c=3∨c=4∨c=5∨c=6∨c=7∨c=8∨c=9∨c=10:=by omega
 rcases hc0 with rfl|rfl|rfl|rfl|rfl|rfl|rfl|rfl|rfl|rfl
 ·show dW [120] _ _=_
  rw[dW_cons hp]
  simp only[fx]
  rfl
 ·show dW [120,112] _ _=_
  rw[dW_cons hp]
  simp only[fx]
  rw[dW_cons (nbad (fun e=>dNum_bad e) h)]
  simp only[fp]
  rfl
 ·show dW [120,116,119] _ _=_
  have g2:(dNum (dNum p).2).2.2=false:=nbad (fun e=>dRow_bad e) h
  rw[dW_cons hp]
  simp only[fx]
  rw[dW_cons (nbad (fun e=>dNum_bad e) g2)]
  simp only[ft]
  rw[dW_cons g2]
  simp only[fw]
  rfl
 ·show dW [120,116,111,119] _ _=_
  have g3:(dRow (dNum (dNum p).2).2).2.2=false:=nbad (fun e=>dRow_bad e) h
  have g2:(dNum (dNum p).2).2.2=false:=nbad (fun e=>dRow_bad e) g3
  rw[dW_cons hp]
  simp only[fx]
  rw[dW_cons (nbad (fun e=>dNum_bad e) g2)]
  simp only[ft]
  rw[dW_cons g2]
  simp only[fo]
  rw[dW_cons g3]
  simp only[fw]
  rfl
 ·show dW [120,116,111] _ _=_
  have g2:(dNum (dNum p).2).2.2=false:=nbad (fun e=>dRow_bad e) h
  rw[dW_cons hp]
  simp only[fx]
  rw[dW_cons (nbad (fun e=>dNum_bad e) g2)]
  simp only[ft]
  rw[dW_cons g2]
  simp only[fo]
  rfl
 ·show dW [120,99] _ _=_
  have g2:(dText (dNum p).2).2.2=false:=nbad (fun e=>dNum_bad e) h
  rw[dW_cons hp]
  simp only[fx]
  rw[dW_cons (nbad (fun e=>dText_bad e) g2)]
  simp only[fc]
  rfl
 ·show dW [120,109] _ _=_
  rw[dW_cons hp]
  simp only[fx]
  rw[dW_cons (nbad (fun e=>dText_bad e) h)]
  simp only[fm]
  rfl
 ·show dW [120,97] _ _=_
  rw[dW_cons hp]
  simp only[fx]
  rw[dW_cons (nbad (fun e=>dTab_bad e) h)]
  simp only[fa]
  rfl
 ·show dW [120,116] _ _=_
  rw[dW_cons hp]
  simp only[fx]
  rw[dW_cons (nbad (fun e=>dNum_bad e) h)]
  simp only[ft]
  rfl
 ·show dW [110,117,108] _ _=_
  have g3:(dByte (dNum (dNum p).2).2).2.2=false:=nbad (fun e=>dTabs_bad _ _ _ e) h
  have g2:(dNum (dNum p).2).2.2=false:=nbad (fun e=>dByte_bad e) g3
  rw[dW_cons hp]
  simp only[fn]
  rw[dW_cons (nbad (fun e=>dNum_bad e) g2)]
  simp only[fu]
  rw[dW_cons g2]
  simp only[fl]
  rfl
abbrev rcl14 (r:Rc) (s:Sk):Array Value:=#[.int .i64 r.k,.int .i64 r.x,.int .i64 r.p,.int .i64 r.t,.slice s.oo r.o.length s.oc,.slice s.no r.n.length s.nc,.string r.nm,.int .i64 r.org,.int .i64 r.tb.id,.int .i64 r.tb.ver,.string r.tb.nm,.slice s.co r.tb.cols.length s.cc,.int .i64 r.tb.key,.slice s.to s.P.length s.tc]
abbrev Fd (w:World) (b M:Nat):Nat→Prop:=fun i=>i<w.heap.size∨i=b∨i=M
structure DS (w wr:World) (b M:Nat) (r:Rc) (s:Sk) (p:Ds):Prop where
 db:DB wr b p
 bx:wr.heap[M]? =some (.cells (rcl14 r s) 37 (0,0))
 rw:RW wr (Fd w b M) r s
 t:Tch (fun _=>False) w wr
 le:p.1.length≤281474976710656
 bb:w.heap.size≤b
 bm:w.heap.size≤M
 ne:b≠M
theorem DS.set {w wr w':World} {b M:Nat} {r r':Rc} {s s':Sk} {p p':Ds} (h:DS w wr b M r s p) (t':Tch (fun i=>i=b) wr w') (h':DB w' b p') (hl:p'.1.length≤p.1.length) (i:Nat) (v:Value) (hbx:(rcl14 r s).setIfInBounds i v=rcl14 r' s') (hrw:RW w' (Fd w b M) r s→RW w' (Fd w b M) r' s'):
  (∃y,w'.cell? ⟨M,i,none⟩=(rcl14 r s)[i]? ∧y=())∧w'.frozen? ⟨M,i,none⟩=false∧DS w (w'.setCell ⟨M,i,none⟩ v) b M r' s' p':=by
 have hM:=blk_lt h.bx
 have bx':w'.heap[M]? =some (.cells (rcl14 r s) 37 (0,0)):=(t'.block M hM (fun e=>h.ne e.symm)).trans h.bx
 have tS:Tch (fun g=>g=M) w' (w'.setCell ⟨M,i,none⟩ v):=Tch.setCell (fun g=>g=M) w' ⟨M,i,none⟩ _ rfl
 refine⟨⟨(),blk_cell bx' i,rfl⟩,blk_frozen bx' i,h'.tch tS h.ne,by rw[blk_set bx',hbx],?_,?_,by have:=h.le;omega,h.bb,h.bm,h.ne⟩
 ·exact(hrw (h.rw.tch t' (fun g _ e=>.inr (.inl e)))).tch tS (fun g _ e=>.inr (.inr e))
 ·exact(h.t.trans t' (fun g hg e=>by have e':g=b:=e;have:=h.bb;omega)).trans tS (fun g hg e=>by have e':g=M:=e;have:=h.bm;omega)
end Go.Proofs.YtaiadknglhemaaaGreatDoor.C
