import Derived.Test.YtaiadknglhemaaaGreatDoorDX9
import Derived.Test.YtaiadknglhemaaaGreatDoorDX5
import Derived.Test.YtaiadknglhemaaaGreatDoorLS1
set_option maxHeartbeats 8000000
set_option maxRecDepth 1000000
namespace Go.Proofs.YtaiadknglhemaaaGreatDoor.C
open Go.RowKit Go Go.Sort
theorem RW.weak {W:World} {F F':Nat→Prop} {r:Rc} {s:Sk} (h:RW W F r s) (hF: ∀g,F' g→F g):RW W F' r s:=
 ⟨h.o,h.n,⟨h.tb.eq,h.tb.sl,h.tb.no,h.tb.cap,fun hne g o e=>⟨fun hf=>(h.tb.nf hne g o e).1 (hF g hf),(h.tb.nf hne g o e).2⟩⟩,h.tbs.weak hF,h.eq,fun hne g o e hf=>h.onf hne g o e (hF g hf),fun hne g o e hf=>h.nnf hne g o e (hF g hf),h.oi,h.ni,h.ol,h.nl,h.cl,h.tl,h.pl⟩
theorem RW.rc0 (W:World) (F:Nat→Prop) (k:Int):RW W F (rc0 k) sk0:=
 ⟨SL.nil _ _,SL.nil _ _,⟨rfl,SL.nil _ _,fun _=>⟨rfl,rfl⟩,Nat.le_refl _,fun h=>absurd rfl h⟩,⟨SL.nil _ _,fun h=>absurd rfl h,fun i hi=>absurd hi (Nat.not_lt_zero _)⟩,rfl,fun h=>absurd rfl h,fun h=>absurd rfl h,fun v hv=>(by cases hv),fun v hv=>(by cases hv),Nat.zero_le _,Nat.zero_le _,Nat.zero_le _,Nat.zero_le _,fun i hi=>absurd hi (Nat.not_lt_zero _)⟩
theorem fld_ri (a:UInt8) (r:Rc) (p:Ds) (h:RI r) (hz:p.1.length≤140737488351232):RI (fld a r p).1∧(fld a r p).2.1.length≤p.1.length:=by
 have h1:=dNum_lt p
 have h2:=dNum_len p
 have h3:=dText_len p
 have h4:=dNum_len (dText p).2
 have h5:=(dRow_len p).2
 have h6:=(dTab_len p).1
 have h7: ∀(n:Nat) (q:Ds) (l:List Tbl),(dTabs n q l).2.1.length≤q.1.length:=fun n=>by
  induction n with
  |zero=>intro q l;exact Nat.le_refl _
  |succ n ih=>
   intro q l
   unfold dTabs
   split
   ·exact Nat.le_refl _
   ·exact Nat.le_trans (ih _ _) (dTab_len q).1
 have h8:=h7 (dByte p).1 (dByte p).2 []
 have h9:=dByte_len p
 unfold fld
 split
 ·exact⟨⟨by show _≤((dNum p).1:Int)∧((dNum p).1:Int)≤_;omega,h.p,h.t,h.nm⟩,h2⟩
 ·split
  ·exact⟨⟨h.x,by show _≤((dNum p).1:Int)∧((dNum p).1:Int)≤_;omega,h.t,h.nm⟩,h2⟩
  ·split
   ·exact⟨⟨h.x,h.p,by show _≤((dNum p).1:Int)∧((dNum p).1:Int)≤_;omega,h.nm⟩,h2⟩
   ·split
    ·exact⟨⟨h.x,h.p,h.t,h.nm⟩,h5⟩
    ·split
     ·exact⟨⟨h.x,h.p,h.t,h.nm⟩,h5⟩
     ·split
      ·exact⟨⟨h.x,h.p,h.t,by show(dText p).1.size≤_;omega⟩,by show(dNum (dText p).2).2.1.length≤_;omega⟩
      ·split
       ·exact⟨⟨h.x,h.p,h.t,by show(dText p).1.size≤_;omega⟩,h3.2⟩
       ·split
        ·exact⟨⟨h.x,h.p,h.t,h.nm⟩,h6⟩
        ·exact⟨⟨h.x,h.p,h.t,h.nm⟩,by show(dTabs (dByte p).1 (dByte p).2 []).2.1.length≤_;omega⟩
theorem dW_ri: ∀(l:List UInt8) (r:Rc) (p:Ds),RI r→p.1.length≤140737488351232→RI (dW l r p).1
 |[],r,p,h,_=>h
 |a::l,r,p,h,hz=>by
  unfold dW
  split
  ·exact h
  ·have:=fld_ri a r p h hz
   exact dW_ri l _ _ this.1 (by omega)
theorem rc0_ri (k:Int):RI (rc0 k):=⟨⟨by show(-9223372036854775808:Int)≤0;omega,by show(0:Int)≤9223372036854775807;omega⟩,⟨by show(-9223372036854775808:Int)≤0;omega,by show(0:Int)≤9223372036854775807;omega⟩,⟨by show(-9223372036854775808:Int)≤0;omega,by show(0:Int)≤9223372036854775807;omega⟩,Nat.zero_le _⟩
theorem wordC_ok (c:Nat):(bl (wordC c)).length≤10∧(∀a∈bl (wordC c),a=120∨a=110∨a=112∨a=116∨a=117∨a=111∨a=119∨a=99∨a=109∨a=97∨a=108)∧ ∀i:Nat,(bl (wordC c))[i]? =some 108→(bl (wordC c)).length≤i+1:=by
 have key: ∀l:List UInt8,l.length≤10→(∀a∈l,a=120∨a=110∨a=112∨a=116∨a=117∨a=111∨a=119∨a=99∨a=109∨a=97∨a=108)→(∀i,i<l.length→l[i]? =some 108→l.length≤i+1)→l.length≤10∧(∀a∈l,a=120∨a=110∨a=112∨a=116∨a=117∨a=111∨a=119∨a=99∨a=109∨a=97∨a=108)∧ ∀i:Nat,l[i]? =some 108→l.length≤i+1:=fun l h1 h2 h3=>⟨h1,h2,fun i hi=>h3 i (List.getElem?_eq_some_iff.1 hi).1 hi⟩
 unfold wordC
 split<;>exact key _ (by decide) (by decide) (by decide)
theorem Says.read {S:ByteArray} {r:Rc} (h:Says S r):dW (bl (wordC (cls ((dByte (bl S,false)).1:Int)))) (rc0 ((dByte (bl S,false)).1:Int)) (dByte (bl S,false)).2=(r,([],false)):=by
 have hk:=h.kr
 have e:bl S=UInt8.ofNat r.k.toNat::bodyL (cls r.k) r:=by rw[h.eq];exact bl_mk _
 have e2:dByte (bl S,false)=(r.k.toNat,(bodyL (cls r.k) r,false)):=by
  rw[e,dByte_r]
  have e3:(UInt8.ofNat r.k.toNat).toNat=r.k.toNat:=by rw[UInt8.toNat_ofNat'];omega
  rw[e3]
 rw[e2]
 have e4:((r.k.toNat:Nat):Int)=r.k:=by omega
 show dW (bl (wordC (cls ((r.k.toNat:Nat):Int)))) (rc0 ((r.k.toNat:Nat):Int)) (bodyL (cls r.k) r,false)=_
 rw[e4]
 have e5:=dC_r h.rr.1 h.rr.2.symm h.o h.n
 have hc:1≤cls r.k∧cls r.k≤10:=by
  rcases cls_rng r.k with h0|⟨_,_,h1,h2⟩
  ·have:=h.rr.1;rw[h0] at this;exact this.elim
  ·exact⟨h1,h2⟩
 rw[dW_dC r.k (cls r.k) _ hc.1 hc.2 rfl (by rw[e5])]
 exact e5
theorem encI_rr {r:Rc} (h:encI r=0):RR r:=by
 unfold encI at h
 by_cases hr:RR r
 ·exact hr
 ·rw[if_neg hr] at h
  unfold errR at h
  split at h<;>omega
theorem encI_rng (r:Rc):encI r=0∨encI r=60∨encI r=61:=by
 unfold encI
 by_cases hr:RR r
 ·rw[if_pos hr];exact .inl rfl
 ·rw[if_neg hr];unfold errR;split
  ·exact .inr (.inl rfl)
  ·exact .inr (.inr rfl)
def DyOut (S:ByteArray) (w:World) (x:Ending) (w':World):Prop:=(∃r s,Says S r∧x= .returned (.tuple #[rV r s,.int .i64 0])∧RW w' (fun i=>i<w.heap.size) r s∧Tch (fun _=>False) w w')∨((∀r, ¬Says S r)∧x= .returned (.tuple #[rV (rc0 0) sk0,.int .i64 62])∧Tch (fun _=>False) w w')
theorem ddecode_x (S:ByteArray) (w:World) (hsz:S.size≤140737488351232):Calls Tryz.prog 22 #[.string S] w fun x w'=>DyOut S w x w':=by
 obtain⟨N,hN⟩: ∃N,N=w.heap.size:=⟨_,rfl⟩
 obtain⟨b,hb⟩: ∃b,b=N+1:=⟨_,rfl⟩
 obtain⟨wa,hwa⟩: ∃wa,wa=w.alloc (.cells #[.int .i64 0,.int .i64 0,.int .i64 0,.int .i64 0,.slice none 0 0,.slice none 0 0,.string ⟨#[]⟩,.int .i64 0,.int .i64 0,.int .i64 0,.string ⟨#[]⟩,.slice none 0 0,.int .i64 0,.slice none 0 0] 37):=⟨_,rfl⟩
 obtain⟨w0,hw0⟩: ∃w0,w0=(w.alloc (.cells #[.int .i64 0,.int .i64 0,.int .i64 0,.int .i64 0,.slice none 0 0,.slice none 0 0,.string ⟨#[]⟩,.int .i64 0,.int .i64 0,.int .i64 0,.string ⟨#[]⟩,.slice none 0 0,.int .i64 0,.slice none 0 0] 37)).alloc (.cells #[.string S,.bool false] 100):=⟨_,rfl⟩
 have ta:Tch (fun _=>False) w wa:=by rw[hwa];exact Tch.alloc _ _ _
 have hza:wa.heap.size=N+1:=by rw[hwa,hN,World.size_alloc]
 have t0:Tch (fun _=>False) wa w0:=by rw[hw0,hwa];exact Tch.alloc _ _ _
 have bR:wa.heap[N]? =some (.cells #[.int .i64 0,.int .i64 0,.int .i64 0,.int .i64 0,.slice none 0 0,.slice none 0 0,.string ⟨#[]⟩,.int .i64 0,.int .i64 0,.int .i64 0,.string ⟨#[]⟩,.slice none 0 0,.int .i64 0,.slice none 0 0] 37 (0,0)):=by rw[hwa,hN];exact alloc_new _ _
 have d0:DB w0 b (bl S,false):=by
  show w0.heap[b]? =some (.cells #[.string (bB (bl S)),.bool false] _ (0,0))
  rw[←bB_of (rfl:bl S=bl S),hb, ←hza,hw0, ←hwa]
  exact alloc_new _ _
 have q1:=dbyte_any b (bl S,false) w0 d0
 have hbl:(bl S).length=S.size:=bl_size S
 have hlen:=dByte_len (bl S,false)
 have hsays:=fun r=>Says.read (S:=S) (r:=r)
 obtain⟨k,hk⟩: ∃k:Int,k=((dByte (bl S,false)).1:Int):=⟨_,rfl⟩
 obtain⟨p1,hp1⟩: ∃p1,p1=(dByte (bl S,false)).2:=⟨_,rfl⟩
 rw[←hk, ←hp1] at q1
 rw[←hp1] at hlen
 obtain⟨WW,hWW⟩: ∃WW,WW=wordC (cls k):=⟨_,rfl⟩
 obtain⟨A,hA⟩: ∃A,A=dW (bl WW) (rc0 k) p1:=⟨_,rfl⟩
 have HSay:Hid (∀r,Says S r→A=(r,([],false))):=fun r hr=>by
  have:=hsays r hr
  rw[←hk, ←hp1, ←hWW, ←hA] at this
  exact this
 have HRI:Hid (RI A.1):=by rw[hA];exact dW_ri _ _ _ (rc0_ri k) (by show p1.1.length≤_;simp only at hlen;omega)
 obtain⟨hL1,hL2,hL3⟩:=wordC_ok (cls k)
 rw[←hWW] at hL1 hL2 hL3
 have q2: ∀W,Calls Tryz.prog 44 #[.int .i64 k] W fun x w'=>x= .returned (.string WW)∧w'=W:=fun W=>by rw[hWW];exact rfields_any k W
 have HQ2:Hid _:=q2
 have HA:Hid (A=dW (bl WW) (rc0 k) p1):=hA
 have HTa:Hid (Tch (fun _=>False) w wa∧Tch (fun _=>False) wa w0):=⟨ta,t0⟩
 have HBR:Hid _:=bR
 have HW0:Hid (w0=_):=hw0
 have HN:Hid (N=w.heap.size):=hN
 have Hb:Hid (b=N+1):=hb
 have Hza:Hid (wa.heap.size=N+1):=hza
 have Hlen:Hid (p1.1.length≤281474976710656):=by show _≤_;simp only at hlen;omega
 have hrs:Tryz.f22.results=#[.cell 2 37,.tmp 3]:=by kernel_rfl
 clear hN hb hwa hw0 ta hza t0 bR d0 hbl hlen hsays hk hp1 hWW hA q2 hsz
 go_enter Tryz.func22,Tryz.ntmps22
 go_upto_region 2 with(fail)
 rw[←HW0.out, ←HN.out, ←Hb.out]
 go_wp2_with fail
 refine q1.mono ?_
 rintro x w1 ⟨rfl,h1,t1⟩
 obtain⟨M,hM⟩: ∃M,M=w1.heap.size:=⟨_,rfl⟩
 obtain⟨w2,hw2⟩: ∃w2,w2=w1.alloc (.cells #[.int .i64 k,.int .i64 0,.int .i64 0,.int .i64 0,.slice none 0 0,.slice none 0 0,.string ⟨#[]⟩,.int .i64 0,.int .i64 0,.int .i64 0,.string ⟨#[]⟩,.slice none 0 0,.int .i64 0,.slice none 0 0] 37):=⟨_,rfl⟩
 have t2:Tch (fun _=>False) w1 w2:=by rw[hw2];exact Tch.alloc _ _ _
 have b2:w2.heap[M]? =some (.cells #[.int .i64 k,.int .i64 0,.int .i64 0,.int .i64 0,.slice none 0 0,.slice none 0 0,.string ⟨#[]⟩,.int .i64 0,.int .i64 0,.int .i64 0,.string ⟨#[]⟩,.slice none 0 0,.int .i64 0,.slice none 0 0] 37 (0,0)):=by rw[hw2,hM];exact alloc_new _ _
 have m0:w2.cell? ⟨M,0,none⟩=some (.int .i64 k):=blk_cell b2 0
 have hbM:b<M:=by rw[hM];exact blk_lt h1
 have HD2:Hid (DS wa w2 b M (rc0 k) sk0 p1):=⟨h1.no t2,b2,RW.rc0 _ _ _,(HTa.out.2.trans t1 (fun g hg e=>by have e':g=b:=e;have:=Hza.out;have:=Hb.out;omega)).trans' t2,Hlen.out,by have:=Hza.out;have:=Hb.out;omega,by have:=Hza.out;have:=Hb.out;omega,by omega⟩
 have HJ:Hid (dW ((bl WW).drop 0) (rc0 k) p1=A∧DS wa w2 b M (rc0 k) sk0 p1∧(108∈(bl WW).drop 0→sk0.P=[]∧sk0.to=none∧sk0.tc=0)):=⟨by rw[List.drop_zero];exact HA.out.symm,HD2.out,fun _=>⟨rfl,rfl,rfl⟩⟩
 have HW2:Hid (w2=_):=hw2
 have HM:Hid (M=w1.heap.size):=hM
 clear q1 h1 t1 hM hw2 t2 b2
 go_upto_region 3 with(fail)
 rw[←HW2.out, ←HM.out]
 go_wp2_with fail
 refine(HQ2.out w2).mono ?_
 rintro x w3 ⟨rfl,hw3⟩
 subst hw3
 clear m0 HQ2 HM
 go_wp2_with fail
 refine ddec1 wa w3 b M WW (bl WW) A (rc0 k) sk0 p1 (by exact(rfl:bl WW=bl WW)) hL1 hL2 hL3 HJ _ _ _ _ _ _ _ _ _ _ _ _ _ _ _ _ _ _ _ _ _ _ _ _ _ _ _ _ _ _ _ _ _ _ _ _ _ _ _ _ _ _ _ _ _ _ _ _ _ _ _ _ _ _ _ _ _ _ _ _ _ _ _ _ _ _ _ _ _ _ _ _ _ _ _ _ _ _ _ _ _ _ _ _ _ _ _ _ _ _ _ _ _ _ _ _ _ _ _ _ _ _ _ _ _ _ _ _ _ _ _ _ _ _ _ _ _ _ _ _ _ ?_
 rintro v7 v8 v9 ai aj al am aq au av aw ax ay az aA aB aC aD aF aG aH aI aJ aK aL aM aN aO aP aQ aR aS aT aU aV aW aX aY aZ ba be bf bg bh bi bj bp bq br bu bv bw bz bC bD bE bF bG bH bI bJ bK bL bM bN bO bP bQ bS bT bU bW bX bY bZ cd ce cf cg ch ci ck aa ab ae af ah w5 HF
 obtain⟨r,s,p,hA,D⟩:=HF.out
 have HR:Hid (RI r):=by have:=HRI.out;rw[hA] at this;exact this
 have HSy:Hid (∀r',Says S r'→r=r'∧p.2=false):=fun r' hr=>by
  have:=HSay.out r' hr
  rw[hA] at this
  have e1:=congrArg Prod.fst this
  have e2:=congrArg Prod.snd this
  simp only at e1 e2
  exact⟨e1,by rw[e2]⟩
 have c1:w5.cell? ⟨b,1,none⟩=some (.bool p.2):=blk_cell D.db 1
 have HD:Hid (DS wa w5 b M r s p):=D
 have HFw:Hid (∀W W',Tch (fun _=>False) w5 W→Tch (fun i=>i=N) W W'→RW W' (fun i=>i<w.heap.size) r s∧Tch (fun _=>False) w W'):=fun W W' h1 h2=>by
  have e1:=Hza.out
  have e2:=HN.out
  refine⟨((D.rw.tch h1 (fun _ _ e=>e.elim)).tch h2 (fun g _ e=>.inl (by have e':g=N:=e;omega))).weak (fun g hg=>.inl (by omega)),((HTa.out.1.trans' D.t).trans' h1).trans h2 (fun g hg e=>by have e':g=N:=e;omega)⟩
 have hR5:=(D.t.block N (by have:=Hza.out;omega) (fun e=>e)).trans HBR.out
 have HR5:Hid _:=hR5
 clear HF HJ HD2 HSay HRI HA HTa HBR HW0 HW2 Hza Hlen hA D hR5 hL1 hL2 hL3
 obtain⟨bad,hbad⟩: ∃bad,bad=p.2:=⟨_,rfl⟩
 rw[←hbad] at c1
 have Hbad:Hid (bad=p.2):=hbad
 clear hbad
 cases bad with
 |true=>
  have HNo:Hid (∀r, ¬Says S r):=fun r' hr=>by have:=(HSy.out r' hr).2;rw[←Hbad.out] at this;cases this
  have HFN:Hid (∀W',Tch (fun i=>i=N) w5 W'→Tch (fun _=>False) w W'):=fun W' h=>(HFw.out w5 W' (Tch.refl _ _) h).2
  have nR:=HR5.out
  have z0:=blk_cell nR 0
  have z1:=blk_cell nR 1
  have z2:=blk_cell nR 2
  have z3:=blk_cell nR 3
  have z4:=blk_cell nR 4
  have z5:=blk_cell nR 5
  have z6:=blk_cell nR 6
  have z7:=blk_cell nR 7
  have z8:=blk_cell nR 8
  have z9:=blk_cell nR 9
  have z10:=blk_cell nR 10
  have z11:=blk_cell nR 11
  have z12:=blk_cell nR 12
  have z13:=blk_cell nR 13
  simp only[List.getElem?_toArray,List.getElem?_cons_succ,List.getElem?_cons_zero] at z0 z1 z2 z3 z4 z5 z6 z7 z8 z9 z10 z11 z12 z13
  have f0:=blk_frozen nR 0
  have f1:=blk_frozen nR 1
  have f2:=blk_frozen nR 2
  have f3:=blk_frozen nR 3
  have f4:=blk_frozen nR 4
  have f5:=blk_frozen nR 5
  have f6:=blk_frozen nR 6
  have f7:=blk_frozen nR 7
  have f8:=blk_frozen nR 8
  have f9:=blk_frozen nR 9
  have f10:=blk_frozen nR 10
  have f11:=blk_frozen nR 11
  have f12:=blk_frozen nR 12
  have f13:=blk_frozen nR 13
  clear nR HR5 HFw HD HSy Hbad HR
  go_wp2_with fail
  refine bodyPost_ret (v:= .tuple #[rV (rc0 0) sk0,.int .i64 62]) (by simp only[results,hrs];go_simp;exact⟨rfl,rfl,rfl,rfl,⟨rfl,rfl,rfl⟩,⟨rfl,rfl,rfl⟩,rfl,rfl,rfl,rfl,rfl,⟨rfl,rfl,rfl⟩,rfl,rfl,rfl,rfl⟩) rfl ?_
  exact .inr ⟨HNo.out,rfl,HFN.out _ (show Tch (fun i=>i=N) w5 _ from(((((((((((((Tch.setCell (fun i=>i=N) w5 ⟨N,0,none⟩ _ rfl).setCellR ⟨N,1,none⟩ _ rfl).setCellR ⟨N,2,none⟩ _ rfl).setCellR ⟨N,3,none⟩ _ rfl).setCellR ⟨N,4,none⟩ _ rfl).setCellR ⟨N,5,none⟩ _ rfl).setCellR ⟨N,6,none⟩ _ rfl).setCellR ⟨N,7,none⟩ _ rfl).setCellR ⟨N,8,none⟩ _ rfl).setCellR ⟨N,9,none⟩ _ rfl).setCellR ⟨N,10,none⟩ _ rfl).setCellR ⟨N,11,none⟩ _ rfl).setCellR ⟨N,12,none⟩ _ rfl).setCellR ⟨N,13,none⟩ _ rfl)⟩
 |false=>
  have q4:=renc_all r s (Fd wa b M) w5 HR.out HD.out.rw
  obtain⟨ES,hES⟩: ∃ES,ES=encS r:=⟨_,rfl⟩
  obtain⟨EI,hEI⟩: ∃EI,EI=encI r:=⟨_,rfl⟩
  rw[←hES, ←hEI] at q4
  have HC:Hid ((EI=0∧ES=S∧Says S r)∨((∀r, ¬Says S r)∧((EI=0∧(ES.toList==S.toList)=false)∨EI=60∨EI=61))):=by
   have mk:EI=0→ES=S→Says S r:=fun e1 e2=>⟨encI_rr (by rw[←hEI];exact e1),by rw[←e2,hES];unfold encS;rw[if_pos (encI_rr (by rw[←hEI];exact e1))];rfl,HD.out.rw.oi,HD.out.rw.ni⟩
   have no: ¬(EI=0∧ES=S)→ ∀r', ¬Says S r':=fun hne r' hr=>by
    have e:=(HSy.out r' hr).1
    subst e
    refine hne ⟨?_,?_⟩
    ·rw[hEI];unfold encI;rw[if_pos hr.rr]
    ·rw[hES];unfold encS;rw[if_pos hr.rr];exact hr.eq.symm
   by_cases e1:EI=0
   ·by_cases e2:ES=S
    ·exact .inl ⟨e1,e2,mk e1 e2⟩
    ·exact .inr ⟨no (fun h=>e2 h.2),.inl ⟨e1,bs_ne e2⟩⟩
   ·refine .inr ⟨no (fun h=>e1 h.1),.inr ?_⟩
    rcases encI_rng r with e|e|e
    ·exact absurd (by rw[hEI];exact e) e1
    ·exact .inl (by rw[hEI];exact e)
    ·exact .inr (by rw[hEI];exact e)
  have nM:=HD.out.bx
  have y0:=blk_cell nM 0
  have y1:=blk_cell nM 1
  have y2:=blk_cell nM 2
  have y3:=blk_cell nM 3
  have y4:=blk_cell nM 4
  have y5:=blk_cell nM 5
  have y6:=blk_cell nM 6
  have y7:=blk_cell nM 7
  have y8:=blk_cell nM 8
  have y9:=blk_cell nM 9
  have y10:=blk_cell nM 10
  have y11:=blk_cell nM 11
  have y12:=blk_cell nM 12
  have y13:=blk_cell nM 13
  simp only[List.getElem?_toArray,List.getElem?_cons_succ,List.getElem?_cons_zero] at y0 y1 y2 y3 y4 y5 y6 y7 y8 y9 y10 y11 y12 y13
  clear nM hES hEI HSy Hbad HR
  go_wp2_with fail
  refine q4.mono ?_
  rintro x w6 ⟨rfl,t6⟩
  have nM:=(t6.block M (blk_lt HD.out.bx) (fun e=>e)).trans HD.out.bx
  have nR:=(t6.block N (blk_lt HR5.out) (fun e=>e)).trans HR5.out
  have HF6:Hid (∀W',Tch (fun i=>i=N) w6 W'→RW W' (fun i=>i<w.heap.size) r s∧Tch (fun _=>False) w W'):=fun W' h=>HFw.out w6 W' t6 h
  clear q4 t6 HFw HR5 HD c1 y0 y1 y2 y3 y4 y5 y6 y7 y8 y9 y10 y11 y12 y13
  have z0:=blk_cell nR 0
  have z1:=blk_cell nR 1
  have z2:=blk_cell nR 2
  have z3:=blk_cell nR 3
  have z4:=blk_cell nR 4
  have z5:=blk_cell nR 5
  have z6:=blk_cell nR 6
  have z7:=blk_cell nR 7
  have z8:=blk_cell nR 8
  have z9:=blk_cell nR 9
  have z10:=blk_cell nR 10
  have z11:=blk_cell nR 11
  have z12:=blk_cell nR 12
  have z13:=blk_cell nR 13
  simp only[List.getElem?_toArray,List.getElem?_cons_succ,List.getElem?_cons_zero] at z0 z1 z2 z3 z4 z5 z6 z7 z8 z9 z10 z11 z12 z13
  have f0:=blk_frozen nR 0
  have f1:=blk_frozen nR 1
  have f2:=blk_frozen nR 2
  have f3:=blk_frozen nR 3
  have f4:=blk_frozen nR 4
  have f5:=blk_frozen nR 5
  have f6:=blk_frozen nR 6
  have f7:=blk_frozen nR 7
  have f8:=blk_frozen nR 8
  have f9:=blk_frozen nR 9
  have f10:=blk_frozen nR 10
  have f11:=blk_frozen nR 11
  have f12:=blk_frozen nR 12
  have f13:=blk_frozen nR 13
  have y0:=blk_cell nM 0
  have y1:=blk_cell nM 1
  have y2:=blk_cell nM 2
  have y3:=blk_cell nM 3
  have y4:=blk_cell nM 4
  have y5:=blk_cell nM 5
  have y6:=blk_cell nM 6
  have y7:=blk_cell nM 7
  have y8:=blk_cell nM 8
  have y9:=blk_cell nM 9
  have y10:=blk_cell nM 10
  have y11:=blk_cell nM 11
  have y12:=blk_cell nM 12
  have y13:=blk_cell nM 13
  simp only[List.getElem?_toArray,List.getElem?_cons_succ,List.getElem?_cons_zero] at y0 y1 y2 y3 y4 y5 y6 y7 y8 y9 y10 y11 y12 y13
  clear nM nR
  rcases HC.out with⟨e1,e2,hsy⟩|⟨hno,e⟩
  ·have ess:(S.toList==S.toList)=true:=by simp
   have HSY:Hid (Says S r):=hsy
   subst e1
   subst e2
   clear HC hsy
   go_wp2_with fail
   refine bodyPost_ret (v:= .tuple #[rV r s,.int .i64 0]) (by simp only[results,hrs];go_simp) rfl ?_
   obtain⟨k1,k2⟩:=HF6.out _ (show Tch (fun i=>i=N) w6 _ from(((((((((((((Tch.setCell (fun i=>i=N) w6 ⟨N,0,none⟩ _ rfl).setCellR ⟨N,1,none⟩ _ rfl).setCellR ⟨N,2,none⟩ _ rfl).setCellR ⟨N,3,none⟩ _ rfl).setCellR ⟨N,4,none⟩ _ rfl).setCellR ⟨N,5,none⟩ _ rfl).setCellR ⟨N,6,none⟩ _ rfl).setCellR ⟨N,7,none⟩ _ rfl).setCellR ⟨N,8,none⟩ _ rfl).setCellR ⟨N,9,none⟩ _ rfl).setCellR ⟨N,10,none⟩ _ rfl).setCellR ⟨N,11,none⟩ _ rfl).setCellR ⟨N,12,none⟩ _ rfl).setCellR ⟨N,13,none⟩ _ rfl)
   exact .inl ⟨r,s,HSY.out,rfl,k1,k2⟩
  ·have HNo:Hid (∀r, ¬Says S r):=hno
   have HFN:Hid (∀W',Tch (fun i=>i=N) w6 W'→Tch (fun _=>False) w W'):=fun W' h=>(HF6.out W' h).2
   clear hno HC HF6
   rcases e with⟨e,e2⟩|e|e
   ·subst e
    go_wp2_with fail
    refine bodyPost_ret (v:= .tuple #[rV (rc0 0) sk0,.int .i64 62]) (by simp only[results,hrs];go_simp;exact⟨rfl,rfl,rfl,rfl,⟨rfl,rfl,rfl⟩,⟨rfl,rfl,rfl⟩,rfl,rfl,rfl,rfl,rfl,⟨rfl,rfl,rfl⟩,rfl,rfl,rfl,rfl⟩) rfl ?_
    exact .inr ⟨HNo.out,rfl,HFN.out _ (show Tch (fun i=>i=N) w6 _ from(((((((((((((Tch.setCell (fun i=>i=N) w6 ⟨N,0,none⟩ _ rfl).setCellR ⟨N,1,none⟩ _ rfl).setCellR ⟨N,2,none⟩ _ rfl).setCellR ⟨N,3,none⟩ _ rfl).setCellR ⟨N,4,none⟩ _ rfl).setCellR ⟨N,5,none⟩ _ rfl).setCellR ⟨N,6,none⟩ _ rfl).setCellR ⟨N,7,none⟩ _ rfl).setCellR ⟨N,8,none⟩ _ rfl).setCellR ⟨N,9,none⟩ _ rfl).setCellR ⟨N,10,none⟩ _ rfl).setCellR ⟨N,11,none⟩ _ rfl).setCellR ⟨N,12,none⟩ _ rfl).setCellR ⟨N,13,none⟩ _ rfl)⟩
   ·subst e
    go_wp2_with fail
    refine bodyPost_ret (v:= .tuple #[rV (rc0 0) sk0,.int .i64 62]) (by simp only[results,hrs];go_simp;exact⟨rfl,rfl,rfl,rfl,⟨rfl,rfl,rfl⟩,⟨rfl,rfl,rfl⟩,rfl,rfl,rfl,rfl,rfl,⟨rfl,rfl,rfl⟩,rfl,rfl,rfl,rfl⟩) rfl ?_
    exact .inr ⟨HNo.out,rfl,HFN.out _ (show Tch (fun i=>i=N) w6 _ from(((((((((((((Tch.setCell (fun i=>i=N) w6 ⟨N,0,none⟩ _ rfl).setCellR ⟨N,1,none⟩ _ rfl).setCellR ⟨N,2,none⟩ _ rfl).setCellR ⟨N,3,none⟩ _ rfl).setCellR ⟨N,4,none⟩ _ rfl).setCellR ⟨N,5,none⟩ _ rfl).setCellR ⟨N,6,none⟩ _ rfl).setCellR ⟨N,7,none⟩ _ rfl).setCellR ⟨N,8,none⟩ _ rfl).setCellR ⟨N,9,none⟩ _ rfl).setCellR ⟨N,10,none⟩ _ rfl).setCellR ⟨N,11,none⟩ _ rfl).setCellR ⟨N,12,none⟩ _ rfl).setCellR ⟨N,13,none⟩ _ rfl)⟩
   ·subst e
    go_wp2_with fail
    refine bodyPost_ret (v:= .tuple #[rV (rc0 0) sk0,.int .i64 62]) (by simp only[results,hrs];go_simp;exact⟨rfl,rfl,rfl,rfl,⟨rfl,rfl,rfl⟩,⟨rfl,rfl,rfl⟩,rfl,rfl,rfl,rfl,rfl,⟨rfl,rfl,rfl⟩,rfl,rfl,rfl,rfl⟩) rfl ?_
    exact .inr ⟨HNo.out,rfl,HFN.out _ (show Tch (fun i=>i=N) w6 _ from(((((((((((((Tch.setCell (fun i=>i=N) w6 ⟨N,0,none⟩ _ rfl).setCellR ⟨N,1,none⟩ _ rfl).setCellR ⟨N,2,none⟩ _ rfl).setCellR ⟨N,3,none⟩ _ rfl).setCellR ⟨N,4,none⟩ _ rfl).setCellR ⟨N,5,none⟩ _ rfl).setCellR ⟨N,6,none⟩ _ rfl).setCellR ⟨N,7,none⟩ _ rfl).setCellR ⟨N,8,none⟩ _ rfl).setCellR ⟨N,9,none⟩ _ rfl).setCellR ⟨N,10,none⟩ _ rfl).setCellR ⟨N,11,none⟩ _ rfl).setCellR ⟨N,12,none⟩ _ rfl).setCellR ⟨N,13,none⟩ _ rfl)⟩
def Rd (S:ByteArray) (r:Rc) (e:Int):Prop:=(Says S r∧e=0)∨((∀r, ¬Says S r)∧r=rc0 0∧e=62)
theorem Rd.uniq {S:ByteArray} {r r':Rc} {e e':Int} (h:Rd S r e) (h':Rd S r' e'):r=r'∧e=e':=by
 rcases h with⟨h,rfl⟩|⟨h,rfl,rfl⟩<;>rcases h' with⟨h',rfl⟩|⟨h',rfl,rfl⟩
 ·exact⟨h.uniq h',rfl⟩
 ·exact absurd h (h' _)
 ·exact absurd h' (h _)
 ·exact⟨rfl,rfl⟩
structure Z6 (r:Rc):Prop where
 o:r.o.length≤8
 n:r.n.length≤8
 c:r.tb.cols.length≤8
 t:r.tbs.length≤16
 p: ∀t∈r.tbs,t.cols.length≤8
theorem rtRow_len {vs:List Val} (h:rtRow vs):vs.length≤8:=by
 have h2:=h.2
 unfold encR at h2
 split at h2
 ·cases h2
 ·omega
theorem rc0_z (k:Int):Z6 (rc0 k):=⟨Nat.zero_le 8,Nat.zero_le 8,Nat.zero_le 8,Nat.zero_le 16,fun _ ht=>absurd ht List.not_mem_nil⟩
theorem rr_z: ∀(c:Nat) (r:Rc),rightC c r→Z6 (cutC c r)
 |0,r,h=>h.elim
 |1,r,_=>⟨Nat.zero_le 8,Nat.zero_le 8,Nat.zero_le 8,Nat.zero_le 16,fun _ ht=>absurd ht List.not_mem_nil⟩
 |2,r,_=>⟨Nat.zero_le 8,Nat.zero_le 8,Nat.zero_le 8,Nat.zero_le 16,fun _ ht=>absurd ht List.not_mem_nil⟩
 |3,r,h=>⟨Nat.zero_le 8,rtRow_len h.2.2,Nat.zero_le 8,Nat.zero_le 16,fun _ ht=>absurd ht List.not_mem_nil⟩
 |4,r,h=>⟨rtRow_len h.2.2.1,rtRow_len h.2.2.2,Nat.zero_le 8,Nat.zero_le 16,fun _ ht=>absurd ht List.not_mem_nil⟩
 |5,r,h=>⟨rtRow_len h.2.2,Nat.zero_le 8,Nat.zero_le 8,Nat.zero_le 16,fun _ ht=>absurd ht List.not_mem_nil⟩
 |6,r,_=>⟨Nat.zero_le 8,Nat.zero_le 8,Nat.zero_le 8,Nat.zero_le 16,fun _ ht=>absurd ht List.not_mem_nil⟩
 |7,r,_=>⟨Nat.zero_le 8,Nat.zero_le 8,Nat.zero_le 8,Nat.zero_le 16,fun _ ht=>absurd ht List.not_mem_nil⟩
 |8,r,h=>⟨Nat.zero_le 8,Nat.zero_le 8,(right_len h.2).2,Nat.zero_le 16,fun _ ht=>absurd ht List.not_mem_nil⟩
 |9,r,_=>⟨Nat.zero_le 8,Nat.zero_le 8,Nat.zero_le 8,Nat.zero_le 16,fun _ ht=>absurd ht List.not_mem_nil⟩
 |10,r,h=>⟨Nat.zero_le 8,Nat.zero_le 8,Nat.zero_le 8,h.2.2.len,fun t ht=>by
   obtain⟨i,hi,rfl⟩:=List.getElem_of_mem (show t∈r.tbs from ht)
   exact(right_len (h.2.2.right i hi)).2⟩
 |_+11,r,h=>h.elim
theorem Rd.z {S:ByteArray} {r:Rc} {e:Int} (h:Rd S r e):Z6 r:=by
 rcases h with⟨h,_⟩|⟨_,rfl,_⟩
 ·rw[h.rr.2];exact rr_z _ r h.rr.1
 ·exact rc0_z 0
theorem Rd.i {S:ByteArray} {r:Rc} {e:Int} (h:Rd S r e):(∀v∈r.o,v.i64)∧ ∀v∈r.n,v.i64:=by
 rcases h with⟨h,_⟩|⟨_,rfl,_⟩
 ·exact⟨h.o,h.n⟩
 ·exact⟨fun _ ht=>absurd ht List.not_mem_nil,fun _ ht=>absurd ht List.not_mem_nil⟩
theorem decode_r (S:ByteArray) (w:World) (hsz:S.size≤281474976710656) (hg:HE w):Calls Tryz.prog 14 #[.string S] w fun x w'=> ∃r s e,x= .returned (.tuple #[rV r s,.int .i64 e])∧Rd S r e∧RN w' w.heap.size r s∧(s.co=none∨s.P=[])∧Tch (fun _=>False) w w':=by
 refine(decode_x S w hsz hg).mono ?_
 rintro x w' (⟨r,hr,s,rfl,hn,t,hc⟩|⟨hr,rfl,t⟩)
 ·exact⟨r,s,0,rfl,Or.inl ⟨hr,rfl⟩,hn,hc,t⟩
 ·exact⟨rc0 0,sk0,62,rfl,Or.inr ⟨hr,rfl,rfl⟩,⟨World.ownsRow_nil _ _ _ _,World.ownsRow_nil _ _ _ _,World.ownsRow_nil _ _ _ _,to_nil _ _,rfl,fun g e=>by cases e⟩,Or.inl rfl,t⟩
theorem ddecode_r (S:ByteArray) (w:World) (hsz:S.size≤140737488351232):Calls Tryz.prog 22 #[.string S] w fun x w'=> ∃r s e,x= .returned (.tuple #[rV r s,.int .i64 e])∧Rd S r e∧RW w' (fun _=>False) r s∧Tch (fun _=>False) w w':=by
 refine(ddecode_x S w hsz).mono ?_
 rintro x w' (⟨r,s,hr,rfl,hn,t⟩|⟨hr,rfl,t⟩)
 ·exact⟨r,s,0,rfl,Or.inl ⟨hr,rfl⟩,hn.weak (fun _ h=>h.elim),t⟩
 ·exact⟨rc0 0,sk0,62,rfl,Or.inr ⟨hr,rfl,rfl⟩,RW.rc0 _ _ _,t⟩
def rcs9 (p:Rc×Sk):List Value:=[.int .i64 p.1.k,.int .i64 p.1.x,.int .i64 p.1.p,.int .i64 p.1.t,.slice p.2.oo p.1.o.length p.2.oc,.slice p.2.no p.1.n.length p.2.nc,.string p.1.nm,.int .i64 p.1.org,.int .i64 p.1.tb.id,.int .i64 p.1.tb.ver,.string p.1.tb.nm,.slice p.2.co p.1.tb.cols.length p.2.cc,.int .i64 p.1.tb.key,.slice p.2.to p.2.P.length p.2.tc]
def rcl9 (l:List (Rc×Sk)):List Value:=l.flatMap rcs9
theorem rcl9_get: ∀(l:List (Rc×Sk)) (k j:Nat) (hk:k<l.length),j<14→(rcl9 l)[k*14+j]? =(rcs9 l[k])[j]?
 |[],k,j,hk,_=>by simp at hk
 |a::l,0,j,_,hj=>by
  unfold rcl9
  rw[List.flatMap_cons,Nat.zero_mul,Nat.zero_add,List.getElem?_append_left (by simp[rcs9];omega)];rfl
 |a::l,k+1,j,hk,hj=>by
  have:=rcl9_get l k j (by simpa using hk) hj
  unfold rcl9 at this ⊢
  rw[List.flatMap_cons,List.getElem?_append_right (by simp[rcs9];omega)]
  simp only[List.getElem_cons_succ]
  rw[←this]
  congr 1
  simp[rcs9];omega
theorem rcs9_one (p:Rc×Sk): ∀u∈rcs9 p,u.oneCell'=true:=fun u hu=>by
 simp only[rcs9,List.mem_cons,List.not_mem_nil,or_false] at hu
 rcases hu with rfl|rfl|rfl|rfl|rfl|rfl|rfl|rfl|rfl|rfl|rfl|rfl|rfl|rfl<;>rfl
theorem RN.far {W W':World} {base:Nat} {r:Rc} {s:Sk} {lv:Value} (h:RN W base r s) (t:Tch (fun g=>lv.ownBlock=some g) W W') (hl: ∀g,lv.ownBlock=some g→ ∃cur,W.heap[g]? =some (.cells cur 37 (0,0))):RN W' base r s:=by
 have key: ∀ {e:TypeId} {sz n:Nat} {v:Value} {xs:List Value},e≠37→W.ownsRow base e sz v n xs→W'.ownsRow base e sz v n xs:=fun hne ho=>own_tch ho t (fun g hg hg'=>by
  obtain⟨c1,h1⟩:=own_ty9 ho hg
  obtain⟨c2,h2⟩:=hl g hg'
  exact ne_ty9 h1 h2 hne rfl)
 exact⟨key (by decide) h.o,key (by decide) h.n,key (by decide) h.tb,⟨key (by decide) h.tbs.own,fun i hi=>key (by decide) (h.tbs.col i hi),h.tbs.sep,h.tbs.dis⟩,h.eq,h.on⟩
theorem LX.farR {W W':World} {e:TypeId} {sz:Nat} {mk:Nat→List Value} {X:List (Value×Nat)} {q:Nat} {lv:Value} (h:LX W e sz mk X q) (hne:e≠37) (t:Tch (fun g=>lv.ownBlock=some g) W W') (hl: ∀g,lv.ownBlock=some g→ ∃cur,W.heap[g]? =some (.cells cur 37 (0,0))):LX W' e sz mk X q:=
 h.no t (fun i x g hx hg hg'=>by
  obtain⟨xs,ho⟩:=h.own i x hx
  obtain⟨c1,h1⟩:=own_ty9 ho hg
  obtain⟨c2,h2⟩:=hl g hg'
  exact ne_ty9 h1 h2 hne rfl)
structure RL (W:World) (b:Nat) (lo:Option Addr) (m lc:Nat) (AS:List ByteArray) (RS:List (Rc×Sk)):Prop where
 own:W.ownsRow b 37 14 (.slice lo m lc) m (rcl9 RS)
 len:m=RS.length
 rn: ∀(i:Nat) (p:Rc×Sk),RS[i]? =some p→RN W b p.1 p.2
 rd: ∀(i:Nat) (p:Rc×Sk),RS[i]? =some p→ ∃S e,AS[i]? =some S∧Rd S p.1 e
 q:RQ W RS
theorem RL.nil (W:World) (b:Nat) (AS:List ByteArray):RL W b none 0 0 AS []:=⟨World.ownsRow_nil _ _ _ _,rfl,fun i p h=>by simp at h,fun i p h=>by simp at h,RQ.nil W⟩
theorem RL.no {W W':World} {b:Nat} {lo:Option Addr} {m lc:Nat} {AS:List ByteArray} {RS:List (Rc×Sk)} (h:RL W b lo m lc AS RS) (t:Tch (fun _=>False) W W'):RL W' b lo m lc AS RS:=
 ⟨own_tch h.own t (fun _ _ e=>e),h.len,fun i p hp=>(h.rn i p hp).tch t (fun _ _ _ e=>e),h.rd,h.q.no t⟩
theorem RL.push {W W1 W2:World} {b:Nat} {lo:Option Addr} {m lc:Nat} {AS:List ByteArray} {RS:List (Rc×Sk)} (h:RL W b lo m lc AS RS) (hb:b≤W.heap.size) (hm:m≤1000) (t:Tch (fun _=>False) W W1) {r:Rc} {s:Sk} (hr:RN W1 W.heap.size r s) (hc:s.co=none∨s.P=[]) {S:ByteArray} {e:Int} (hS:AS[m]? =some S) (hd:Rd S r e) (t2:Tch (fun _=>False) W1 W2) (bb:Nat) (b1:W2.heap[bb]? =some (.cells (rcs9 (r,s)).toArray 37 (0,0))):
  ∃v' w1,(Builtin.append_ #[40,40] 40 #[.slice lo m lc,.slice (some ⟨bb,0,none⟩) 1 1]).run Tryz.prog W2= .ok v' w1∧ ∃lo' lc',v'= .slice lo' (m+1) lc'∧RL w1 b lo' (m+1) lc' AS (RS++[(r,s)])∧Tch (fun g=>(Value.slice lo m lc).ownBlock=some g) W2 w1:=by
 have h2:=h.no (t.trans' t2)
 have hct: ∀(i:Nat) (q:Tbl×Value) (g:Nat),s.P[i]? =some q→q.2.ownBlock=some g→(Value.slice s.co r.tb.cols.length s.cc).ownBlock≠some g:=fun i q g hq _ hg'=>by
  rcases hc with e|e
  ·rw[e] at hg';cases hg'
  ·rw[e] at hq;simp at hq
 have q1:=(h.q.add t hr hct).no t2
 have n1:=hr.tch t2 (fun _ _ _ e=>e)
 have hI:(Tryz.prog.info? 37).map (fun i=>(i.zero,i.size,i.bytes))=some (some (rV (rc0 0) sk0),14,192):=by kernel_rfl
 obtain⟨i0,hi0,hz0,hz1,hz2⟩:=info_parts hI
 obtain⟨v',w1,hrun,hown,hgr,hat,_⟩:=run_append_keeps (P:=Tryz.prog) W2 b 40 40 37 i0 _ 14 192 Tryz.underlying40 hi0 hz0 hz1 hz2 rfl (by decide) (.slice lo m lc) m (rcl9 RS) h2.own ⟨bb,0,none⟩ 1 1 (rcs9 (r,s)) rfl (fun j u hu=>by rw[add_plain,Nat.zero_add,blk_cell b1,List.getElem?_toArray];exact hu) (rcs9_one _) (by unfold maxLen;omega) (by omega) (by have:=t.size;have:=t2.size;omega)
 obtain⟨lo',lc',rfl⟩:=row_slice hown
 have tt:=grown_at (Tch.refl (fun _=>False) W2) hgr
 have hl: ∀g,(Value.slice lo m lc).ownBlock=some g→ ∃cur,W2.heap[g]? =some (.cells cur 37 (0,0)):=fun g hg=>own_ty9 h2.own hg
 refine⟨_,w1,hrun,lo',lc',rfl,⟨?_,by rw[List.length_append, ←h.len];rfl,fun i p hp=>?_,fun i p hp=>?_,⟨q1.r.farR (by decide) tt hl,q1.c.farR (by decide) tt hl,q1.t.farR (by decide) tt hl⟩⟩,tt⟩
 ·have e:rcl9 (RS++[(r,s)])=rcl9 RS++rcs9 (r,s):=by unfold rcl9;simp
  rw[e];exact hown
 ·rcases snoc_get9 hp with hp|⟨_,rfl⟩
  ·exact(h2.rn i p hp).far tt hl
  ·exact(n1.low hb).far tt hl
 ·rcases snoc_get9 hp with hp|⟨e1,rfl⟩
  ·exact h.rd i p hp
  ·refine⟨S,e,?_,hd⟩
   rw[e1, ←h.len];exact hS
end Go.Proofs.YtaiadknglhemaaaGreatDoor.C
