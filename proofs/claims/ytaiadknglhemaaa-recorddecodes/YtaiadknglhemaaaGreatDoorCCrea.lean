import Derived.Test.YtaiadknglhemaaaGreatDoorCList
import Derived.Test.YtaiadknglhemaaaGreatDoorOrdv
set_option maxHeartbeats 2000000
set_option maxRecDepth 100000
namespace Go.Proofs.YtaiadknglhemaaaGreatDoor.C
open Go.RowKit Go
def ListOut (L:List Tbl) (base:Nat) (x:Ending) (w':World):Prop:= ∃tv Q,x= .returned tv∧Q.map Prod.fst=L∧TO w' base tv Q
structure CO (W:World) (base b:Nat) (L:List Tbl) (gv:Int) (P:List (Tbl×Value)) (tv:Value):Prop where
 blk:W.heap[b]? =some (.cells #[tv,.int .i64 gv] 60 (0,0))
 ge:base≤b
 eq:P.map Prod.fst=L
 to:TO W base tv P
 nb:tv.ownBlock≠some b∧ ∀i (hi:i<P.length),P[i].2.ownBlock≠some b
structure TA (W:World) (t:Tbl) (ao:Option Addr) (c:Nat):Prop where
 sl:SL W ao (ccl t.cols)
 no:ao=none→t.cols=[]∧c=0
 cap:t.cols.length≤c
def BL (tv:Value) (P:List (Tbl×Value)) (g:Nat):Prop:=tv.ownBlock=some g∨ ∃i, ∃(hi:i<P.length),P[i].2.ownBlock=some g
theorem add_any (base d:Nat) (L:List Tbl) (gv:Int) (P:List (Tbl×Value)) (tv:Value) (t:Tbl) (ao:Option Addr) (c:Nat) (w:World) (h:CO w base d L gv P tv) (ht:TA w t ao c) (h8:t.cols.length≤8) (hl:P.length≤16) (hbase:base≤w.heap.size):
  Calls Tryz.prog 61 #[.pointer (some ⟨d,0,none⟩),tA t.id t.ver t.nm (.slice ao t.cols.length c) t.key] w fun x w'=>x= .returned (.tuple #[])∧(∃P' tv',CO w' base d (L++[t]) t.id P' tv'∧P'.length=P.length+1∧ ∀g,BL tv' P' g→BL tv P g∨w.heap.size≤g)∧Tch (fun i=>i=d∨tv.ownBlock=some i) w w':=by
 obtain⟨i0,hi0,hz0,hz1,hz2⟩:=info_parts info_tbl
 obtain⟨to,tc,htv⟩:=row_slice h.to.own
 subst htv
 obtain⟨N,hN⟩: ∃N,N=w.heap.size:=⟨_,rfl⟩
 obtain⟨w0,hw0⟩: ∃w0,w0=w.alloc (.cells #[.int .i64 t.id,.int .i64 t.ver,.string t.nm,.slice ao t.cols.length c,.int .i64 t.key] 29):=⟨_,rfl⟩
 have t0:Tch (fun _=>False) w w0:=by rw[hw0];exact Tch.alloc _ _ _
 have hbx:w0.heap[N]? =some (.cells #[.int .i64 t.id,.int .i64 t.ver,.string t.nm,.slice ao t.cols.length c,.int .i64 t.key] 29 (0,0)):=by rw[hw0,hN];exact alloc_new _ _
 have h0:CO w0 base d L gv P (.slice to P.length tc):=⟨by rw[t0.block d (blk_lt h.blk) (fun h=>h)];exact h.blk,h.ge,h.eq,h.to.tch t0 (fun _ _ _ h=>h),h.nb⟩
 have HQ:Hid (∀W,Tch (fun _=>False) w0 W→Calls Tryz.prog 28 #[tA t.id t.ver t.nm (.slice ao t.cols.length c) t.key] W fun x w'=>(∃v,x= .returned (tA t.id t.ver t.nm v t.key)∧w'.ownsRow (N+1) 43 3 v t.cols.length (ccl t.cols))∧Tch (fun _=>False) W w'):=fun W tW=>by
  refine(copied_any t ao c W (ht.sl.no (t0.trans' tW)) ht.no (by omega)).mono ?_
  rintro x w' ⟨⟨v,hx,hv⟩,t'⟩
  exact⟨⟨v,hx,own_low hv (by have:=tW.size;have:=blk_lt hbx;omega)⟩,t'⟩
 have HS:Hid (∀W,Tch (fun i=>(Value.slice to P.length tc).ownBlock=some i) w0 W→Tch (fun i=>(Value.slice to P.length tc).ownBlock=some i) w0 W∧W.cell? ⟨d,0,none⟩=some (.slice to P.length tc)∧(W.cell? ⟨N,0,none⟩=some (.int .i64 t.id)∧W.cell? ⟨N,1,none⟩=some (.int .i64 t.ver)∧W.cell? ⟨N,2,none⟩=some (.string t.nm)∧W.cell? ⟨N,3,none⟩=some (.slice ao t.cols.length c)∧W.cell? ⟨N,4,none⟩=some (.int .i64 t.key))∧W.frozen? ⟨d,0,none⟩=false):=fun W tW=>by
  have hNs: ¬(Value.slice to P.length tc).ownBlock=some N:=fun e=>by have:=(h.to.own.lt N e).2;omega
  have h1:W.heap[N]? =some (.cells #[.int .i64 t.id,.int .i64 t.ver,.string t.nm,.slice ao t.cols.length c,.int .i64 t.key] 29 (0,0)):=by rw[tW.block N (blk_lt hbx) hNs];exact hbx
  have h2:W.heap[d]? =some (.cells #[.slice to P.length tc,.int .i64 gv] 60 (0,0)):=by rw[tW.block d (blk_lt h0.blk) h.nb.1];exact h0.blk
  exact⟨tW,by rw[blk_cell h2];rfl,⟨by rw[blk_cell h1];rfl,by rw[blk_cell h1];rfl,by rw[blk_cell h1];rfl,by rw[blk_cell h1];rfl,by rw[blk_cell h1];rfl⟩,blk_frozen h2 0⟩
 have HNl:Hid (w0.heap.size=N+1):=by show _=_;rw[hw0,hN,World.size_alloc]
 have HdN:Hid (d<N):=by show d<N;rw[hN];exact blk_lt h.blk
 have H0:Hid (CO w0 base d L gv P (.slice to P.length tc)):=h0
 have Hw0:Hid _:=hw0
 have HN:Hid (N=w.heap.size):=hN
 have Ht0:Hid (Tch (fun _=>False) w w0):=t0
 obtain⟨_,b0,⟨x0,x1,x2,x3,x4⟩,f0⟩:=HS.out w0 (Tch.refl _ _)
 clear h h0 hw0 hN hbx t0 ht
 go_enter Tryz.func61,Tryz.ntmps61
 go_wp2_with fail
 rw[←HN.out]
 have hw0:=Hw0.out
 rw[←hw0]
 clear hw0
 obtain⟨K0,hK0⟩: ∃K0:World→Prop,K0=fun W=>Tch (fun i=>(Value.slice to P.length tc).ownBlock=some i) w0 W:=⟨_,rfl⟩
 obtain⟨St,hSt⟩: ∃St:List Value→World→Prop,St=fun s W=>match s with
  |[]=>Tch (fun _=>False) w0 W
  |[x]=>Tch (fun _=>False) w0 W∧ ∃vo vc,x=tA t.id t.ver t.nm (.slice vo t.cols.length vc) t.key∧W.ownsRow (N+1) 43 3 (.slice vo t.cols.length vc) t.cols.length (ccl t.cols)
  |[x,y]=>Tch (fun _=>False) w0 W∧ ∃vo vc g,x=tA t.id t.ver t.nm (.slice vo t.cols.length vc) t.key∧y= .slice (some ⟨g,0,none⟩) 1 1∧W.ownsRow (N+1) 43 3 (.slice vo t.cols.length vc) t.cols.length (ccl t.cols)∧At W g 0 (tcs (t,.slice vo t.cols.length vc))
  |[x,_,z]=> ∃vo vc to' tc',x=tA t.id t.ver t.nm (.slice vo t.cols.length vc) t.key∧z= .slice to' (P.length+1) tc'∧W.ownsRow (N+1) 43 3 (.slice vo t.cols.length vc) t.cols.length (ccl t.cols)∧W.ownsRow base 29 5 (.slice to' (P.length+1) tc') (P.length+1) (tcl (P++[(t,.slice vo t.cols.length vc)]))∧((Value.slice to' (P.length+1) tc').ownBlock=(Value.slice to P.length tc).ownBlock∨ ∃g,(Value.slice to' (P.length+1) tc').ownBlock=some g∧w0.heap.size≤g∧(Value.slice vo t.cols.length vc).ownBlock≠some g)
  |_=>False:=⟨_,rfl⟩
 obtain⟨C,hC⟩: ∃C:List Value→World→Prop,C=fun s W=>K0 W∧St s W:=⟨_,rfl⟩
 have hK: ∀s W,C s W→W.cell? ⟨d,0,none⟩=some (.slice to P.length tc)∧(W.cell? ⟨N,0,none⟩=some (.int .i64 t.id)∧W.cell? ⟨N,1,none⟩=some (.int .i64 t.ver)∧W.cell? ⟨N,2,none⟩=some (.string t.nm)∧W.cell? ⟨N,3,none⟩=some (.slice ao t.cols.length c)∧W.cell? ⟨N,4,none⟩=some (.int .i64 t.key))∧W.frozen? ⟨d,0,none⟩=false:=fun s W h=>by
  rw[hC] at h
  have:=h.1
  rw[hK0] at this
  exact(HS.out W this).2
 have h6: ∀W,C [] W→Calls Tryz.prog 28 #[tA t.id t.ver t.nm (.slice ao t.cols.length c) t.key] W fun x w'=> ∃vo vc,x= .returned (tA t.id t.ver t.nm (.slice vo t.cols.length vc) t.key)∧C [tA t.id t.ver t.nm (.slice vo t.cols.length vc) t.key] w':=fun W h=>by
  rw[hC,hSt] at h
  have tW:Tch (fun _=>False) w0 W:=h.2
  refine(HQ.out W tW).mono ?_
  rintro x w' ⟨⟨v,rfl,hv⟩,t'⟩
  obtain⟨vo,vc,rfl⟩:=row_slice hv
  refine⟨vo,vc,rfl,?_⟩
  rw[hC,hSt,hK0]
  exact⟨(tW.trans' t').mono (fun _ _ h=>h.elim),tW.trans' t',vo,vc,rfl,hv⟩
 have h7: ∀vo vc W,C [tA t.id t.ver t.nm (.slice vo t.cols.length vc) t.key] W→C [tA t.id t.ver t.nm (.slice vo t.cols.length vc) t.key,.slice (some ⟨W.heap.size,0,none⟩) 1 1] (W.alloc (.cells #[.int .i64 t.id,.int .i64 t.ver,.string t.nm,.slice vo t.cols.length vc,.int .i64 t.key] 29)):=fun vo vc W h=>by
  rw[hC,hSt,hK0] at h
  obtain⟨h1,tW,vo',vc',e,hv⟩:=h
  have e':vo=vo'∧vc=vc':=by simpa using e
  obtain⟨rfl,rfl⟩:=e'
  rw[hC,hSt,hK0]
  exact⟨h1.allocR _,tW.allocR _,vo,vc,W.heap.size,rfl,rfl,own_tch hv (Tch.alloc (fun _=>False) _ _) (fun _ _ h=>h),blk_at (alloc_new W (.cells (tcs (t,.slice vo t.cols.length vc)).toArray 29))⟩
 have h8: ∀vo vc g W,C [tA t.id t.ver t.nm (.slice vo t.cols.length vc) t.key,.slice (some ⟨g,0,none⟩) 1 1] W→ ∃to' tc' w',(Builtin.append_ #[35,35] 35 #[.slice to P.length tc,.slice (some ⟨g,0,none⟩) 1 1]).run Tryz.prog W= .ok (.slice to' (P.length+1) tc') w'∧C [tA t.id t.ver t.nm (.slice vo t.cols.length vc) t.key,.slice (some ⟨g,0,none⟩) 1 1,.slice to' (P.length+1) tc'] w':=fun vo vc g W h=>by
  rw[hC,hSt,hK0] at h
  obtain⟨h1,tW,vo',vc',g',e,e2,hv,hg⟩:=h
  have e':vo=vo'∧vc=vc':=by simpa using e
  obtain⟨rfl,rfl⟩:=e'
  have e2':g=g':=by simpa using e2
  subst e2'
  have hTO:=H0.out.to.tch tW (fun _ _ _ h=>h)
  obtain⟨v',w',hr,hown,hgr,hat,_⟩:=run_append_keeps (P:=Tryz.prog) W base 35 35 29 i0 (.agg #[.int .i64 0,.int .i64 0,.string ⟨#[]⟩,.slice none 0 0,.int .i64 0]) 5 64 Tryz.underlying35 hi0 hz0 hz1 hz2 rfl (by decide) (.slice to P.length tc) P.length (tcl P) hTO.own ⟨g,0,none⟩ 1 1 (tcs (t,.slice vo t.cols.length vc)) rfl (fun j u hu=>by rw[add_plain];exact hg j u hu) (by simp[tcs,Value.oneCell']) (by unfold maxLen;omega) (by omega) (by have:=Ht0.out.size;have:=tW.size;omega)
  obtain⟨to',tc',rfl⟩:=row_slice hown
  have T:=grown_at (Tch.refl (fun _=>False) W) hgr
  have hvlt: ∀g,(Value.slice vo t.cols.length vc).ownBlock=some g→N+1≤g∧g<W.heap.size:=fun g e=>hv.lt g e
  have htlt: ∀g,(Value.slice to P.length tc).ownBlock=some g→g<w0.heap.size:=fun g e=>(H0.out.to.own.lt g e).2
  refine⟨to',tc',w',hr,?_⟩
  rw[hC,hSt,hK0]
  refine⟨h1.trans' T,vo,vc,to',tc',rfl,rfl,own_tch hv T (fun g e e2=>?_),by rw[tcl_append];exact hown,hat.imp id (fun e=>⟨_,e,tW.size,fun e2=>?_⟩)⟩
  ·have h2:=HNl.out;have:=(hvlt g e).1;have:=htlt g e2;omega
  ·have:=(hvlt _ e2).2;omega
 have h0':C [] w0.drew:=by
  rw[hC,hSt,hK0];exact⟨(Tch.refl _ _).drew,(Tch.refl _ _).drew⟩
 have hfin: ∀x y z W,C [x,y,z] W→ ∃P' tv',(∀W',Tch (fun i=>i=d) W W'→W'.heap[d]? =some (.cells #[z,.int .i64 t.id] 60 (0,0))→CO W' base d (L++[t]) t.id P' tv'∧P'.length=P.length+1∧ ∀g,BL tv' P' g→BL (.slice to P.length tc) P g∨w.heap.size≤g)∧Tch (fun i=>(Value.slice to P.length tc).ownBlock=some i) w W∧W.heap[d]? =some (.cells #[.slice to P.length tc,.int .i64 gv] 60 (0,0)):=fun x y z W h=>by
  rw[hC,hSt,hK0] at h
  obtain⟨h1,vo,vc,to',tc',rfl,rfl,hv,hown,hat⟩:=h
  have hnb:=H0.out.nb
  have hcl: ∀i (hi:i<P.length) g,P[i].2.ownBlock=some g→g<w0.heap.size∧base≤g:=fun i hi g e=>⟨((H0.out.to.col i hi).lt g e).2,((H0.out.to.col i hi).lt g e).1⟩
  have hdl:d<w0.heap.size:=blk_lt H0.out.blk
  have hblk:W.heap[d]? =some (.cells #[.slice to P.length tc,.int .i64 gv] 60 (0,0)):=by rw[h1.block d hdl hnb.1];exact H0.out.blk
  have hzd:(Value.slice to' (P.length+1) tc').ownBlock≠some d:=by
   rcases hat with e|⟨g,e,hg,_⟩
   ·rw[e];exact hnb.1
   ·rw[e];intro e2;injection e2 with e2;omega
  have hvd:(Value.slice vo t.cols.length vc).ownBlock≠some d:=fun e=>by
   have:=(hv.lt d e).1;have:=HNl.out;omega
  refine⟨P++[(t,.slice vo t.cols.length vc)],.slice to' (P.length+1) tc',fun W' tW' hb'=>⟨⟨hb',H0.out.ge,by rw[List.map_append,H0.out.eq];rfl,⟨?_,fun i hi=>?_,fun i hi g e=>?_,fun i j hi hj g hij e1 e2=>?_⟩,hzd,fun i hi e=>?_⟩,by simp,fun g hg=>?_⟩,?_,hblk⟩
  ·rw[List.length_append];exact own_tch hown tW' (fun g e h=>hzd (h▸e))
  ·rw[List.length_append,List.length_singleton] at hi
   rcases Nat.lt_or_ge i P.length with hl'|hl'
   ·rw[List.getElem_append_left hl']
    exact own_tch (own_tch (H0.out.to.col i hl') h1 (fun g e=>fun e2=>H0.out.to.sep i hl' g e e2)) tW' (fun g e h=>hnb.2 i hl' (h▸e))
   ·obtain rfl:i=P.length:=by omega
    simp only[List.getElem_append_right (Nat.le_refl _),Nat.sub_self,List.getElem_cons_zero]
    exact own_low (own_tch hv tW' (fun g e h=>hvd (h▸e))) (by have:=HN.out;omega)
  ·rw[List.length_append,List.length_singleton] at hi
   rcases Nat.lt_or_ge i P.length with hl'|hl'
   ·rw[List.getElem_append_left hl'] at e
    rcases hat with e2|⟨g',e2,hg',_⟩
    ·rw[e2];exact H0.out.to.sep i hl' g e
    ·rw[e2];intro e3;injection e3 with e3;have:=(hcl i hl' g e).1;omega
   ·obtain rfl:i=P.length:=by omega
    simp only[List.getElem_append_right (Nat.le_refl _),Nat.sub_self,List.getElem_cons_zero] at e
    rcases hat with e2|⟨g',e2,hg',hne⟩
    ·rw[e2];intro e3
     have:=(H0.out.to.own.lt g e3).2;have:=(hv.lt g e).1;have:=HNl.out;omega
    ·rw[e2];intro e3;injection e3 with e3;subst e3;exact hne e
  ·rw[List.length_append,List.length_singleton] at hi hj
   rcases Nat.lt_or_ge i P.length with hl1|hl1<;>rcases Nat.lt_or_ge j P.length with hl2|hl2
   ·rw[List.getElem_append_left hl1] at e1;rw[List.getElem_append_left hl2] at e2;exact H0.out.to.dis i j hl1 hl2 g hij e1 e2
   ·obtain rfl:j=P.length:=by omega
    rw[List.getElem_append_left hl1] at e1
    simp only[List.getElem_append_right (Nat.le_refl _),Nat.sub_self,List.getElem_cons_zero] at e2
    have:=(hcl i hl1 g e1).1;have:=(hv.lt g e2).1;have:=HNl.out;omega
   ·obtain rfl:i=P.length:=by omega
    rw[List.getElem_append_left hl2] at e2
    simp only[List.getElem_append_right (Nat.le_refl _),Nat.sub_self,List.getElem_cons_zero] at e1
    have:=(hcl j hl2 g e2).1;have:=(hv.lt g e1).1;have:=HNl.out;omega
   ·omega
  ·rw[List.length_append,List.length_singleton] at hi
   rcases Nat.lt_or_ge i P.length with hl'|hl'
   ·rw[List.getElem_append_left hl'] at e;exact hnb.2 i hl' e
   ·obtain rfl:i=P.length:=by omega
    simp only[List.getElem_append_right (Nat.le_refl _),Nat.sub_self,List.getElem_cons_zero] at e
    exact hvd e
  ·have hs0:=HNl.out
   have hsN:=HN.out
   rcases hg with hg|⟨i,hi,hg⟩
   ·rcases hat with e|⟨g',e,hg',_⟩
    ·rw[e] at hg;exact Or.inl (Or.inl hg)
    ·rw[e] at hg;injection hg with hg;right;omega
   ·rw[List.length_append,List.length_singleton] at hi
    rcases Nat.lt_or_ge i P.length with hl'|hl'
    ·rw[List.getElem_append_left hl'] at hg;exact Or.inl (Or.inr ⟨i,hl',hg⟩)
    ·obtain rfl:i=P.length:=by omega
     simp only[List.getElem_append_right (Nat.le_refl _),Nat.sub_self,List.getElem_cons_zero] at hg
     right;have:=(hv.lt g hg).1;omega
  ·exact(Ht0.out.mono (fun _ _ h=>h.elim)).trans' h1
 have hsh1: ∀x W,C [x] W→ ∃vo vc,x=tA t.id t.ver t.nm (.slice vo t.cols.length vc) t.key:=fun x W h=>by
  rw[hC,hSt,hK0] at h
  obtain⟨_,_,vo,vc,rfl,_⟩:=h
  exact⟨vo,vc,rfl⟩
 have hsh2: ∀x y W,C [x,y] W→ ∃g,y= .slice (some ⟨g,0,none⟩) 1 1:=fun x y W h=>by
  rw[hC,hSt,hK0] at h
  obtain⟨_,_,vo,vc,g,_,rfl,_⟩:=h
  exact⟨g,rfl⟩
 have hdN:d<N:=by have:=blk_lt H0.out.blk;have:=HNl.out;have:=HdN.out;omega
 have hshape: ∀x y z W,C [x,y,z] W→ ∃to' tc',z= .slice to' (P.length+1) tc':=fun x y z W h=>by
  rw[hC,hSt,hK0] at h
  obtain⟨h1,vo,vc,to',tc',rfl,rfl,_⟩:=h
  exact⟨to',tc',rfl⟩
 clear hC hSt hK0 HS HQ b0 x0 x1 x2 x3 x4 f0
 refine wp_region_ordv [6,7,8] C 9 [0,1,2,3,4,5,6,7,8] (by kernel_rfl) (by kernel_rfl) h0' ?_
 clear h0'
 refine ordv_read rfl (by go_simp) (by rfl) ?_
 apply Exists.intro
 refine⟨fun s' W hW b K Q hK'=>?_,fun K hK'=>?_⟩
 ·obtain⟨q0,⟨x0,x1,x2,x3,x4⟩,_⟩:=hK _ W hW
  go_simp
  exact hK' W hW
 go_simp
 refine hK' _ ?_
 clear hK' K
 refine ordv_read rfl (by go_simp) (by rfl) ?_
 apply Exists.intro
 refine⟨fun s' W hW b K Q hK'=>?_,fun K hK'=>?_⟩
 ·obtain⟨q0,⟨x0,x1,x2,x3,x4⟩,_⟩:=hK _ W hW
  go_simp
  exact hK' W hW
 go_simp
 refine hK' _ ?_
 clear hK' K
 refine ordv_read rfl (by go_simp) (by rfl) ?_
 apply Exists.intro
 refine⟨fun s' W hW b K Q hK'=>?_,fun K hK'=>?_⟩
 ·obtain⟨q0,⟨x0,x1,x2,x3,x4⟩,_⟩:=hK _ W hW
  go_simp
  exact hK' W hW
 go_simp
 refine hK' _ ?_
 clear hK' K
 refine ordv_read rfl (by go_simp) (by rfl) ?_
 apply Exists.intro
 refine⟨fun s' W hW b K Q hK'=>?_,fun K hK'=>?_⟩
 ·obtain⟨q0,⟨x0,x1,x2,x3,x4⟩,_⟩:=hK _ W hW
  go_simp
  exact hK' W hW
 go_simp
 refine hK' _ ?_
 clear hK' K
 refine ordv_read rfl (by go_simp) (by rfl) ?_
 apply Exists.intro
 refine⟨fun s' W hW b K Q hK'=>?_,fun K hK'=>?_⟩
 ·obtain⟨q0,⟨x0,x1,x2,x3,x4⟩,_⟩:=hK _ W hW
  go_simp
  exact hK' W hW
 go_simp
 refine hK' _ ?_
 clear hK' K
 refine ordv_read rfl (by go_simp) (by rfl) ?_
 apply Exists.intro
 refine⟨fun s' W hW b K Q hK'=>?_,fun K hK'=>?_⟩
 ·obtain⟨q0,⟨x0,x1,x2,x3,x4⟩,_⟩:=hK _ W hW
  go_simp
  exact hK' W hW
 go_simp
 refine hK' _ ?_
 clear hK' K
 refine ordv_turn rfl (by go_simp) (by rfl) (fun W hW b K Q hK'=>?_) (fun u hu K hK'=>?_)
 ·go_simp
  go_at_call 28
  refine(h6 W hW).mono ?_
  rintro x w' ⟨vo,vc,rfl,h1⟩
  exact hK' _ w' h1
 obtain⟨vo,vc,rfl⟩: ∃vo vc,u=tA t.id t.ver t.nm (.slice vo t.cols.length vc) t.key:=by
  obtain⟨W',hW'⟩:=hu
  exact hsh1 u W' hW'
 clear hu h6
 go_simp
 refine hK' _ ?_
 clear hK' K
 refine ordv_turn rfl (by go_simp) (by rfl) (fun W hW b K Q hK'=>?_) (fun u hu K hK'=>?_)
 ·go_simp
  exact hK' _ _ (h7 vo vc W hW)
 obtain⟨g,rfl⟩: ∃g,u= .slice (some ⟨g,0,none⟩) 1 1:=by
  obtain⟨W',hW'⟩:=hu
  exact hsh2 _ u W' hW'
 clear hu h7
 go_simp
 refine hK' _ ?_
 clear hK' K
 refine ordv_turn rfl (by go_simp) (by rfl) (fun W hW=>?_) (fun u hu K hK'=>?_)
 ·obtain⟨to',tc',w',hr,h1⟩:=h8 vo vc g W hW
  exact yv_append (.tmp 8) (.tmp 11) 35 rfl (.slice to P.length tc) (.slice (some ⟨g,0,none⟩) 1 1) rfl rfl hr h1
 obtain⟨to',tc',rfl⟩: ∃to' tc',u= .slice to' (P.length+1) tc':=by
  obtain⟨W',hW'⟩:=hu
  exact hshape _ _ u W' hW'
 clear hu h8 hshape hsh1 hsh2
 go_simp
 refine hK' _ ?_
 clear hK' K
 refine ordv_nil ?_
 intro w3 hw3
 obtain⟨_,⟨x0,x1,x2,x3,x4⟩,f0⟩:=hK _ w3 hw3
 obtain⟨P',tv',hCO,hT3,hblk3⟩:=hfin _ _ _ w3 hw3
 have c0:w3.cell? ⟨d,0,none⟩=some (.slice to P.length tc):=by rw[blk_cell hblk3];rfl
 have c1:w3.cell? ⟨d,1,none⟩=some (.int .i64 gv):=by rw[blk_cell hblk3];rfl
 have f1:=blk_frozen hblk3 1
 have hNd:(⟨N,0,none⟩:Addr)≠⟨d,0,none⟩:=by intro e;injection e with e;omega
 have HF:Hid ((∃P' tv',CO ((w3.setCell ⟨d,0,none⟩ (.slice to' (P.length+1) tc')).setCell ⟨d,1,none⟩ (.int .i64 t.id)) base d (L++[t]) t.id P' tv'∧P'.length=P.length+1∧ ∀g,BL tv' P' g→BL (.slice to P.length tc) P g∨w.heap.size≤g)∧Tch (fun i=>i=d∨(Value.slice to P.length tc).ownBlock=some i) w ((w3.setCell ⟨d,0,none⟩ (.slice to' (P.length+1) tc')).setCell ⟨d,1,none⟩ (.int .i64 t.id))):=by
  have tE:Tch (fun i=>i=d) w3 ((w3.setCell ⟨d,0,none⟩ (.slice to' (P.length+1) tc')).setCell ⟨d,1,none⟩ (.int .i64 t.id)):=(Tch.setCell (fun i=>i=d) w3 ⟨d,0,none⟩ _ rfl).setCellR ⟨d,1,none⟩ _ rfl
  refine⟨⟨P',tv',hCO _ tE ?_⟩,(hT3.mono (fun _ _ h=>Or.inr h)).trans' (tE.mono (fun _ _ h=>Or.inl h))⟩
  rw[blk_set (blk_set hblk3 _) _];rfl
 have x0':(w3.setCell ⟨d,0,none⟩ (.slice to' (P.length+1) tc')).cell? ⟨N,0,none⟩=some (.int .i64 t.id):=by rw[World.cell?_setCell_other (h:=by intro e;injection e;omega)];exact x0
 clear hfin hK hw3 hCO hblk3 hT3 hNd
 go_wp2
 go_end0
 exact⟨rfl,HF.out⟩
theorem next_any (b:Nat) (gv:Int) (w:World) (h:w.cell? ⟨b,1,none⟩=some (.int .i64 gv)) (h0:0≤gv) (h1:gv≤2147483648):
  Calls Tryz.prog 10 #[.pointer (some ⟨b,0,none⟩)] w fun x w'=>x= .returned (.int .i64 (gv+1))∧w'=w:=by
 go_enter Tryz.func10,Tryz.ntmps10
 go_wp2
 go_ret
 exact⟨rfl,rfl⟩
theorem CO.tch {S:Nat→Prop} {W W':World} {base d:Nat} {L:List Tbl} {gv:Int} {P:List (Tbl×Value)} {tv:Value} (h:CO W base d L gv P tv) (t:Tch S W W') (hS: ∀i,base≤i→i<W.heap.size→ ¬S i):CO W' base d L gv P tv:=
 ⟨by rw[t.block d (blk_lt h.blk) (hS d h.ge (blk_lt h.blk))];exact h.blk,h.ge,h.eq,h.to.tch t hS,h.nb⟩
theorem posP_any (f:Tbl→Bool) (P:List (Tbl×Value)):(decide (0≤posP f P))=(P.map Prod.fst).any f:=by
 rcases posP_cases f P with⟨h1,h2⟩|⟨k,hk,h1,h2,_⟩
 ·rw[h1]
  symm
  show _=false
  rw[List.any_eq_false]
  intro x hx
  obtain⟨i,hi,rfl⟩:=List.getElem_of_mem hx
  rw[List.length_map] at hi
  simpa using h2 i hi
 ·rw[h1,show decide ((0:Int)≤k)=true by simp]
  symm
  rw[List.any_eq_true]
  exact⟨P[k].1,by simpa using⟨P[k].2,List.getElem_mem hk⟩,h2⟩
end Go.Proofs.YtaiadknglhemaaaGreatDoor.C
