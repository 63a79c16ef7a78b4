import Derived.Test.YtppokgdofgigfaaGreatMHs
set_option maxHeartbeats 4000000
set_option maxRecDepth 100000
namespace Go.Proofs.YtppokgdofgigfaaGreat
open Go.RowKit Go Go.Maps
theorem lkE_del (E:List En) (k:Int) (s:List UInt8) (k':Int) (s':List UInt8):lkE (E.filter (fun e=>decide (¬(e.k=k∧e.s=s)))) k' s'=if k'=k∧s'=s then none else lkE E k' s':=by
 by_cases h:k'=k∧s'=s
 ·rw[if_pos h]
  refine lkE_no (fun e he hs=>?_)
  have:=(List.mem_filter.1 he).2
  simp only[decide_eq_true_eq] at this
  exact this ⟨hs.1.trans h.1,hs.2.trans h.2⟩
 ·rw[if_neg h]
  unfold lkE
  rw[find_filter_keep]
  intro e he
  simp only[decide_eq_true_eq] at he ⊢
  exact fun hs=>h ⟨he.1.symm.trans hs.1,he.2.symm.trans hs.2⟩
theorem lkE_drop (E:List En) (k k':Int) (s':List UInt8) (h:k'≠k):lkE (E.filter (fun e=>decide (e.k≠k))) k' s'=lkE E k' s':=by
 unfold lkE
 rw[find_filter_keep]
 intro e he
 simp only[decide_eq_true_eq] at he ⊢
 rw[he.1];exact h
theorem lkT_drop (T:List (Int×Nat)) (k k':Int):lkT (T.filter (fun p=>decide (p.1≠k))) k'=if k'=k then none else lkT T k':=by
 by_cases h:k'=k
 ·rw[if_pos h]
  unfold lkT
  simp only[Option.map_eq_none_iff,List.find?_eq_none,decide_eq_true_eq]
  intro p hp e
  have:=(List.mem_filter.1 hp).2
  simp only[decide_eq_true_eq] at this
  exact this (e.trans h)
 ·rw[if_neg h]
  unfold lkT
  rw[find_filter_keep]
  intro p hp
  simp only[decide_eq_true_eq] at hp ⊢
  rw[hp];exact h
section
variable {w:World} {hb mb tb:Nat} {T:List (Int×Nat)} {E:List En} {C:Nat→Ch} {σ:Nat→Option Nat} {q:Nat}
theorem HW.delE (h:HW w hb mb tb T E C σ q) {k:Int} {l:Nat} (hl:(k,l)∈T) {S:ByteArray} (hS:S.size≤maxLen) (ty:TypeId):
  ∃w',(Builtin.delete_ #[109,9] ty #[.map (some l),.string S]).run Tryz.prog w= .ok (.tuple #[]) w'∧HW w' hb mb tb T (E.filter (fun e=>decide (¬(e.k=k∧e.s=S.data.toList)))) C σ q∧Tch (fun i=>i=l) w w':=by
 obtain⟨g1,D,hD,hat⟩:=h.inn (k,l) hl
 simp only at g1 hD hat
 obtain⟨w',hrun,hD',ht⟩:=hD.drop law_str Tryz.underlying109 (WideMaps.keyOf_string_mk Tryz.underlying9 hS) ty
 have t:Tch (fun i=>i=l) w w':=Tch.of_grown ht.grown (fun g hg=>by cases hg;rfl)
 have hlne:=h.lne hl
 obtain⟨D0,hD0,hat0⟩:=h.mp
 refine⟨w',hrun,⟨?_,h.lb,h.lt,⟨D0,ownsMap_tch hD0 t (fun e=>hlne.2.1 e.symm),hat0⟩,fun p hp=>?_,fun e he=>?_,h.tk,h.tl,h.ek.filter _,h.eb.filter _,fun e he=>h.et e (List.mem_filter.1 he).1,fun i hi=>Nat.lt_of_lt_of_le (h.dom i hi) t.size⟩,t⟩
 ·rw[t.block hb (blk_lt h.blk) (fun e=>hlne.1 e.symm)];exact h.blk
 ·obtain⟨p1,D1,hD1,hk1⟩:=h.inn p hp
  refine⟨p1,?_⟩
  by_cases e:p.2=l
  ·have hpk:p=(k,l):=pw_inj (fun p:Int×Nat=>p.2) h.tl hp hl e
   subst hpk
   refine⟨D.del (.string S.data.toList),hD',fun s zd=>?_⟩
   simp only
   rw[lkE_del]
   by_cases hs:s=S.data.toList
   ·rw[if_pos ⟨rfl,hs⟩,hs,atKey_del_same];rfl
   ·rw[if_neg (fun h=>hs h.2),atKey_del_other (by intro e;injection e with e;exact hs e),hat]
  ·refine⟨D1,ownsMap_tch hD1 t e,fun s zd=>?_⟩
   rw[hk1,lkE_del,if_neg]
   rintro⟨ek,_⟩
   exact e (by rw[pw_inj (fun p:Int×Nat=>p.1) h.tk hp hl ek])
 ·have he':=(List.mem_filter.1 he).1
  obtain⟨g1',g2⟩:=h.chs e he'
  refine⟨g1'.tch t (fun g hg hs=>?_) (fun i _ hi=>rfl),g2⟩
  subst hs
  rw[g1]
  exact⟨(fun e'=>by injection e' with e';exact hlne.2.2 e he' (by omega)),fun j e'=>by injection e' with e';omega⟩
theorem HW.dropT (h:HW w hb mb tb T E C σ q) {k:Int} (h1: -9223372036854775808≤k) (h2:k≤9223372036854775807) (ty:TypeId):
  ∃w',(Builtin.delete_ #[86,3] ty #[.map (some tb),.int .i64 k]).run Tryz.prog w= .ok (.tuple #[]) w'∧HW w' hb mb tb (T.filter (fun p=>decide (p.1≠k))) (E.filter (fun e=>decide (e.k≠k))) C σ q∧Tch (fun i=>i=tb) w w':=by
 obtain⟨D0,hD0,hat0⟩:=h.mp
 obtain⟨w',hrun,hD',ht⟩:=hD0.drop law_int Tryz.underlying86 (Maps.keyOf_int_mk Tryz.underlying3 (int_wf h1 h2)) ty
 have t:Tch (fun i=>i=tb) w w':=Tch.of_grown ht.grown (fun g hg=>by cases hg;rfl)
 refine⟨w',hrun,⟨?_,h.lb,h.lt,⟨_,hD',fun j zd=>?_⟩,fun p hp=>?_,fun e he=>?_,h.tk.filter _,h.tl.filter _,h.ek.filter _,h.eb.filter _,fun e he=>?_,fun i hi=>Nat.lt_of_lt_of_le (h.dom i hi) t.size⟩,t⟩
 ·rw[t.block hb (blk_lt h.blk) (fun e=>h.tne e.symm)];exact h.blk
 ·rw[lkT_drop]
  by_cases hj:j=k
  ·rw[if_pos hj,hj,atKey_del_same];rfl
  ·rw[if_neg hj,atKey_del_other (by intro e;injection e with _ e;exact hj e)];exact hat0 j zd
 ·obtain⟨hp,hpk⟩:=List.mem_filter.1 hp
  simp only[decide_eq_true_eq] at hpk
  obtain⟨p1,D1,hD1,hk1⟩:=h.inn p hp
  exact⟨p1,D1,ownsMap_tch hD1 t (h.lne hp).2.1,fun s zd=>by rw[hk1,lkE_drop _ _ _ _ hpk]⟩
 ·have he':=(List.mem_filter.1 he).1
  obtain⟨g1',g2⟩:=h.chs e he'
  refine⟨g1'.tch t (fun g hg hs=>?_) (fun i _ hi=>rfl),g2⟩
  subst hs
  rw[h.lt]
  exact⟨(fun e'=>by injection e' with e';exact h.ene he' (by omega)),fun j e'=>by injection e' with e';omega⟩
 ·obtain⟨he,hk⟩:=List.mem_filter.1 he
  obtain⟨l,hl⟩:=h.et e he
  exact⟨l,List.mem_filter.2 ⟨hl,hk⟩⟩
theorem HW.len (h:HW w hb mb tb T E C σ q) {k:Int} {l:Nat} (hl:(k,l)∈T): ∃n:Nat,(∀ty,(Builtin.len_ #[109] ty #[.map (some l)]).run Tryz.prog w= .ok (.int .i64 n) w)∧(n=0→ ∀e∈E,e.k≠k):=by
 obtain⟨g1,D,hD,hat⟩:=h.inn (k,l) hl
 refine⟨Maps.size D,fun ty=>hD.len Tryz.underlying109 ty,fun h0 e he ek=>?_⟩
 obtain⟨es,rfl,_,_⟩:=hD.entries law_str
 have:es=[]:=List.length_eq_zero_iff.1 h0
 subst this
 have h1:=hat e.s (.lit (.int .i64 (-1)))
 simp only at h1
 rw[←ek,lkE_of_mem h.ek he] at h1
 simp[DataW.atKey,atB,encB] at h1
end
theorem info_ver:(Tryz.prog.info? 69).map (fun i=>(i.zero,i.size,i.bytes))=some (some (.agg #[.int .i64 0,.bool false,.slice none 0 0]),3,40):=by kernel_rfl
structure UB (w:World) (σ:Nat→Option Nat) (hb:Nat) (k:Int) (S:ByteArray) (cb:Nat) (wo:Option Addr) (wc:Nat) (zs:List VV) (bc bw bh bt bk:Nat):Prop where
 fc:w.heap[bc]? =some (.cells #[.pointer (some ⟨cb,0,none⟩)] 110 (0,0))
 fw:w.heap[bw]? =some (.cells #[.slice wo zs.length wc] 72 (0,0))
 fh:w.heap[bh]? =some (.cells #[.pointer (some ⟨hb,0,none⟩)] 36 (0,0))
 ft:w.heap[bt]? =some (.cells #[.int .i64 k] 3 (0,0))
 fk:w.heap[bk]? =some (.cells #[.string S] 9 (0,0))
 row:w.ownsRow 0 69 3 (.slice wo zs.length wc) zs.length (vrl zs)
 rl: ∀g,(Value.slice wo zs.length wc).ownBlock=some g→σ g=some (2*cb+1)
 ok: ∀z∈zs,VOK w σ z
 lc:σ bc=none
 lw:σ bw=none
 lh:σ bh=none
 lt:σ bt=none
 lk:σ bk=none
theorem UB.no {w w':World} {σ:Nat→Option Nat} {hb:Nat} {k:Int} {S:ByteArray} {cb:Nat} {wo:Option Addr} {wc:Nat} {zs:List VV} {bc bw bh bt bk:Nat} (u:UB w σ hb k S cb wo wc zs bc bw bh bt bk) (t:Tch (fun _=>False) w w'):UB w' σ hb k S cb wo wc zs bc bw bh bt bk:=
 ⟨by rw[t.block _ (blk_lt u.fc) (fun h=>h)];exact u.fc,by rw[t.block _ (blk_lt u.fw) (fun h=>h)];exact u.fw,by rw[t.block _ (blk_lt u.fh) (fun h=>h)];exact u.fh,by rw[t.block _ (blk_lt u.ft) (fun h=>h)];exact u.ft,by rw[t.block _ (blk_lt u.fk) (fun h=>h)];exact u.fk,own_tch u.row t (fun _ _ h=>h),u.rl,fun z hz=>(u.ok z hz).tch t (fun _ _ h=>h.elim) (fun _ _ _=>rfl),u.lc,u.lw,u.lh,u.lt,u.lk⟩
def LayOut (w:World) (hb mb tb:Nat) (E:List En) (C:Nat→Ch) (σ:Nat→Option Nat) (q:Nat) (k:Int) (S:ByteArray) (z:VV) (x:Ending) (w':World):Prop:=
 ∃T' E' C' σ' cb co cc zs bc bw bh bt bk wo wc,
  x= .returned (.tuple #[.slice wo zs.length wc,.func (.func 89) #[] #[.pointer (some ⟨bc,0,none⟩),.pointer (some ⟨bw,0,none⟩),.pointer (some ⟨bh,0,none⟩),.pointer (some ⟨bt,0,none⟩),.pointer (some ⟨bk,0,none⟩)]])∧
  HW w' hb mb tb T' E' C' σ' (q+3)∧UB w' σ' hb k S cb wo wc zs bc bw bh bt bk∧(⟨k,S.data.toList,cb⟩:En)∈E'∧C' cb=(co,cc,zs++[z])∧
  ((E'=E∧lkE E k S.data.toList=some cb∧(C cb).2.2=zs)∨(E'=E++[⟨k,S.data.toList,cb⟩]∧lkE E k S.data.toList=none∧zs=[]))∧
  (∀e∈E,e.b≠cb→C' e.b=C e.b)∧(∀i,σ i≠none→σ' i=σ i)∧(∀i,i<w.heap.size→σ i=none→σ' i=none)∧Tch (fun i=>σ i≠none) w w'
structure Mid (w:World) (hb mb tb:Nat) (E:List En) (C:Nat→Ch) (σ:Nat→Option Nat) (q:Nat) (k:Int) (S:ByteArray) (z:VV) (W:World) (T':List (Int×Nat)) (E':List En) (C':Nat→Ch) (σ':Nat→Option Nat) (cb:Nat) (bc bh bt bk bv:Nat):Prop where
 hw:HW W hb mb tb T' E' C' σ' (q+2)
 me:(⟨k,S.data.toList,cb⟩:En)∈E'
 old:(E'=E∧lkE E k S.data.toList=some cb∧(C cb).2.2=(C' cb).2.2)∨(E'=E++[⟨k,S.data.toList,cb⟩]∧lkE E k S.data.toList=none∧(C' cb).2.2=[])
 oth: ∀e∈E,e.b≠cb→C' e.b=C e.b
 sg: ∀i,σ i≠none→σ' i=σ i
 sn: ∀i,i<w.heap.size→σ i=none→σ' i=none
 c:W.heap[bc]? =some (.cells #[.pointer (some ⟨cb,0,none⟩)] 110 (0,0))
 h:W.heap[bh]? =some (.cells #[.pointer (some ⟨hb,0,none⟩)] 36 (0,0))
 t:W.heap[bt]? =some (.cells #[.int .i64 k] 3 (0,0))
 k:W.heap[bk]? =some (.cells #[.string S] 9 (0,0))
 v:W.heap[bv]? =some (.cells #[.int .i64 z.1.wr,.bool z.1.th,.slice z.2.1 z.1.n z.2.2] 69 (0,0))
 lc:σ' bc=none
 lh:σ' bh=none
 lt:σ' bt=none
 lk:σ' bk=none
 lv:σ' bv=none
 zok:VOK W σ' z
 tch:Tch (fun i=>σ i≠none) w W
theorem Mid.no {w:World} {hb mb tb:Nat} {E:List En} {C:Nat→Ch} {σ:Nat→Option Nat} {q:Nat} {k:Int} {S:ByteArray} {z:VV} {W W':World} {T':List (Int×Nat)} {E':List En} {C':Nat→Ch} {σ':Nat→Option Nat} {cb:Nat} {bc bh bt bk bv:Nat}
  (m:Mid w hb mb tb E C σ q k S z W T' E' C' σ' cb bc bh bt bk bv) (t:Tch (fun _=>False) W W'):Mid w hb mb tb E C σ q k S z W' T' E' C' σ' cb bc bh bt bk bv:=
 { m with hw:=m.hw.no t,c:=by rw[t.block _ (blk_lt m.c) (fun h=>h)];exact m.c,h:=by rw[t.block _ (blk_lt m.h) (fun h=>h)];exact m.h,t:=by rw[t.block _ (blk_lt m.t) (fun h=>h)];exact m.t,k:=by rw[t.block _ (blk_lt m.k) (fun h=>h)];exact m.k,v:=by rw[t.block _ (blk_lt m.v) (fun h=>h)];exact m.v,zok:=m.zok.tch t (fun _ _ h=>h.elim) (fun _ _ _=>rfl),tch:=m.tch.trans t (fun _ _ h=>h.elim) }
def VC (w1:World) (v:Value) (n:Nat) (xs es:List Value) (s:List Value) (W:World):Prop:=match s with
 |[]=>Tch (fun _=>False) w1 W
 |[y]=>Tch (fun _=>False) w1 W∧ ∃g,y= .slice (some ⟨g,0,none⟩) 1 1∧ ∀j u,es[j]? =some u→W.cell? ((⟨g,0,none⟩:Addr).add j)=some u
 |[_,z]=>Tch (fun j=>v.ownBlock=some j) w1 W∧(∃o5 c5,z= .slice o5 (n+1) c5∧W.ownsRow 0 69 3 z (n+1) (xs++es)∧(z.ownBlock=v.ownBlock∨ ∃g,z.ownBlock=some g∧w1.heap.size≤g))∧W.ownsRow 0 69 3 v n xs
 |_=>False
theorem VC.tch {w1 W:World} {v:Value} {n:Nat} {xs es s:List Value} (h:VC w1 v n xs es s W):Tch (fun j=>v.ownBlock=some j) w1 W:=by
 match s,h with
 |[],h=>exact Tch.mono h (fun _ _ h=>h.elim)
 |[_],h=>exact h.1.mono (fun _ _ h=>h.elim)
 |[_,_],h=>exact h.1
theorem VC.one {w1 W:World} {v:Value} {n:Nat} {xs es:List Value} (h:VC w1 v n xs es [] W):VC w1 v n xs es [.slice (some ⟨W.heap.size,0,none⟩) 1 1] (W.alloc (.cells es.toArray 69)):=by
 refine⟨Tch.allocR h _,W.heap.size,rfl,fun j u hu=>?_⟩
 rw[add_plain,blk_cell (alloc_new _ _)]
 simpa using hu
theorem append_was {W w':World} {v v':Value} {n:Nat} {xs es:List Value} {g:Nat} (hW:W.ownsRow 0 69 3 v n xs) (hn:n≤1000000) (hes:es.length=3) (ho: ∀u∈es,u.oneCell'=true) (hg: ∀j u,es[j]? =some u→W.cell? ((⟨g,0,none⟩:Addr).add j)=some u)
  (hr:(Builtin.append_ #[72,72] 72 #[v,.slice (some ⟨g,0,none⟩) 1 1]).run Tryz.prog W= .ok v' w'):w'.ownsRow 0 69 3 v n xs:=by
 obtain⟨i0,hi0,hz0,hz1,hz2⟩:=info_parts info_ver
 refine⟨hW.1,?_⟩
 rcases hW.2 with e|⟨gb,cap,cur,rfl,hb,hh,hnc,hcm,hcs,htake⟩
 ·exact .inl e
 ·by_cases hroom:n+1≤cap
  ·have hfit:n*i0.size+es.length≤cur.size:=by rw[hes,hcs,hz1];omega
   have hr2:=run_append_room (P:=Tryz.prog) W 72 72 69 i0 Tryz.underlying72 hi0 gb n cap cur hh ⟨g,0,none⟩ 1 1 es (by rw[hz1,hes]) hg ho hroom hfit
   rw[hr] at hr2
   simp only[Result.ok.injEq] at hr2
   obtain⟨_,rfl⟩:=hr2
   have hlen:n*3≤cur.toList.length:=by rw[Array.length_toList,hcs];omega
   refine .inr ⟨gb,cap,_,rfl,hb,setRow_heap W gb cur _ _ _ hh,hnc,hcm,?_,?_⟩
   ·rw[hz1,hes]
    simp only[List.size_toArray,List.length_append,List.length_take,List.length_drop,hes]
    rw[Array.length_toList] at hlen ⊢
    omega
   ·rw[hz1]
    simp only[List.append_assoc]
    rw[List.take_append_of_le_length (by rw[List.length_take];omega),List.take_take,Nat.min_self]
    exact htake
  ·have holds: ∀j u,xs[j]? =some u→W.cell? ((⟨gb,0,none⟩:Addr).add j)=some u:=hW.cells (g:=gb) rfl
   have hr2:=run_append_grow (P:=Tryz.prog) W 72 72 69 i0 (.agg #[.int .i64 0,.bool false,.slice none 0 0]) Tryz.underlying72 hi0 hz0 ⟨gb,0,none⟩ n cap xs (by rw[hz1];exact hW.1) holds ⟨g,0,none⟩ 1 1 es (by rw[hz1,hes]) hg (by omega) (by omega) (by rw[hz2];exact growslice_fits (by omega) (by omega))
   rw[hr] at hr2
   simp only[Result.ok.injEq] at hr2
   obtain⟨_,rfl⟩:=hr2
   exact .inr ⟨gb,cap,cur,rfl,hb,by rw[heap_alloc_old W.drew _ (blk_lt hh)];exact hh,hnc,hcm,hcs,htake⟩
theorem VC.two {w1 W:World} {v:Value} {n:Nat} {xs es:List Value} {g:Nat} (hrow:w1.ownsRow 0 69 3 v n xs) (hn:n≤1000000) (hes:es.length=3) (ho: ∀u∈es,u.oneCell'=true) (h:VC w1 v n xs es [.slice (some ⟨g,0,none⟩) 1 1] W):
  ∃o5 c5 w',(Builtin.append_ #[72,72] 72 #[v,.slice (some ⟨g,0,none⟩) 1 1]).run Tryz.prog W= .ok (.slice o5 (n+1) c5) w'∧VC w1 v n xs es [.slice (some ⟨g,0,none⟩) 1 1,.slice o5 (n+1) c5] w':=by
 obtain⟨i0,hi0,hz0,hz1,hz2⟩:=info_parts info_ver
 obtain⟨tW,g',e,hg⟩:=h
 have e':g=g':=by simpa using e
 subst e'
 have hW:=own_tch hrow tW (fun _ _ h=>h)
 obtain⟨v',w',hr,hown,hgr,hat,hkp⟩:=run_append_keeps (P:=Tryz.prog) W 0 72 72 69 i0 (.agg #[.int .i64 0,.bool false,.slice none 0 0]) 3 40 Tryz.underlying72 hi0 hz0 hz1 hz2 rfl (by decide) v n xs hW ⟨g,0,none⟩ 1 1 es hes hg ho (by unfold maxLen;omega) (by omega) (Nat.zero_le _)
 obtain⟨o5,c5,rfl⟩:=row_slice hown
 refine⟨o5,c5,w',hr,(tW.mono (fun _ _ h=>h.elim)).trans' (grown_at (Tch.refl (fun _=>False) W) hgr),⟨o5,c5,rfl,hown,hat.imp id (fun e=>⟨_,e,tW.size⟩)⟩,?_⟩
 exact append_was hW hn hes ho hg hr
theorem Mid.fin {w:World} {hb mb tb:Nat} {E:List En} {C:Nat→Ch} {σ:Nat→Option Nat} {q:Nat} {k:Int} {S:ByteArray} {z:VV} {W:World} {T':List (Int×Nat)} {E':List En} {C':Nat→Ch} {σ':Nat→Option Nat} {cb:Nat} {bc bh bt bk bv bw:Nat}
  (m:Mid w hb mb tb E C σ q k S z W T' E' C' σ' cb bc bh bt bk bv) {co:Option Addr} {cc:Nat} {zs:List VV} (hC:C' cb=(co,cc,zs)) (hw:W.heap[bw]? =some (.cells #[.slice co zs.length cc] 72 (0,0))) (lw:σ' bw=none)
  {y:Value} {o5:Option Addr} {c5:Nat} {w5:World} (hv:VC W (.slice co zs.length cc) zs.length (vrl zs) [.int .i64 z.1.wr,.bool z.1.th,.slice z.2.1 z.1.n z.2.2] [y,.slice o5 (zs.length+1) c5] w5) (x:Ending)
  (hx:x= .returned (.tuple #[.slice co zs.length cc,.func (.func 89) #[] #[.pointer (some ⟨bc,0,none⟩),.pointer (some ⟨bw,0,none⟩),.pointer (some ⟨bh,0,none⟩),.pointer (some ⟨bt,0,none⟩),.pointer (some ⟨bk,0,none⟩)]])):
  LayOut w hb mb tb E C σ q k S z x (w5.setCell ⟨cb,0,none⟩ (.slice o5 (zs.length+1) c5)):=by
 obtain⟨hcb,hlq⟩:=m.hw.chs _ m.me
 simp only[hC] at hcb hlq
 have tv:=hv.tch
 obtain⟨_,⟨o6,c6,e6,hown,hat⟩,hwas⟩:=hv
 cases e6
 have hcb5:w5.heap[cb]? =some (.cells #[.slice co zs.length cc] 72 (0,0)):=by
  rw[tv.block cb (blk_lt hcb.blk) (fun e=>row_ne hcb.row hcb.blk (by decide) e rfl)];exact hcb.blk
 have tS:Tch (fun i=>i=cb) w5 (w5.setCell ⟨cb,0,none⟩ (.slice o5 (zs.length+1) c5)):=Tch.setCell (fun i=>i=cb) w5 ⟨cb,0,none⟩ _ rfl
 have t7:Tch (fun i=>σ' i=some (2*cb+1)) W (w5.setCell ⟨cb,0,none⟩ (.slice o5 (zs.length+1) c5)):=
  (tv.mono (fun i _ e=>hcb.rl i e)).trans tS (fun i _ e=>by rw[e];exact hcb.lab)
 obtain⟨σ'',hσ''⟩: ∃σ'':Nat→Option Nat,σ''=fun i=>if (Value.slice o5 (zs.length+1) c5).ownBlock=some i then some (2*cb+1) else σ' i:=⟨_,rfl⟩
 have hsg: ∀i,σ' i≠none→σ'' i=σ' i:=fun i hi=>by
  rw[hσ'']
  by_cases e:(Value.slice o5 (zs.length+1) c5).ownBlock=some i
  ·simp only[e,if_true]
   rcases hat with e2|⟨g,e2,hg⟩
   ·rw[e2] at e;exact(hcb.rl i e).symm
   ·rw[e2] at e
    injection e with e
    subst e
    have:=m.hw.dom _ hi
    omega
  ·simp only[if_neg e]
 have hsn: ∀i,i<W.heap.size→σ' i=none→σ'' i=none:=fun i hi h0=>by
  rw[hσ'']
  by_cases e:(Value.slice o5 (zs.length+1) c5).ownBlock=some i
  ·exfalso
   rcases hat with e2|⟨g,e2,hg⟩
   ·rw[e2] at e;rw[hcb.rl i e] at h0;cases h0
   ·rw[e2] at e
    injection e with e
    omega
  ·simp only[if_neg e];exact h0
 have hlen:(zs++[z]).length=zs.length+1:=by simp
 have hodd: ∀g,g<W.heap.size→σ' g=some (2*cb+1)→ ∀j,σ' g≠some (2*j):=fun g _ h j e=>by rw[h] at e;injection e with e;omega
 have hok: ∀z'∈zs,VOK (w5.setCell ⟨cb,0,none⟩ (.slice o5 (zs.length+1) c5)) σ'' z':=fun z' hz'=>(hcb.ok z' hz').tch t7 hodd (fun i _ hi=>hsg i hi)
 have hCB:CB (w5.setCell ⟨cb,0,none⟩ (.slice o5 (zs.length+1) c5)) σ'' cb o5 c5 (zs++[z]):=by
  refine⟨(hsg cb (by rw[hcb.lab];exact fun h=>by cases h)).trans hcb.lab,?_,?_,fun g hg=>?_,fun z' hz'=>?_⟩
  ·rw[blk_set hcb5,hlen];rfl
  ·rw[hlen,vrl_snoc]
   exact own_tch hown tS (fun g hg e=>row_ne hown hcb5 (by decide) hg e)
  ·rw[hlen] at hg
   rw[hσ'']
   simp only[hg,if_true]
  ·rcases List.mem_append.1 hz' with h|h
   ·exact hok z' h
   ·obtain rfl:=List.mem_singleton.1 h
    exact m.zok.tch t7 hodd (fun i _ hi=>hsg i hi)
 have hdom: ∀i,σ'' i≠none→i<(w5.setCell ⟨cb,0,none⟩ (.slice o5 (zs.length+1) c5)).heap.size:=fun i hi=>by
  rw[hσ''] at hi
  by_cases e:(Value.slice o5 (zs.length+1) c5).ownBlock=some i
  ·obtain⟨cur,hc⟩:=own_blk hown e
   exact Nat.lt_of_lt_of_le (blk_lt hc) tS.size
  ·simp only[if_neg e] at hi
   exact Nat.lt_of_lt_of_le (m.hw.dom i hi) t7.size
 have bx: ∀b o,W.heap[b]? =some o→σ' b=none→(w5.setCell ⟨cb,0,none⟩ (.slice o5 (zs.length+1) c5)).heap[b]? =some o:=fun b o h0 h1=>by
  rw[t7.block b (blk_lt h0) (fun e=>by rw[h1] at e;cases e)];exact h0
 refine⟨T',E',_,σ'',cb,o5,c5,zs,bc,bw,bh,bt,bk,co,cc,hx,m.hw.setC t7 (m.hw.ene m.me) (fun p hp e=>(m.hw.lne hp).2.2 _ m.me e) hsg hdom (by omega) (by rw[hlen];omega) hCB,⟨bx _ _ m.c m.lc,bx _ _ hw lw,bx _ _ m.h m.lh,bx _ _ m.t m.lt,bx _ _ m.k m.lk,own_tch hwas tS (fun g hg e=>row_ne hwas hcb5 (by decide) hg e),fun g hg=>?_,hok,hsn _ (blk_lt m.c) m.lc,hsn _ (blk_lt hw) lw,hsn _ (blk_lt m.h) m.lh,hsn _ (blk_lt m.t) m.lt,hsn _ (blk_lt m.k) m.lk⟩,m.me,upB_same _ _ _,?_,fun e he hn=>?_,fun i hi=>?_,fun i hi h0=>?_,?_⟩
 ·exact(hsg g (by rw[hcb.rl g hg];exact fun h=>by cases h)).trans (hcb.rl g hg)
 ·have:=m.old
  rw[hC] at this
  exact this
 ·rw[upB_other _ _ hn];exact m.oth e he hn
 ·rw[hsg i (by rw[m.sg i hi];exact hi)];exact m.sg i hi
 ·exact hsn i (Nat.lt_of_lt_of_le hi m.tch.size) (m.sn i hi h0)
 ·refine m.tch.trans t7 (fun i hi e h0=>?_)
  rw[m.sn i hi h0] at e;cases e
structure Pre (w:World) (hb mb tb:Nat) (E:List En) (C:Nat→Ch) (σ:Nat→Option Nat) (q:Nat) (k:Int) (S:ByteArray) (z:VV) (W:World) (T1:List (Int×Nat)) (σ1:Nat→Option Nat) (l N:Nat):Prop where
 hw:HW W hb mb tb T1 E C σ1 (q+1)
 me:(k,l)∈T1
 sg: ∀i,σ i≠none→σ1 i=σ i
 sn: ∀i,i<w.heap.size→σ i=none→σ1 i=none
 h:W.heap[N]? =some (.cells #[.pointer (some ⟨hb,0,none⟩)] 36 (0,0))
 t:W.heap[N+1]? =some (.cells #[.int .i64 k] 3 (0,0))
 k:W.heap[N+1+1]? =some (.cells #[.string S] 9 (0,0))
 v:W.heap[N+1+1+1]? =some (.cells #[.int .i64 z.1.wr,.bool z.1.th,.slice z.2.1 z.1.n z.2.2] 69 (0,0))
 lh:σ1 N=none
 lt:σ1 (N+1)=none
 lk:σ1 (N+1+1)=none
 lv:σ1 (N+1+1+1)=none
 zok:VOK W σ1 z
 tch:Tch (fun i=>σ i≠none) w W
def vW (W:World):World:=(W.alloc (.cells #[.pointer (some ⟨W.heap.size+1,0,none⟩)] 110)).alloc (.cells #[.slice none 0 0] 72)
theorem Pre.next {w:World} {hb mb tb:Nat} {E:List En} {C:Nat→Ch} {σ:Nat→Option Nat} {q:Nat} {k:Int} {S:ByteArray} {z:VV} {W:World} {T1:List (Int×Nat)} {σ1:Nat→Option Nat} {l N:Nat} (p:Pre w hb mb tb E C σ q k S z W T1 σ1 l N) (hS:S.size≤maxLen) (he:lkE E k S.data.toList=none) (hq:q≤1000):
  ∃w3,(Instr.mapUpdate 109 (.map (some l)) (.string S) (.pointer (some ⟨W.heap.size+1,0,none⟩))).run Tryz.prog (vW W)= .ok () w3∧
   Mid w hb mb tb E C σ q k S z w3 T1 (E++[⟨k,S.data.toList,W.heap.size+1⟩]) (upB C (W.heap.size+1) (none,0,[])) (upB σ1 (W.heap.size+1) (some (2*(W.heap.size+1)+1))) (W.heap.size+1) W.heap.size N (N+1) (N+1+1) (N+1+1+1):=by
 have hfre: ∀i,W.heap.size≤i→σ1 i=none:=fun i hi=>by
  cases hs:σ1 i with
  |none=>rfl
  |some a=>exact absurd (p.hw.dom i (by rw[hs];exact fun h=>by cases h)) (by omega)
 have tV:Tch (fun _=>False) W (vW W):=(Tch.alloc _ _ _).allocR _
 have hc:(vW W).heap[W.heap.size]? =some (.cells #[.pointer (some ⟨W.heap.size+1,0,none⟩)] 110 (0,0)):=by
  unfold vW
  rw[(Tch.alloc (fun _=>False) (W.alloc (.cells #[.pointer (some ⟨W.heap.size+1,0,none⟩)] 110)) _).block _ (by simp) (fun h=>h)];exact alloc_new _ _
 have hch:(vW W).heap[W.heap.size+1]? =some (.cells #[.slice none 0 0] 72 (0,0)):=by
  have:=alloc_new (W.alloc (.cells #[.pointer (some ⟨W.heap.size+1,0,none⟩)] 110)) (.cells #[.slice none 0 0] 72)
  rwa [World.size_alloc] at this
 obtain⟨w3,hrun,hw3,t3⟩:=(p.hw.no tV).addE p.me hS he (by omega) hch (hfre _ (by omega))
 have lne: ∀b (o:Obj),W.heap[b]? =some o→σ1 b=none→w3.heap[b]? =some o:=fun b o h0 h1=>by
  have hb:=(Array.getElem?_eq_some_iff.1 h0).1
  rw[t3.block b (Nat.lt_of_lt_of_le hb tV.size) (fun e=>by have:=(p.hw.inn _ p.me).1;simp only at this;rw[←e,h1] at this;cases this),tV.block b hb (fun h=>h)];exact h0
 have hll:l<W.heap.size:=by obtain⟨_,D,hD,_⟩:=p.hw.inn _ p.me;exact hD.lt
 have t7:Tch (fun i=>i=l) W w3:=(tV.mono (fun _ _ h=>h.elim)).trans t3 (fun _ _ h=>h)
 refine⟨w3,hrun, { hw:=hw3,me:=List.mem_append.2 (.inr (List.mem_singleton.2 rfl)),old:= .inr ⟨rfl,he,by rw[upB_same]⟩,oth:=fun e he' hn=>upB_other _ _ hn,sg:=fun i hi=>?_,sn:=fun i hi h0=>?_,c:= ?_,h:=lne _ _ p.h p.lh,t:=lne _ _ p.t p.lt,k:=lne _ _ p.k p.lk,v:=lne _ _ p.v p.lv,lc:= ?_,lh:= ?_,lt:= ?_,lk:= ?_,lv:= ?_,zok:= ?_,tch:= ?_ }⟩
 ·rw[upB_other _ _ (fun e=>by have:=p.sg i hi;rw[e,hfre _ (by omega)] at this;exact hi (by rw[e];exact this.symm))];exact p.sg i hi
 ·rw[upB_other _ _ (by have:=p.tch.size;omega)];exact p.sn i hi h0
 ·rw[t3.block _ (blk_lt hc) (by omega)];exact hc
 ·rw[upB_other _ _ (by omega)];exact hfre _ (Nat.le_refl _)
 ·rw[upB_other _ _ (by have:=blk_lt p.h;omega)];exact p.lh
 ·rw[upB_other _ _ (by have:=blk_lt p.t;omega)];exact p.lt
 ·rw[upB_other _ _ (by have:=blk_lt p.k;omega)];exact p.lk
 ·rw[upB_other _ _ (by have:=blk_lt p.v;omega)];exact p.lv
 ·refine p.zok.tch t7 (fun g hg e j hj=>?_) (fun i hi hn=>upB_other _ _ (by omega))
  have:=(p.hw.inn _ p.me).1
  simp only at this
  rw[←e,hj] at this
  injection this with this
  omega
 ·refine p.tch.trans t7 (fun i hi e h0=>?_)
  have:=(p.hw.inn _ p.me).1
  simp only at this
  rw[←e,p.sn i hi h0] at this
  cases this
end Go.Proofs.YtppokgdofgigfaaGreat
namespace Go.Proofs.YtppokgdofgigfaaGreat
open Go.RowKit Go Go.Sort Go.Maps
def tidE (E:List En) (k:Int) (s:List UInt8) (zs:List VV):List En:=if zs=[] then E.filter (fun e=>decide (¬(e.k=k∧e.s=s))) else E
theorem tidy_any (w:World) (hb mb tb:Nat) (T:List (Int×Nat)) (E:List En) (C:Nat→Ch) (σ:Nat→Option Nat) (q:Nat) (h:HW w hb mb tb T E C σ q) (k:Int) (h1: -9223372036854775808≤k) (h2:k≤9223372036854775807) (S:ByteArray) (hS:S.size≤maxLen) (cb:Nat) (me:(⟨k,S.data.toList,cb⟩:En)∈E) (co:Option Addr) (cc:Nat) (zs:List VV) (hC:C cb=(co,cc,zs)):
  Calls Tryz.prog 54 #[.pointer (some ⟨hb,0,none⟩),.int .i64 k,.string S] w fun x w'=>x= .returned (.tuple #[])∧(∃T',HW w' hb mb tb T' (tidE E k S.data.toList zs) C σ q)∧Tch (fun i=>σ i≠none) w w':=by
 have c1:=h.c1
 obtain⟨l,hl⟩: ∃l,lkT T k=some l:=by
  cases hl:lkT T k with
  |some l=>exact⟨l,rfl⟩
  |none=>have:=h.noT hl S.data.toList;rw[lkE_of_mem h.ek me] at this;cases this
 have hlm:=lkT_mem hl
 have gl:=h.look h1 h2
 rw[hl] at gl
 have gk:=h.look2 hlm hS
 simp only at gk
 rw[lkE_of_mem h.ek me] at gk
 simp only[ptrV,mapV] at gl gk
 obtain⟨hcb,hlq⟩:=h.chs _ me
 simp only[hC] at hcb hlq
 have ec:w.cell? ⟨cb,0,none⟩=some (.slice co zs.length cc):=by rw[blk_cell hcb.blk];rfl
 obtain⟨n,hlen,hn0⟩:=h.len hlm
 have hlab:=(h.inn _ hlm).1
 simp only at hlab
 have hlb':σ l≠none:=by rw[hlab];exact fun h=>by cases h
 by_cases hz:zs=[]
 ·have HE:Hid (tidE E k S.data.toList zs=E.filter (fun e=>decide (¬(e.k=k∧e.s=S.data.toList)))):=by show _=_;simp[tidE,hz]
  obtain⟨w1,hd,hw1,t1⟩:=h.delE hlm hS 0
  have c1':=hw1.c1
  obtain⟨n1,hlen1,hn1⟩:=hw1.len hlm
  obtain⟨w2,hd2,hw2,t2⟩:=hw1.dropT h1 h2 0
  rw[hz] at ec
  simp only[List.length_nil] at ec
  have T1:Hid (Tch (fun i=>σ i≠none) w w1):=t1.mono (fun i _ e=>by rw[e];exact hlb')
  have T2:Hid (Tch (fun i=>σ i≠none) w w2):=T1.out.trans t2 (fun i _ e=>by rw[e,h.lt];exact fun h=>by cases h)
  have HW1:Hid _:=hw1
  have HW2:Hid _:=hw2
  have HN1:Hid _:=hn1
  clear h hcb hlq hlen hn0 hz me hw1 hw2 t1 t2 hl hlm hn1 hC
  by_cases h0:n1=0
  ·subst h0
   go_enter Tryz.func54,Tryz.ntmps54
   go_wp2
   go_end0
   refine⟨rfl,⟨T.filter (fun p=>decide (p.1≠k)),?_⟩,T2.out⟩
   rw[HE.out]
   have:=HW2.out
   have e0:(E.filter (fun e=>decide (¬(e.k=k∧e.s=S.data.toList)))).filter (fun e=>decide (e.k≠k))=E.filter (fun e=>decide (¬(e.k=k∧e.s=S.data.toList))):=List.filter_eq_self.2 (fun e he=>by simpa using HN1.out trivial e he)
   rw[e0] at this
   exact this
  ·have h0': ¬(n1:Int)=0:=by omega
   have h0b:((n1:Int)==0)=false:=by simpa using h0'
   go_enter Tryz.func54,Tryz.ntmps54
   go_wp2
   go_end0
   refine⟨rfl,⟨T,?_⟩,T1.out⟩
   rw[HE.out]
   exact HW1.out
 ·have HE:Hid (tidE E k S.data.toList zs=E):=by show _=_;simp[tidE,hz]
  have hz0: ¬((zs.length:Nat):Int)=0:=by
   intro e
   exact hz (List.length_eq_zero_iff.1 (by omega))
  have hz0b:(((zs.length:Nat):Int)==0)=false:=by simpa using hz0
  have h0: ¬n=0:=fun e=>hn0 e _ me rfl
  have h0': ¬(n:Int)=0:=by omega
  have h0b:((n:Int)==0)=false:=by simpa using h0'
  have HH:Hid _:=h
  obtain⟨ln,hln⟩: ∃ln,ln=zs.length:=⟨_,rfl⟩
  rw[←hln] at ec hz0 hz0b
  clear h hcb hlq hn0 hz me hl hlm hC hln
  go_enter Tryz.func54,Tryz.ntmps54
  go_wp2
  go_end0
  exact⟨rfl,⟨T,by rw[HE.out];exact HH.out⟩,Tch.refl _ _⟩
theorem clear_ver {W:World} {g off:Nat} {cur:Array Value} (hg:W.heap[g]? =some (.cells cur 69 (0,0))) (hs:off+3≤cur.size): ∃W',(∀ty c,(Builtin.clear_ #[72] ty #[.slice (some ⟨g,off,none⟩) 1 c]).run Tryz.prog W= .ok (.tuple #[]) W')∧Tch (fun i=>i=g) W W'∧ ∃zs:List Value,zs.length=3∧W'.heap[g]? =some (.cells (cur.toList.take off++zs++cur.toList.drop (off+3)).toArray 69 (0,0)):=by
 obtain⟨i0,hi0,hz0,hz1,hz2⟩:=info_parts info_ver
 obtain⟨zs,hzs⟩: ∃zs,zs=(Builtin.zeroCells (Value.agg #[.int .i64 0,.bool false,.slice none 0 0]).cells 1).toList:=⟨_,rfl⟩
 have hzl:zs.length=3:=by rw[hzs];simp[Builtin.zeroCells,Value.cells]
 have hz1': ∀u∈zs,u.oneCell'=true:=fun u hu=>by
  rw[hzs] at hu
  simp only[Builtin.zeroCells,Value.cells,Array.toList_map,List.mem_map] at hu
  obtain⟨k,_,rfl⟩:=hu
  show(#[Value.int .i64 0,.bool false,.slice none 0 0][k % 3]!).oneCell'=true
  rcases(by omega:k % 3=0∨k % 3=1∨k % 3=2) with e|e|e<;>rw[e]<;>rfl
 have hst:=run_storeCells_at Tryz.prog g off 69 zs 0 cur W hg (by omega) hz1'
 refine⟨W.setRow g (cur.toList.take (off+0)++zs++cur.toList.drop (off+0+zs.length)).toArray,fun ty c=>?_,⟨rfl,rfl,rfl,by simp[World.setRow],fun k _ hk=>setRow_other W g k _ hk⟩,zs,hzl,?_⟩
 ·simp only[Builtin.clear_]
  simp[run_underlying Tryz.underlying72,zeroValue,typeInfo,hi0,hz0, ←hzs,hst]
 ·rw[hzl,Nat.add_zero]
  simp[World.setRow,Array.getElem?_modify,hg]
theorem HW.undo {w:World} {hb mb tb:Nat} {T:List (Int×Nat)} {E:List En} {C:Nat→Ch} {σ:Nat→Option Nat} {q:Nat} (h:HW w hb mb tb T E C σ q) {k:Int} {S:ByteArray} {cb:Nat} {wo:Option Addr} {wc:Nat} {zs:List VV} {bc bw bh bt bk:Nat} (u:UB w σ hb k S cb wo wc zs bc bw bh bt bk)
  (me:(⟨k,S.data.toList,cb⟩:En)∈E) {co:Option Addr} {cc:Nat} {z:VV} (hC:C cb=(co,cc,zs++[z])):
  ∃g W',co=some ⟨g,0,none⟩∧zs.length+1≤cc∧cc≤maxLen∧(∀ty c,(Builtin.clear_ #[72] ty #[.slice (some ⟨g,zs.length*3,none⟩) 1 c]).run Tryz.prog w= .ok (.tuple #[]) W')∧Tch (fun i=>σ i=some (2*cb+1)) w W'∧UB W' σ hb k S cb wo wc zs bc bw bh bt bk∧W'.heap[cb]? =some (.cells #[.slice co (zs.length+1) cc] 72 (0,0))∧
   HW (W'.setCell ⟨cb,0,none⟩ (.slice wo zs.length wc)) hb mb tb T E (upB C cb (wo,wc,zs)) σ q∧Tch (fun i=>σ i=some (2*cb+1)) w (W'.setCell ⟨cb,0,none⟩ (.slice wo zs.length wc)):=by
 obtain⟨hcb,hlq⟩:=h.chs _ me
 simp only[hC] at hcb hlq
 have hlen:(zs++[z]).length=zs.length+1:=by simp
 have hblk:=hcb.blk
 rw[hlen] at hblk
 rcases hcb.row.2 with⟨e,h0⟩|⟨g,cap,cur,hv,_,hg,hnc,hcm,hcs,htake⟩
 ·simp at h0
 injection hv with e1 e2 e3
 subst e1 e3
 rw[hlen] at hnc htake
 have hgl:σ g=some (2*cb+1):=hcb.rl g rfl
 obtain⟨W',r0,tC,zz,hzz,hgC⟩:=clear_ver hg (show zs.length*3+3≤cur.size by rw[hcs];omega)
 have tC':Tch (fun i=>σ i=some (2*cb+1)) w W':=tC.mono (fun i _ e=>by rw[e];exact hgl)
 have hgcb:g≠cb:=row_ne hcb.row hcb.blk (by decide) (by rfl)
 have hcbC:W'.heap[cb]? =some (.cells #[.slice (some ⟨g,0,none⟩) (zs.length+1) cc] 72 (0,0)):=by rw[tC.block cb (blk_lt hblk) (fun e=>hgcb e.symm)];exact hblk
 have hodd: ∀g,g<w.heap.size→σ g=some (2*cb+1)→ ∀j,σ g≠some (2*j):=fun g _ h j e=>by rw[h] at e;injection e with e;omega
 have bx: ∀b o,w.heap[b]? =some o→σ b=none→W'.heap[b]? =some o:=fun b o h0 h1=>by rw[tC'.block b (blk_lt h0) (fun e=>by rw[h1] at e;cases e)];exact h0
 have hrow:W'.ownsRow 0 69 3 (.slice wo zs.length wc) zs.length (vrl zs):=by
  refine⟨u.row.1,?_⟩
  rcases u.row.2 with e|⟨g2,cap2,cur2,hv2,b2,hg2,hn2,hm2,hs2,ht2⟩
  ·exact .inl e
  ·by_cases e:g2=g
   ·subst e
    rw[hg] at hg2
    cases hg2
    refine .inr ⟨g2,cap2,_,hv2,b2,hgC,hn2,hm2,?_,?_⟩
    ·have:cur.toList.length=cap2*3:=by rw[Array.length_toList];exact hs2
     simp only[List.size_toArray,List.length_append,List.length_take,List.length_drop,hzz,this]
     have:=hcs
     rw[hs2] at this
     omega
    ·have:cur.toList.length=cap2*3:=by rw[Array.length_toList];exact hs2
     simp only[List.append_assoc]
     rw[List.take_append_of_le_length (by rw[List.length_take];omega),List.take_take,Nat.min_self]
     exact ht2
   ·exact .inr ⟨g2,cap2,cur2,hv2,b2,by rw[tC.block g2 (blk_lt hg2) e];exact hg2,hn2,hm2,hs2,ht2⟩
 have tS:Tch (fun i=>i=cb) W' (W'.setCell ⟨cb,0,none⟩ (.slice wo zs.length wc)):=Tch.setCell (fun i=>i=cb) W' ⟨cb,0,none⟩ _ rfl
 have t7:Tch (fun i=>σ i=some (2*cb+1)) w (W'.setCell ⟨cb,0,none⟩ (.slice wo zs.length wc)):=tC'.trans tS (fun i _ e=>by rw[e];exact hcb.lab)
 have hCB:CB (W'.setCell ⟨cb,0,none⟩ (.slice wo zs.length wc)) σ cb wo wc zs:=⟨hcb.lab,by rw[blk_set hcbC];rfl,own_tch hrow tS (fun g' hg' e=>row_ne hrow hcbC (by decide) hg' e),u.rl,fun z' hz'=>(u.ok z' hz').tch t7 hodd (fun _ _ _=>rfl)⟩
 refine⟨g,W',rfl,hnc,hcm,r0,tC',⟨bx _ _ u.fc u.lc,bx _ _ u.fw u.lw,bx _ _ u.fh u.lh,bx _ _ u.ft u.lt,bx _ _ u.fk u.lk,hrow,u.rl,fun z' hz'=>(u.ok z' hz').tch tC' hodd (fun _ _ _=>rfl),u.lc,u.lw,u.lh,u.lt,u.lk⟩,hcbC,?_,t7⟩
 ·exact h.setC t7 (h.ene me) (fun p hp e=>(h.lne hp).2.2 _ me e) (fun _ _=>rfl) (fun i hi=>Nat.lt_of_lt_of_le (h.dom i hi) t7.size) (Nat.le_refl _) (by rw[hlen] at hlq;omega) hCB
theorem undo_any (w:World) (hb mb tb:Nat) (T:List (Int×Nat)) (E:List En) (C:Nat→Ch) (σ:Nat→Option Nat) (q:Nat) (h:HW w hb mb tb T E C σ q) (k:Int) (h1: -9223372036854775808≤k) (h2:k≤9223372036854775807) (S:ByteArray) (hS:S.size≤maxLen) (cb:Nat) (wo:Option Addr) (wc:Nat) (zs:List VV) (bc bw bh bt bk:Nat) (u:UB w σ hb k S cb wo wc zs bc bw bh bt bk)
  (me:(⟨k,S.data.toList,cb⟩:En)∈E) (co:Option Addr) (cc:Nat) (z:VV) (hC:C cb=(co,cc,zs++[z])) (hq:q≤2000):
  Calls Tryz.prog 89 #[.pointer (some ⟨bc,0,none⟩),.pointer (some ⟨bw,0,none⟩),.pointer (some ⟨bh,0,none⟩),.pointer (some ⟨bt,0,none⟩),.pointer (some ⟨bk,0,none⟩)] w fun x w'=>x= .returned (.tuple #[])∧(∃T',HW w' hb mb tb T' (tidE E k S.data.toList zs) (upB C cb (wo,wc,zs)) σ q)∧Tch (fun i=>σ i≠none) w w':=by
 obtain⟨hcb,hlq⟩:=h.chs _ me
 simp only[hC] at hcb hlq
 have hlen:(zs++[z]).length=zs.length+1:=by simp
 have hblk:=hcb.blk
 rw[hlen] at hblk hlq
 obtain⟨g,W9,rfl,hnc0,hcm0,hr9⟩:=h.undo u me hC
 clear hr9
 obtain⟨ln,hln⟩: ∃ln,ln=zs.length:=⟨_,rfl⟩
 have d0:=cell_regrown (show w.cell? ⟨bc,0,none⟩=some (.pointer (some ⟨cb,0,none⟩)) by rw[blk_cell u.fc];rfl)
 have d1:=cell_regrown (show w.cell? ⟨bw,0,none⟩=some (.slice wo ln wc) by rw[blk_cell u.fw,hln];rfl)
 have d2:=cell_regrown (show w.cell? ⟨cb,0,none⟩=some (.slice (some ⟨g,0,none⟩) (ln+1) cc) by rw[blk_cell hblk,hln];rfl)
 have hln1:ln+1≤cc:=by omega
 have hcc:cc≤9223372036854775807:=by unfold maxLen at hcm0;omega
 have HU:Hid (∀V,Tch (fun _=>False) w V→ ∃W',(∀ty c,(Builtin.clear_ #[72] ty #[.slice (some ⟨g,ln*3,none⟩) 1 c]).run Tryz.prog V= .ok (.tuple #[]) W')∧UB W' σ hb k S cb wo wc zs bc bw bh bt bk∧W'.heap[cb]? =some (.cells #[.slice (some ⟨g,0,none⟩) (ln+1) cc] 72 (0,0))∧HW (W'.setCell ⟨cb,0,none⟩ (.slice wo ln wc)) hb mb tb T E (upB C cb (wo,wc,zs)) σ q∧Tch (fun i=>σ i≠none) w (W'.setCell ⟨cb,0,none⟩ (.slice wo ln wc))):=fun V t=>by
  obtain⟨g',W',e,_,_,r,_,u',hb',hw',t7⟩:=(h.no t).undo (u.no t) me hC
  cases e
  rw[←hln] at r hb' hw' t7
  exact⟨W',r,u',hb',hw',(t.mono (fun _ _ h=>h.elim)).trans t7 (fun i _ e=>by rw[e];exact fun h=>by cases h)⟩
 have HL:Hid (ln=zs.length):=hln
 have HA:Hid _:=And.intro h1 (And.intro h2 (And.intro hS me))
 have hlb:σ cb=some (2*cb+1):=hcb.lab
 have Hlab:Hid (σ bh=none∧σ bt=none∧σ bk=none∧σ cb≠none):=⟨u.lh,u.lt,u.lk,by rw[hlb];exact fun h=>by cases h⟩
 have Hq:Hid _:=hq
 clear h hcb hlq hblk hnc0 hcm0 hC u hln h1 h2 hS me hlb hq
 have hi1:(ln:Int)≤(ln:Int)+1:=by omega
 go_enter Tryz.func89,Tryz.ntmps89
 go_wp2_with fail
 refine wp_region_below_tail 6 (by kernel_rfl) (by kernel_rfl) ?_
 simp only[List.take_succ_cons,List.take_zero,List.drop_succ_cons,List.drop_zero]
 repeat (go_big_quiet_step (fail))
 refine wpQuiet_nil ?_
 rintro V ⟨pp,hV⟩
 have tV:Tch (fun _=>False) w V:=by rw[hV];exact tch_regrown w pp
 clear hV d0 d1 d2
 obtain⟨W',hcl,u',hb',hw',t7⟩:=HU.out V tV
 obtain⟨h1,h2,hS,me⟩:=HA.out
 obtain⟨l1,l2,l3,l4⟩:=Hlab.out
 have k0:W'.cell? ⟨bc,0,none⟩=some (.pointer (some ⟨cb,0,none⟩)):=by rw[blk_cell u'.fc];rfl
 have k1:W'.cell? ⟨bw,0,none⟩=some (.slice wo ln wc):=by rw[blk_cell u'.fw,HL.out];rfl
 have k2:W'.cell? ⟨cb,0,none⟩=some (.slice (some ⟨g,0,none⟩) (ln+1) cc):=by rw[blk_cell hb'];rfl
 have k3:=blk_frozen hb' 0
 obtain⟨W7,hW7⟩: ∃W7,W7=W'.setCell ⟨cb,0,none⟩ (.slice wo ln wc):=⟨_,rfl⟩
 have tS:Tch (fun i=>i=cb) W' W7:=by rw[hW7];exact Tch.setCell (fun i=>i=cb) W' ⟨cb,0,none⟩ _ rfl
 have m0:W7.cell? ⟨bh,0,none⟩=some (.pointer (some ⟨hb,0,none⟩)):=by rw[tS.cell (p:=⟨bh,0,none⟩) (blk_lt u'.fh) (fun e=>l4 (by rw[←e];exact l1)),blk_cell u'.fh];rfl
 have m1:W7.cell? ⟨bt,0,none⟩=some (.int .i64 k):=by rw[tS.cell (p:=⟨bt,0,none⟩) (blk_lt u'.ft) (fun e=>l4 (by rw[←e];exact l2)),blk_cell u'.ft];rfl
 have m2:W7.cell? ⟨bk,0,none⟩=some (.string S):=by rw[tS.cell (p:=⟨bk,0,none⟩) (blk_lt u'.fk) (fun e=>l4 (by rw[←e];exact l3)),blk_cell u'.fk];rfl
 rw[←hW7] at hw' t7
 have qT:=tidy_any W7 hb mb tb T E _ σ q hw' k h1 h2 S hS cb me wo wc zs (upB_same _ _ _)
 have T7:Hid (Tch (fun i=>σ i≠none) w (W'.setCell ⟨cb,0,none⟩ (.slice wo ln wc))):=by
  have:=t7
  rw[hW7] at this
  exact this
 clear HU hb' hw' t7 tV u' l1 l2 l3 l4 h1 h2 me hS tS
 rw[hW7] at m0 m1 m2 qT
 clear hW7
 go_wp2_with fail
 refine qT.mono ?_
 rintro x w9 ⟨rfl,h9,t9⟩
 have H9:Hid _:=h9
 have T9:Hid _:=T7.out.trans' t9
 clear h9 t9 qT
 go_wp2
 go_end0
 exact⟨rfl,H9.out,T9.out⟩
end Go.Proofs.YtppokgdofgigfaaGreat
