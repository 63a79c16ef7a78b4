import Derived.Test.YtppokgdofgigfaaGreatXTurn
set_option maxHeartbeats 2000000
set_option maxRecDepth 100000
namespace Go.Proofs.YtppokgdofgigfaaGreat
open Go.RowKit Go
theorem set_blk {g:Nat} {t:TypeId} : ∀(vs:List Value) (o:Nat) (W:World) (cur:Array Value),W.heap[g]? =some (.cells cur t (0,0))→o+vs.length≤cur.size→(W.setCells g o vs).heap[g]? =some (.cells (cur.toList.take o++vs++cur.toList.drop (o+vs.length)).toArray t (0,0))
 |[],o,W,cur,h,hs=>by
  have e:(cur.toList.take o++[]++cur.toList.drop (o+([]:List Value).length)).toArray=cur:=by simp
  rw[e];exact h
 |v::vs,o,W,cur,h,hs=>by
  simp only[List.length_cons] at hs
  have h2:=set_blk vs (o+1) (W.setCell ⟨g,o,none⟩ v) (cur.setIfInBounds o v) (blk_set h v) (by simp;omega)
  have ho:o<cur.toList.length:=by simp;omega
  have e:(cur.setIfInBounds o v).toList.take (o+1)++vs++(cur.setIfInBounds o v).toList.drop (o+1+vs.length)=cur.toList.take o++(v::vs)++cur.toList.drop (o+(v::vs).length):=by
   rw[Array.toList_setIfInBounds,List.drop_set_of_lt (by omega),List.take_set,List.take_succ_eq_append_getElem ho,List.set_append_right _ _ (by simp;omega)]
   have e3:o - (cur.toList.take o).length=0:=by simp;omega
   rw[e3]
   simp[Nat.add_assoc,Nat.add_comm 1]
  rw[e] at h2
  exact h2
theorem tch_cells (g:Nat): ∀(vs:List Value) (o:Nat) (W:World),Tch (fun i=>i=g) W (W.setCells g o vs)
 |[],_,_=>Tch.refl _ _
 |v::vs,o,W=>(Tch.setCell (fun i=>i=g) W ⟨g,o,none⟩ v rfl).trans' (tch_cells g vs (o+1) _)
theorem clear_at {W:World} {g off c:Nat} {cur:Array Value} (hg:W.heap[g]? =some (.cells cur 3 (0,0))) (hs:off+1≤cur.size): ∃W',(∀ty,(Builtin.clear_ #[23] ty #[.slice (some ⟨g,off,none⟩) 1 c]).run Tryz.prog W= .ok (.tuple #[]) W')∧Tch (fun i=>i=g) W W'∧ ∃zs:List Value,zs.length=1∧W'.heap[g]? =some (.cells (cur.toList.take off++zs++cur.toList.drop (off+1)).toArray 3 (0,0)):=by
 obtain⟨i0,hi0,hz0,hz1,hz2⟩:=info_parts info_int
 obtain⟨zs,hzs⟩: ∃zs,zs=(Builtin.zeroCells (Value.int .i64 0).cells 1).toList:=⟨_,rfl⟩
 have hzl:zs.length=1:=by rw[hzs];simp[Builtin.zeroCells,Value.cells]
 have hz1': ∀u∈zs,u.oneCell'=true:=fun u hu=>by
  rw[hzs] at hu
  simp only[Builtin.zeroCells,Value.cells,Array.toList_map,List.mem_map] at hu
  obtain⟨k,_,rfl⟩:=hu
  show(#[Value.int .i64 0][k % 1]!).oneCell'=true
  rw[show k % 1=0 by omega];rfl
 have hst:=run_storeCells_at Tryz.prog g off 3 zs 0 cur W hg (by omega) hz1'
 refine⟨W.setRow g (cur.toList.take (off+0)++zs++cur.toList.drop (off+0+zs.length)).toArray,fun ty=>?_,⟨rfl,rfl,rfl,by simp[World.setRow],fun k _ hk=>setRow_other W g k _ hk⟩,zs,hzl,?_⟩
 ·simp only[Builtin.clear_]
  simp[run_underlying Tryz.underlying23,zeroValue,typeInfo,hi0,hz0, ←hzs,hst]
 ·rw[hzl,Nat.add_zero]
  simp[World.setRow,Array.getElem?_modify,hg]
theorem delete_any (g n tc k:Nat) (cur:Array Value) (w:World) (hg:w.heap[g]? =some (.cells cur 3 (0,0))) (hs:cur.size=tc) (hn:n≤tc) (htc:tc≤9223372036854775807) (hk:k<n) (h1: ∀u∈cur.toList.take n,u.oneCell'=true):
  Calls Tryz.prog 64 #[.slice (some ⟨g,0,none⟩) n tc,.int .i64 k,.int .i64 (k+1)] w fun x w'=>(x= .returned (.slice (some ⟨g,0,none⟩) (n - 1) tc)∧ ∃cur',w'.heap[g]? =some (.cells cur' 3 (0,0))∧cur'.size=tc∧cur'.toList.take (n - 1)=cur.toList.take k++(cur.toList.take n).drop (k+1))∧Tch (fun i=>i=g) w w':=by
 obtain⟨i0,hi0,hz0,hz1,hz2⟩:=info_parts info_int
 obtain⟨m,hm⟩: ∃m,n=k+1+m:=⟨n - (k+1),by omega⟩
 subst hm
 obtain⟨news,hnews⟩: ∃news,news=(cur.toList.take (k+1+m)).drop (k+1):=⟨_,rfl⟩
 have hlen:news.length=m*1:=by rw[hnews];simp;omega
 have hnone: ∀u∈news,u.oneCell'=true:=fun u hu=>h1 u (by rw[hnews] at hu;exact List.mem_of_mem_drop hu)
 have hsrc: ∀j u,news[j]? =some u→w.drew.cell? ⟨g,k+1+j,none⟩=some u:=fun j u hu=>by
  have hj:=(List.getElem?_eq_some_iff.1 hu).1
  show w.cell? _=_
  rw[blk_cell hg, ←hu,hnews,List.getElem?_drop,List.getElem?_take,if_pos (by omega),Array.getElem?_toList]
 have hspare: ∀j,j<news.length→(w.drew.cell? ⟨g,0+k*1+j,none⟩).isSome=true∧w.drew.frozen? ⟨g,0+k*1+j,none⟩=false:=fun j hj=>by
  refine⟨?_,blk_frozen hg _⟩
  show(w.cell? _).isSome=true
  rw[blk_cell hg,Array.getElem?_eq_getElem (by omega)];rfl
 obtain⟨A,hA,hsA⟩: ∃A:Addr,(if tc=k+1 then some (⟨g,0,none⟩:Addr) else some ⟨g,k+1,none⟩)=some A∧Hid (∀j u,news[j]? =some u→w.drew.cell? (A.add j)=some u):=by
  by_cases h:tc=k+1
  ·refine⟨⟨g,0,none⟩,by simp[h],fun t u hu=>?_⟩
   have h0:news.length=0:=by rw[hlen];omega
   rw[List.length_eq_zero_iff.1 h0] at hu
   simp at hu
  ·exact⟨⟨g,k+1,none⟩,by simp[h],fun j u hu=>by rw[add_plain];exact hsrc j u hu⟩
 obtain⟨W1,hW1⟩: ∃W1,W1=w.drew.setCells g (0+k*1) news:=⟨_,rfl⟩
 have hb1:W1.heap[g]? =some (.cells (cur.toList.take k++news++cur.toList.drop (k+m)).toArray 3 (0,0)):=by
  have h2:=set_blk news (0+k*1) w.drew cur hg (by omega)
  rw[←hW1,hlen,Nat.zero_add,Nat.mul_one,Nat.mul_one] at h2
  exact h2
 have tW1:Tch (fun i=>i=g) w W1:=by rw[hW1];exact((Tch.refl _ w).drew).trans' (tch_cells g news _ _)
 obtain⟨W2,hcl,tW2,zs,hzl,hb2⟩:=clear_at (off:=k+m) (c:=tc - (k+m)) hb1 (by simp;omega)
 have HF:Hid (∃cur',W2.heap[g]? =some (.cells cur' 3 (0,0))∧cur'.size=tc∧cur'.toList.take (k+1+m - 1)=cur.toList.take k++news):=by
  refine⟨_,hb2,by simp;omega,?_⟩
  have e1:(cur.toList.take k++news).length=k+m:=by simp;omega
  rw[show k+1+m - 1=k+m by omega]
  simp only[]
  rw[List.take_append_of_le_length (l₁:=cur.toList.take k++news) (by omega)]
  rw[←e1,List.take_append_of_le_length (by simp),List.take_append_of_le_length (by simp)]
  rw[List.take_of_length_le (Nat.le_refl _),List.take_of_length_le (Nat.le_refl _)]
 have HT:Hid (Tch (fun i=>i=g) w W2):=tW1.trans' tW2
 rw[←hnews]
 have s1:Hid (news.length=m*1):=hlen
 have s2:Hid (∀u∈news,u.oneCell'=true):=hnone
 have s3:Hid _:=hspare
 have hW:Hid (W1=w.drew.setCells g (0+k*1) news):=hW1
 clear hW1 hspare hnone hlen hsrc hb1 hb2 tW1 tW2 hg h1 hnews hzl
 have hic:k≤tc:=by omega
 have hjc:k+1≤tc:=by omega
 go_enter Tryz.func64,Tryz.ntmps64
 go_wp2_with fail
 rename_i hKn
 have hi1:(0:Int)≤(k:Int)+1:=by omega
 have hi2:(k:Int)+1≤(k:Int)+1+m:=by omega
 go_region_law (refine step_append_room rfl (.tmp 22) (.tmp 25) 23 rfl 3 i0 1 Tryz.underlying23 hi0 hz1 g 0 k tc (by simp[Act.eval,Act.put]) A m (tc - (k+1)) news (by simp[Act.eval,Act.put]) s1.out hsA.out s2.out (by omega) s3.out ?_;rw[←hW.out])
 go_simp
 refine hKn _ _ ?_
 clear hKn
 have hj1:(k:Int)+m≤k+1+m:=by omega
 have hj2: ¬tc=k+m:=by omega
 have hj3:k+1+m - (k+m)=1:=by omega
 go_wp2_with fail
 go_ret
 exact⟨⟨by rw[show k+1+m - 1=k+m by omega];rfl,HF.out⟩,HT.out⟩
end Go.Proofs.YtppokgdofgigfaaGreat
namespace Go.Proofs.YtppokgdofgigfaaGreat
open Go.RowKit Go Go.Sort
def setS (s:Nat) (t:Tx):Tx:= { t with st:=s }
def Mg.prep (m:Mg) (x:Nat):Mg:=⟨m.nx,m.on,upd m.tx x (setS 2)⟩
def Mg.fin (m:Mg) (x s:Nat):Mg:=⟨m.nx,m.on.filter (fun y=>decide (y≠x)),upd m.tx x (setS s)⟩
theorem Wf.setS {m:Mg} (h:Wf m) {m':Mg} {x s:Nat} (hn:m'.nx=m.nx) (ht:m'.tx=upd m.tx x (setS s)) (hs:1≤s∧s≤4) (hon:m'.on=(m'.tx.filter (fun t=>t.st<3)).map (·.x)):Wf m':=by
 have hm: ∀u∈m'.tx, ∃u0∈m.tx,u=u0∨u=Go.Proofs.YtppokgdofgigfaaGreat.setS s u0:=fun u hu=>by
  rw[ht] at hu
  obtain⟨u0,hu0,e⟩:=mem_upd hu
  refine⟨u0,hu0,?_⟩
  split at e
  ·exact Or.inr e
  ·exact Or.inl e
 have e: ∀u:Tx,(if u.x=x then Go.Proofs.YtppokgdofgigfaaGreat.setS s u else u).x=u.x:=fun u=>by split<;>rfl
 have e2: ∀u:Tx,(if u.x=x then Go.Proofs.YtppokgdofgigfaaGreat.setS s u else u).ps=u.ps:=fun u=>by split<;>rfl
 refine⟨by rw[hn];exact h.n1,by rw[hn];exact h.n2,?_,?_,?_,?_,?_,?_,?_,?_,hon⟩
 ·intro u hu
  rw[hn]
  obtain⟨u0,hu0,rfl|rfl⟩:=hm u hu
  ·exact h.lo u hu0
  ·exact h.lo u0 hu0
 ·intro u hu p hp
  rw[hn]
  obtain⟨u0,hu0,rfl|rfl⟩:=hm u hu
  ·exact h.pl u hu0 p hp
  ·exact h.pl u0 hu0 p hp
 ·intro u hu
  obtain⟨u0,hu0,rfl|rfl⟩:=hm u hu
  ·exact h.st u hu0
  ·exact hs
 ·intro u hu
  obtain⟨u0,hu0,rfl|rfl⟩:=hm u hu
  ·exact h.ln u hu0
  ·exact h.ln u0 hu0
 ·intro u hu
  obtain⟨u0,hu0,rfl|rfl⟩:=hm u hu
  ·exact h.ar u hu0
  ·exact h.ar u0 hu0
 ·rw[ht,upd,List.pairwise_map]
  refine h.up.imp (fun {a b} hab=>?_)
  rw[e,e];exact hab
 ·rw[ht,upd,List.pairwise_map]
  refine h.ap.imp (fun {a b} hab=>?_)
  rw[e,e2,e2];exact hab
 ·intro u hu
  obtain⟨u0,hu0,rfl|rfl⟩:=hm u hu
  ·exact h.pu u hu0
  ·exact h.pu u0 hu0
theorem Wf.prep {m:Mg} (h:Wf m) {t:Tx} (ht:t∈m.tx) (hst:t.st<3):Wf (m.prep t.x):=by
 refine h.setS (x:=t.x) (s:=2) rfl rfl ⟨by omega,by omega⟩ ?_
 show m.on=_
 rw[h.on]
 have key: ∀L:List Tx,(∀u∈L,u∈m.tx)→(L.filter (fun t=>t.st<3)).map (·.x)=((upd L t.x (Go.Proofs.YtppokgdofgigfaaGreat.setS 2)).filter (fun t=>t.st<3)).map (·.x):=by
  intro L
  induction L with
  |nil=>intro _;rfl
  |cons u r ih=>
   intro hL
   have ih:=ih (fun v hv=>hL v (by simp[hv]))
   simp only[upd,List.map_cons,List.filter_cons] at ih ⊢
   by_cases hx:u.x=t.x
   ·have e:=h.uniq u (hL u (by simp)) t ht hx
    subst e
    simp only[if_pos]
    simp[hst,Go.Proofs.YtppokgdofgigfaaGreat.setS,ih]
   ·simp only[if_neg hx]
    by_cases h2:u.st<3
    ·simp[h2,ih]
    ·simp[h2,ih]
 exact key m.tx (fun _ h=>h)
theorem Wf.fin {m:Mg} (h:Wf m) {x s:Nat} (hs:3≤s∧s≤4):Wf (m.fin x s):=by
 refine h.setS (x:=x) (s:=s) rfl rfl ⟨by omega,by omega⟩ ?_
 show m.on.filter _=((upd m.tx x (Go.Proofs.YtppokgdofgigfaaGreat.setS s)).filter _).map _
 rw[h.on]
 have key: ∀L:List Tx,((L.filter (fun t=>t.st<3)).map (·.x)).filter (fun y=>decide (y≠x))=((upd L x (Go.Proofs.YtppokgdofgigfaaGreat.setS s)).filter (fun t=>t.st<3)).map (·.x):=by
  intro L
  induction L with
  |nil=>rfl
  |cons u r ih=>
   simp only[upd,List.map_cons,List.filter_cons] at ih ⊢
   by_cases hx:u.x=x
   ·simp only[if_pos hx]
    have e:decide ((Go.Proofs.YtppokgdofgigfaaGreat.setS s u).st<3)=false:=decide_eq_false (by simp only[Go.Proofs.YtppokgdofgigfaaGreat.setS];omega)
    rw[e]
    simp only[Bool.false_eq_true,if_false]
    rw[←ih]
    by_cases h2:u.st<3
    ·simp[h2,hx]
    ·simp[h2]
   ·simp only[if_neg hx]
    by_cases h2:u.st<3
    ·simp only[h2,decide_true,if_true,List.map_cons]
     rw[List.filter_cons_of_pos (by simp[hx]),ih]
    ·simp only[h2,decide_false,Bool.false_eq_true,if_false]
     exact ih
 exact key m.tx
theorem fnd_setS (L:List Tx) (x s:Nat) (k:Int):fnd (upd L x (setS s)) k=(fnd L k).map (fun p=>(if p.1.x=x then setS s p.1 else p.1,p.2)):=fnd_upd x (setS s) (fun _=>⟨rfl,rfl⟩) k L
theorem lk_setS (bl:Nat→Nat) (L:List Tx) (x s:Nat) (k:Int):lkB bl (upd L x (setS s)) k=lkB bl L k:=by
 simp only[lkB,fnd_setS]
 cases fnd L k with
 |none=>rfl
 |some a=>
  simp only[Option.map_some]
  have e:(if a.1.x=x then setS s a.1 else a.1).x=a.1.x:=by split<;>rfl
  rw[e]
theorem del_filter: ∀(l:List Nat) (p x:Nat),l.Pairwise (· < ·)→l[p]? =some x→l.take p++l.drop (p+1)=l.filter (fun y=>decide (y≠x))
 |[],p,x,_,h=>by simp at h
 |a::r,0,x,hp,h=>by
  simp only[List.getElem?_cons_zero,Option.some.injEq] at h
  subst h
  simp only[List.take_zero,List.nil_append,List.drop_succ_cons,List.drop_zero]
  rw[List.filter_cons_of_neg (by simp)]
  symm
  rw[List.filter_eq_self]
  intro y hy
  have:=(List.pairwise_cons.1 hp).1 y hy
  simp;omega
 |a::r,p+1,x,hp,h=>by
  have ih:=del_filter r p x (List.pairwise_cons.1 hp).2 (by simpa using h)
  have hx:x∈r:=List.mem_of_getElem? (by simpa using h)
  have:=(List.pairwise_cons.1 hp).1 x hx
  simp only[List.take_succ_cons,List.drop_succ_cons,List.cons_append]
  rw[ih,List.filter_cons_of_pos (by simp;omega)]
theorem MG.setS {w w1 w':World} {b:Nat} {m:Mg} {σ:Nat→Option Nat} {mb:Nat} {bl:Nat→Nat} (h:MG w b m σ mb bl) {t:Tx} (ht:t∈m.tx) {s:Nat} (hw1:Tch (fun _=>False) w w1) (hw':w'=w1.setCell ⟨bl t.x,1,none⟩ (.int .i64 s)):
  XB w' σ (bl t.x) (Go.Proofs.YtppokgdofgigfaaGreat.setS s t)∧Tch (fun i=>i=bl t.x) w w':=by
 have hx:=(h.xs t ht).same hw1
 have t2:Tch (fun i=>i=bl t.x) w1 w':=by rw[hw'];exact Tch.setCell _ _ _ _ rfl
 refine⟨?_,(hw1.mono (fun _ _ h=>h.elim)).trans' t2⟩
 obtain⟨v,hb,hr,hl⟩:=hx.blk
 refine⟨hx.lab,⟨v,by rw[hw'];exact blk_set hb _,own_tch hr t2 (fun g hg e=>?_),hl⟩⟩
 obtain⟨cur,hc⟩:=own_blk hr hg
 rw[e,hb] at hc
 cases hc
def TurnOut (m:Mg) (b:Nat) (k:Int) (to:Nat) (M:Tx→Mg) (w:World) (F:Nat→Prop) (x:Ending) (w':World):Prop:=
 ((∀t,fnd m.tx k≠some (t, -1))→x= .returned (.int .i64 70)∧Tch (fun _=>False) w w')∧
 (∀t,fnd m.tx k=some (t, -1)→((to≤t.st∨3≤t.st)→x= .returned (.int .i64 71)∧Tch (fun _=>False) w w')∧(¬(to≤t.st∨3≤t.st)→x= .returned (.int .i64 0)∧MF w' b (M t) F∧Kept F w w'))
theorem prepare_f (b:Nat) (m:Mg) (w:World) (F:Nat→Prop) (h:MF w b m F) (k:Int) (h1: -9223372036854775808≤k) (h2:k≤9223372036854775807):
  Calls Tryz.prog 23 #[.pointer (some ⟨b,0,none⟩),.int .i64 k] w fun x w'=>TurnOut m b k 2 (fun t=>m.prep t.x) w F x w':=by
 obtain⟨σ,mb,bl,h,hF⟩:=h
 have c0:=h.c0
 by_cases hp: ∃t,fnd m.tx k=some (t, -1)
 ·obtain⟨t,hf⟩:=hp
  have q:Calls Tryz.prog 51 #[.map (some mb),.int .i64 k,.int .i64 2] w _:=turn_some b m σ mb bl w h k h1 h2 2 hf
  have hU: ∀u,fnd m.tx k=some (u, -1)→u=t:=fun u hu=>by
   rw[hf] at hu
   injection hu with hu
   injection hu with hu
   exact hu.symm
  obtain⟨_,_,_,hst,hlk,htm⟩:=h.at hf
  have HK:Hid (∀w',(∃w1,Tch (fun _=>False) w w1∧w'=w1.setCell ⟨bl t.x,1,none⟩ (.int .i64 2))→t.st<3→MF w' b (m.prep t.x) F∧Kept F w w'):=fun w' ⟨w1,t1,e⟩ hs3=>by
   obtain⟨hX,T⟩:=h.setS htm (s:=2) t1 e
   obtain⟨ov,hB,hon,hlab⟩:=h.blk
   obtain⟨nn,D,hnn,hD,hkD⟩:=h.mp
   have hnb: ∀z,σ z=some b→z≠bl t.x:=fun z hz e=>by
    rw[e,(h.xs t htm).lab] at hz
    injection hz with hz
    exact h.nb t htm hz
   have h9:=h.chg (m':=m.prep t.x) (σ':=σ) htm (Go.Proofs.YtppokgdofgigfaaGreat.setS 2) (fun _=>rfl) rfl (h.wf.prep htm hs3) (fun _ _=>rfl) (fun z hz=>Nat.lt_of_lt_of_le (h.lt z hz) T.size) T (fun z _ hz=>Or.inr (by rw[hz];exact(h.xs t htm).lab)) ⟨ov,(T.block b h.bl' (hnb b h.lb)).trans hB,own_tch hon T (fun z hz=>hnb z (hlab z hz)),hlab⟩ ⟨nn,D,hnn,ownsMap_tch hD T (hnb mb h.lm),fun k' zd=>by rw[hkD];exact congrArg (fun o=>atE o zd) (lk_setS bl m.tx t.x 2 k').symm⟩ hX
   exact MF.stp hF h9.1 h9.2
  have Hf:Hid (fnd m.tx k=some (t, -1)):=hf
  have HU:Hid _:=hU
  clear hf hU hlk htm hst h hF
  go_enter Tryz.func23,Tryz.ntmps23
  go_wp2_with fail
  refine q.mono ?_
  rintro x w1 ⟨hA,hBB⟩
  clear q
  by_cases hc:2≤t.st∨3≤t.st
  ·obtain⟨rfl,T⟩:=hA hc
   have HT:Hid _:=T
   have Hc:Hid _:=hc
   clear hA hBB T c0
   go_wp2
   go_ret
   refine⟨fun hn=>absurd Hf.out (hn t),fun u hu=>?_⟩
   obtain rfl:=HU.out u hu
   exact⟨fun _=>⟨rfl,HT.out⟩,fun hn=>absurd Hc.out hn⟩
  ·obtain⟨rfl,hw⟩:=hBB hc
   have HM:Hid _:=HK.out w1 hw (by omega)
   have Hc:Hid _:=hc
   clear hA hBB hw c0
   go_wp2
   go_ret
   refine⟨fun hn=>absurd Hf.out (hn t),fun u hu=>?_⟩
   obtain rfl:=HU.out u hu
   exact⟨fun hn=>absurd hn Hc.out,fun _=>⟨rfl,HM.out⟩⟩
 ·have q:Calls Tryz.prog 51 #[.map (some mb),.int .i64 k,.int .i64 2] w _:=turn_none b m σ mb bl w h k h1 h2 2 (fun t e=>hp ⟨t,e⟩)
  have Hp:Hid _:=hp
  clear hp h hF
  go_enter Tryz.func23,Tryz.ntmps23
  go_wp2_with fail
  refine q.mono ?_
  rintro x w1 ⟨rfl,T⟩
  have HT:Hid _:=T
  clear q T c0
  go_wp2
  go_ret
  exact⟨fun _=>⟨rfl,HT.out⟩,fun t e=>absurd ⟨t,e⟩ Hp.out⟩
theorem on_up {m:Mg} (h:Wf m):m.on.Pairwise (· < ·):=by
 rw[h.on,List.pairwise_map]
 exact(h.up.filter _).imp (fun h=>h)
theorem end_f (b:Nat) (m:Mg) (w:World) (F:Nat→Prop) (h:MF w b m F) (k:Int) (h1: -9223372036854775808≤k) (h2:k≤9223372036854775807) (s:Nat) (hs:3≤s∧s≤4):
  Calls Tryz.prog 39 #[.pointer (some ⟨b,0,none⟩),.int .i64 k,.int .i64 s] w fun x w'=>(∃e:Nat,x= .returned (.int .i64 e))∧TurnOut m b k s (fun t=>m.fin t.x s) w F x w':=by
 obtain⟨σ,mb,bl,h,hF⟩:=h
 have c0:=h.c0
 by_cases hp: ∃t,fnd m.tx k=some (t, -1)
 ·obtain⟨t,hf⟩:=hp
  have q:=turn_some b m σ mb bl w h k h1 h2 s hf
  have hU: ∀u,fnd m.tx k=some (u, -1)→u=t:=fun u hu=>by
   rw[hf] at hu
   injection hu with hu
   injection hu with hu
   exact hu.symm
  obtain⟨_,_,_,hst,hlk,htm⟩:=h.at hf
  have htk:(t.x:Int)=k:=by
   obtain⟨_,⟨_,e⟩|⟨_,_,e,_⟩⟩:=fnd_mem hf
   ·exact e
   ·omega
  have Hf:Hid (fnd m.tx k=some (t, -1)):=hf
  have HU:Hid _:=hU
  have Hh:Hid (MG w b m σ mb bl):=h
  have HFF:Hid _:=hF
  have Htm:Hid (t∈m.tx):=htm
  have Htk:Hid ((t.x:Int)=k):=htk
  clear hf hU hlk htm hst h hF htk
  go_enter Tryz.func39,Tryz.ntmps39
  go_wp2_with fail
  refine q.mono ?_
  rintro x w1 ⟨hA,hBB⟩
  clear q
  by_cases hc:s≤t.st∨3≤t.st
  ·obtain⟨rfl,T⟩:=hA hc
   have HT:Hid _:=T
   have Hc:Hid _:=hc
   clear hA hBB T c0
   go_wp2
   go_ret
   refine⟨⟨71,rfl⟩,fun hn=>absurd Hf.out (hn t),fun u hu=>?_⟩
   obtain rfl:=HU.out u hu
   exact⟨fun _=>⟨rfl,HT.out⟩,fun hn=>absurd Hc.out hn⟩
  ·obtain⟨rfl,hw⟩:=hBB hc
   obtain⟨w0,tw0,hw0⟩:=hw
   have hM:=Hh.out
   obtain⟨hX,T⟩:=hM.setS Htm.out (s:=s) tw0 hw0
   obtain⟨ov,hB,hon,hlab⟩:=hM.blk
   have hnb: ∀z,σ z=some b→z≠bl t.x:=fun z hz e=>by
    rw[e,(hM.xs t Htm.out).lab] at hz
    injection hz with hz
    exact hM.nb t Htm.out hz
   have hB1:=(T.block b hM.bl' (hnb b hM.lb)).trans hB
   have hon1:=own_tch hon T (fun z hz=>hnb z (hlab z hz))
   have hxo:t.x∈m.on:=by
    rw[hM.wf.on]
    exact List.mem_map.2 ⟨t,List.mem_filter.2 ⟨Htm.out,by simp;omega⟩,rfl⟩
   obtain⟨p,hpx⟩:=List.mem_iff_getElem?.1 hxo
   have hpl:=(List.getElem?_eq_some_iff.1 hpx).1
   have hol:=on_le hM.wf
   rcases hon1.2 with⟨_,h0⟩|⟨g,cap,cur,rfl,_,hg,hnc,hcm,hcs,htk⟩
   ·omega
   rw[Nat.mul_one] at hcs htk
   have hcl: ∀j n,m.on[j]? =some n→w1.cell? ⟨g,j,none⟩=some (.int .i64 (n:Nat)):=fun j n hj=>by
    have h9:=hon1.cells (g:=g) rfl j (.int .i64 (n:Nat)) (by simp[icl,hj])
    rw[add_plain,Nat.zero_add] at h9
    exact h9
   have Q1:=bs_any m.on g cap p k w1 hcl hol (on_up hM.wf) ⟨t.x,hpx,Htk.out⟩
   have Q2:=delete_any g m.on.length cap p cur w1 hg hcs hnc hcm hpl (fun u hu=>by rw[htk] at hu;exact icl_one _ u hu)
   have c2:w1.cell? ⟨b,2,none⟩=some (.slice (some ⟨g,0,none⟩) m.on.length cap):=by rw[blk_cell hB1];rfl
   obtain⟨n,hn⟩: ∃n,n=m.on.length:=⟨_,rfl⟩
   rw[←hn] at Q1 Q2 c2 hpl hol hnc
   have hgb:g≠b:=fun e=>by rw[e,hB1] at hg;cases hg
   have hB1':w1.heap[b]? =some (.cells #[.map (some mb),.int .i64 m.nx,.slice (some ⟨g,0,none⟩) n cap] 83 (0,0)):=by rw[hn];exact hB1
   have HEND:Hid (∀w2,(∃cur',w2.heap[g]? =some (.cells cur' 3 (0,0))∧cur'.size=cap∧cur'.toList.take (n - 1)=cur.toList.take p++(cur.toList.take n).drop (p+1))→Tch (fun i=>i=g) w1 w2→MF (w2.setCell ⟨b,2,none⟩ (.slice (some ⟨g,0,none⟩) (n - 1) cap)) b (m.fin t.x s) F∧Kept F w (w2.setCell ⟨b,2,none⟩ (.slice (some ⟨g,0,none⟩) (n - 1) cap))):=fun w2 ⟨cur',hg2,hs2,ht2⟩ t2=>by
    have t3:Tch (fun i=>i=b) w2 (w2.setCell ⟨b,2,none⟩ (.slice (some ⟨g,0,none⟩) (n - 1) cap)):=Tch.setCell _ _ _ _ rfl
    have hB2:=(t2.block b (blk_lt hB1') (fun e=>hgb e.symm)).trans hB1'
    have hgσ:=hlab g rfl
    have TT:Tch (fun i=>i=bl t.x∨i=g∨i=b) w (w2.setCell ⟨b,2,none⟩ (.slice (some ⟨g,0,none⟩) (n - 1) cap)):=((T.mono (fun i _ e=>Or.inl e)).trans (t2.mono (fun i _ e=>Or.inr (Or.inl e))) (fun _ _ h=>h)).trans (t3.mono (fun i _ e=>Or.inr (Or.inr e))) (fun _ _ h=>h)
    have h23:Tch (fun i=>i=g∨i=b) w1 (w2.setCell ⟨b,2,none⟩ (.slice (some ⟨g,0,none⟩) (n - 1) cap)):=(t2.mono (fun i _ e=>Or.inl e)).trans (t3.mono (fun i _ e=>Or.inr e)) (fun _ _ h=>h)
    obtain⟨nn,D,hnn,hD,hkD⟩:=hM.mp
    have hmg:mb≠g:=fun e=>by
     have hD1:=ownsMap_tch hD T (hnb mb hM.lm)
     obtain⟨es,clock,hh,_⟩:=hD1
     rw[e,hg] at hh
     cases hh
    have hfl:(m.fin t.x s).on.length=n - 1∧icl (m.fin t.x s).on=cur.toList.take p++(cur.toList.take n).drop (p+1):=by
     have e1:(m.fin t.x s).on=m.on.take p++m.on.drop (p+1):=(del_filter m.on p t.x (on_up hM.wf) hpx).symm
     rw[e1]
     refine⟨by simp;omega,?_⟩
     have e2:cur.toList.take p=(icl m.on).take p:=by rw[←htk,List.take_take,Nat.min_eq_left (by omega)]
     have e3:cur.toList.take n=icl m.on:=by rw[hn];exact htk
     rw[e2,e3]
     simp[icl,List.map_take,List.map_drop]
    have h9:=hM.chg (m':=m.fin t.x s) (σ':=σ) Htm.out (Go.Proofs.YtppokgdofgigfaaGreat.setS s) (fun _=>rfl) rfl (hM.wf.fin hs) (fun _ _=>rfl) (fun z hz=>Nat.lt_of_lt_of_le (hM.lt z hz) TT.size) TT (fun z _ hz=>?_) ⟨.slice (some ⟨g,0,none⟩) (n - 1) cap,blk_set hB2 _,?_,fun z hz=>?_⟩ ⟨nn,D,hnn,ownsMap_tch (ownsMap_tch hD T (hnb mb hM.lm)) h23 (fun e=>e.elim hmg hM.mne),fun k' zd=>by rw[hkD];exact congrArg (fun o=>atE o zd) (lk_setS bl m.tx t.x s k').symm⟩ (hX.tch h23 (fun z _ hz e=>?_) (fun _ _ h=>h))
    ·exact MF.stp HFF.out h9.1 h9.2
    ·rcases hz with hz|hz|hz
     ·rw[hz];exact Or.inr (hM.xs t Htm.out).lab
     ·rw[hz];exact Or.inl hgσ
     ·rw[hz];exact Or.inl hM.lb
    ·rw[hfl.1,hfl.2]
     refine⟨?_,Or.inr ⟨g,cap,cur',rfl,Nat.zero_le _,(t3.block g (blk_lt hg2) hgb).trans hg2,by omega,hcm,by rw[Nat.mul_one];exact hs2,by rw[Nat.mul_one];exact ht2⟩⟩
     rw[←hfl.2,icl_len,hfl.1,Nat.mul_one]
    ·have e:g=z:=by simpa[Value.ownBlock] using hz
     rw[←e];exact hgσ
    ·rcases hz with hz|hz
     ·rw[hz,hgσ] at e
      injection e with e
      exact hM.nb t Htm.out e.symm
     ·rw[hz,hM.lb] at e
      injection e with e
      exact hM.nb t Htm.out e.symm
   have HB:Hid (∀w2,Tch (fun i=>i=g) w1 w2→w2.cell? ⟨b,2,none⟩=some (.slice (some ⟨g,0,none⟩) n cap)∧w2.frozen? ⟨b,2,none⟩=false):=fun w2 t2=>by
    have hB2:=(t2.block b (blk_lt hB1') (fun e=>hgb e.symm)).trans hB1'
    exact⟨by rw[blk_cell hB2];rfl,blk_frozen hB2 2⟩
   have Hc:Hid _:=hc
   have hpI:(p:Int)+1≤2147483648:=by omega
   clear hA hBB c0 hM hX T hB hon hlab hnb hB1 hon1 hxo hpx hcl hg hcs htk hn hgb hB1' tw0 hw0 hc hnc hcm
   go_wp2_with fail
   refine Q1.mono ?_
   rintro x w2 ⟨rfl,hw2⟩
   obtain rfl:=hw2.symm
   clear Q1 hw2
   go_wp2_with fail
   refine Q2.mono ?_
   rintro x w2 ⟨⟨rfl,hcur⟩,t2⟩
   have HFin:Hid _:=HEND.out w2 hcur t2
   obtain⟨d2,f2⟩:=HB.out w2 t2
   clear Q2 hcur t2 c2
   go_wp2_with fail
   go_ret
   refine⟨⟨0,rfl⟩,fun hn=>absurd Hf.out (hn t),fun u hu=>?_⟩
   obtain rfl:=HU.out u hu
   exact⟨fun hn=>absurd hn Hc.out,fun _=>⟨rfl,HFin.out⟩⟩
 ·have q:=turn_none b m σ mb bl w h k h1 h2 s (fun t e=>hp ⟨t,e⟩)
  have Hp:Hid _:=hp
  clear hp h hF
  go_enter Tryz.func39,Tryz.ntmps39
  go_wp2_with fail
  refine q.mono ?_
  rintro x w1 ⟨rfl,T⟩
  have HT:Hid _:=T
  clear q T c0
  go_wp2
  go_ret
  exact⟨⟨70,rfl⟩,fun _=>⟨rfl,HT.out⟩,fun t e=>absurd ⟨t,e⟩ Hp.out⟩
theorem commit_f (b:Nat) (m:Mg) (w:World) (F:Nat→Prop) (h:MF w b m F) (k:Int) (h1: -9223372036854775808≤k) (h2:k≤9223372036854775807):
  Calls Tryz.prog 18 #[.pointer (some ⟨b,0,none⟩),.int .i64 k] w fun x w'=>(∃e:Nat,x= .returned (.int .i64 e))∧TurnOut m b k 3 (fun t=>m.fin t.x 3) w F x w':=by
 have q:Calls Tryz.prog 39 #[.pointer (some ⟨b,0,none⟩),.int .i64 k,.int .i64 3] w _:=end_f b m w F h k h1 h2 3 (by omega)
 clear h h1 h2
 go_enter Tryz.func18,Tryz.ntmps18
 go_wp2_with fail
 refine q.mono ?_
 rintro x w1 ⟨⟨e,rfl⟩,ho⟩
 have HO:Hid _:=ho
 clear q ho
 go_wp2
 go_ret
 exact⟨⟨e,rfl⟩,HO.out⟩
theorem abort_f (b:Nat) (m:Mg) (w:World) (F:Nat→Prop) (h:MF w b m F) (k:Int) (h1: -9223372036854775808≤k) (h2:k≤9223372036854775807):
  Calls Tryz.prog 40 #[.pointer (some ⟨b,0,none⟩),.int .i64 k] w fun x w'=>(∃e:Nat,x= .returned (.int .i64 e))∧TurnOut m b k 4 (fun t=>m.fin t.x 4) w F x w':=by
 have q:Calls Tryz.prog 39 #[.pointer (some ⟨b,0,none⟩),.int .i64 k,.int .i64 4] w _:=end_f b m w F h k h1 h2 4 (by omega)
 clear h h1 h2
 go_enter Tryz.func40,Tryz.ntmps40
 go_wp2_with fail
 refine q.mono ?_
 rintro x w1 ⟨⟨e,rfl⟩,ho⟩
 have HO:Hid _:=ho
 clear q ho
 go_wp2
 go_ret
 exact⟨⟨e,rfl⟩,HO.out⟩
section
variable {ps:List Pt} (s:Nat) (on:List Nat)
end
end Go.Proofs.YtppokgdofgigfaaGreat
