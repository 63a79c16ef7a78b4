import Derived.Test.YtppokgdofgigfaaGreatProg
import Derived.WalkSpells
import Derived.WalkLawsBesides
import Derived.Deep.DeepMust
import Derived.Outline
import Derived.Deep.QuietTactic
import Derived.BigQuiet
import Derived.Lib.Strings
import Derived.Maps.RangeWalk
import Derived.Maps.AppendAt
import Derived.Lib.BufferMore
import Derived.Lib.QuietBelow
set_option maxRecDepth 100000
namespace Go.Proofs.YtppokgdofgigfaaGreat
open Go.RowKit
structure Tch (S:Nat→Prop) (w w':World):Prop where
 os:w'.os=w.os
 tape:w'.tape=w.tape
 output:w'.output=w.output
 size:w.heap.size≤w'.heap.size
 block: ∀k,k<w.heap.size→ ¬S k→w'.heap[k]? =w.heap[k]?
theorem Tch.refl (S:Nat→Prop) (w:World):Tch S w w:=⟨rfl,rfl,rfl,Nat.le_refl _,fun _ _ _=>rfl⟩
theorem Tch.trans {S T:Nat→Prop} {a b c:World} (h:Tch S a b) (k:Tch T b c) (hT: ∀i,i<a.heap.size→T i→S i):Tch S a c:=
 ⟨k.os.trans h.os,k.tape.trans h.tape,k.output.trans h.output,Nat.le_trans h.size k.size,
  fun i hi hn=>(k.block i (Nat.lt_of_lt_of_le hi h.size) (fun ht=>hn (hT i hi ht))).trans (h.block i hi hn)⟩
theorem Tch.trans' {S:Nat→Prop} {a b c:World} (h:Tch S a b) (k:Tch S b c):Tch S a c:=h.trans k (fun _ _ h=>h)
theorem Tch.mono {S T:Nat→Prop} {a b:World} (h:Tch S a b) (hT: ∀i,i<a.heap.size→S i→T i):Tch T a b:=
 ⟨h.os,h.tape,h.output,h.size,fun i hi hn=>h.block i hi (fun hs=>hn (hT i hi hs))⟩
theorem Tch.drew {S:Nat→Prop} {a b:World} (h:Tch S a b):Tch S a b.drew:=⟨h.os,h.tape,h.output,h.size,h.block⟩
theorem Tch.drewN {S:Nat→Prop} {a b:World} (h:Tch S a b) (n:Nat):Tch S a (b.drewN n):=by
 have hb:Below b.heap.size b (b.drewN n):=below_drewN (Below.refl _ _) n
 exact⟨hb.os.trans h.os,hb.tape.trans h.tape,hb.output.trans h.output,Nat.le_trans h.size hb.size,fun i hi hn=>(hb.block i (Nat.lt_of_lt_of_le hi h.size)).trans (h.block i hi hn)⟩
theorem Tch.of_below {S:Nat→Prop} {B:Nat} {a b:World} (h:Below B a b) (hB:a.heap.size≤B):Tch S a b:=⟨h.os,h.tape,h.output,h.size,fun i hi _=>h.block i (by omega)⟩
theorem Tch.below {S:Nat→Prop} {B:Nat} {a b:World} (h:Tch S a b) (hB:B≤a.heap.size) (hS: ∀k,k<B→ ¬S k):Below B a b:=
 ⟨h.os,h.tape,h.output,h.size,fun i hi=>h.block i (by omega) (hS i hi)⟩
theorem Tch.setCell (S:Nat→Prop) (w:World) (p:Addr) (v:Value) (hp:S p.block):Tch S w (w.setCell p v):=
 ⟨rfl,rfl,rfl,by simp[World.setCell],fun k _ hn=>Below.heap_setCell _ _ _ _ (fun e=>hn (e▸hp))⟩
theorem Tch.alloc (S:Nat→Prop) (w:World) (o:Obj):Tch S w (w.alloc o):=
 ⟨rfl,rfl,rfl,by simp,fun k hk _=>Below.heap_alloc _ _ _ hk⟩
theorem Tch.allocR {S:Nat→Prop} {a b:World} (h:Tch S a b) (o:Obj):Tch S a (b.alloc o):=h.trans' (Tch.alloc S b o)
theorem Tch.setCellR {S:Nat→Prop} {a b:World} (h:Tch S a b) (p:Addr) (v:Value) (hp:S p.block):Tch S a (b.setCell p v):=h.trans' (Tch.setCell S b p v hp)
theorem Tch.cell {S:Nat→Prop} {w w':World} (h:Tch S w w') {p:Addr} (hp:p.block<w.heap.size) (hn: ¬S p.block):w'.cell? p=w.cell? p:=World.cell?_of_block (w:=w) (h.block p.block hp hn)
theorem cell_lt {w:World} {p:Addr} {v:Value} (h:w.cell? p=some v):p.block<w.heap.size:=by
 rcases Nat.lt_or_ge p.block w.heap.size with h1|h1
 ·exact h1
 ·simp[World.cell?,Array.getElem?_eq_none h1] at h
end Go.Proofs.YtppokgdofgigfaaGreat
namespace Go.Proofs.YtppokgdofgigfaaGreat
structure Pt where
 x:Nat
 ar:Int
 ft:Nat
structure Tx where
 x:Nat
 st:Nat
 ps:List Pt
structure Mg where
 nx:Nat
 on:List Nat
 tx:List Tx
def idx:List Pt→Int→Option Nat
 |[],_=>none
 |p::r,n=>if (p.x:Int)=n then some 0 else(idx r n).map (· +1)
def fnd:List Tx→Int→Option (Tx×Int)
 |[],_=>none
 |t::r,n=>if (t.x:Int)=n then some (t, -1) else match idx t.ps n with
  |some i=>some (t,(i:Int))
  |none=>fnd r n
def upd (L:List Tx) (x:Nat) (f:Tx→Tx):List Tx:=L.map (fun t=>if t.x=x then f t else t)
theorem idx_some {ps:List Pt} {n:Int} {i:Nat} (h:idx ps n=some i): ∃p,ps[i]? =some p∧(p.x:Int)=n:=by
 induction ps generalizing i with
 |nil=>cases h
 |cons p r ih=>
  unfold idx at h
  split at h
  ·cases h;exact⟨p,rfl,by assumption⟩
  ·cases hi:idx r n with
   |none=>rw[hi] at h;cases h
   |some k=>
    rw[hi] at h;cases h
    exact ih hi
theorem idx_none {ps:List Pt} {n:Int} (h:idx ps n=none): ∀p∈ps,(p.x:Int)≠n:=by
 induction ps with
 |nil=>intro p hp;cases hp
 |cons p r ih=>
  unfold idx at h
  split at h
  ·cases h
  ·rename_i hne
   cases hi:idx r n with
   |none=>
    intro q hq
    rcases List.mem_cons.1 hq with rfl|hq
    ·exact hne
    ·exact ih hi q hq
   |some k=>rw[hi] at h;cases h
theorem idx_no {ps:List Pt} {n:Int} (h: ∀p∈ps,(p.x:Int)≠n):idx ps n=none:=by
 induction ps with
 |nil=>rfl
 |cons p r ih=>
  unfold idx
  rw[if_neg (h p (by simp)),ih (fun q hq=>h q (by simp[hq]))];rfl
theorem idx_snoc (ps:List Pt) (p:Pt) (n:Int):idx (ps++[p]) n=match idx ps n with|some i=>some i|none=>if (p.x:Int)=n then some ps.length else none:=by
 induction ps with
 |nil=>simp[idx]
 |cons q r ih=>
  simp only[List.cons_append,idx,ih]
  split
  ·rfl
  ·cases idx r n with
   |none=>
    simp only[Option.map_none]
    split<;>simp
   |some k=>simp
theorem idx_congr {ps qs:List Pt} (h:ps.map (·.x)=qs.map (·.x)) (n:Int):idx ps n=idx qs n:=by
 induction ps generalizing qs with
 |nil=>cases qs with
  |nil=>rfl
  |cons a l=>cases h
 |cons p r ih=>cases qs with
  |nil=>cases h
  |cons q s=>
   simp only[List.map_cons,List.cons.injEq] at h
   simp only[idx,h.1,ih h.2]
theorem fnd_mem {L:List Tx} {n:Int} {t:Tx} {i:Int} (h:fnd L n=some (t,i)):t∈L∧((i= -1∧(t.x:Int)=n)∨(∃k p,i=(k:Nat)∧idx t.ps n=some k∧t.ps[k]? =some p∧(p.x:Int)=n∧(t.x:Int)≠n)):=by
 induction L with
 |nil=>cases h
 |cons u r ih=>
  unfold fnd at h
  split at h
  ·cases h;exact⟨by simp,Or.inl ⟨rfl,by assumption⟩⟩
  ·rename_i hne
   cases hi:idx u.ps n with
   |none=>rw[hi] at h;have:=ih h;exact⟨by simp[this.1],this.2⟩
   |some k=>
    rw[hi] at h;cases h
    obtain⟨p,h1,h2⟩:=idx_some hi
    exact⟨by simp,Or.inr ⟨k,p,rfl,hi,h1,h2,hne⟩⟩
theorem fnd_none {L:List Tx} {n:Int} (h:fnd L n=none): ∀t∈L,(t.x:Int)≠n∧ ∀p∈t.ps,(p.x:Int)≠n:=by
 induction L with
 |nil=>intro t ht;cases ht
 |cons u r ih=>
  unfold fnd at h
  split at h
  ·cases h
  ·rename_i hne
   cases hi:idx u.ps n with
   |some k=>rw[hi] at h;cases h
   |none=>
    rw[hi] at h
    intro t ht
    rcases List.mem_cons.1 ht with rfl|ht
    ·exact⟨hne,idx_none hi⟩
    ·exact ih h t ht
theorem fnd_no {L:List Tx} {n:Int} (h: ∀t∈L,(t.x:Int)≠n∧ ∀p∈t.ps,(p.x:Int)≠n):fnd L n=none:=by
 induction L with
 |nil=>rfl
 |cons u r ih=>
  unfold fnd
  rw[if_neg (h u (by simp)).1,idx_no (h u (by simp)).2]
  exact ih (fun t ht=>h t (by simp[ht]))
theorem fnd_snoc (L:List Tx) (t:Tx) (n:Int):fnd (L++[t]) n=match fnd L n with|some a=>some a|none=>fnd [t] n:=by
 induction L with
 |nil=>rfl
 |cons u r ih=>
  simp only[List.cons_append]
  unfold fnd
  split
  ·rfl
  ·cases idx u.ps n with
   |some k=>rfl
   |none=>exact ih
theorem fnd_upd (x:Nat) (f:Tx→Tx) (hf: ∀t,(f t).x=t.x∧(f t).ps.map (·.x)=t.ps.map (·.x)) (n:Int): ∀L:List Tx,fnd (upd L x f) n=(fnd L n).map (fun p=>(if p.1.x=x then f p.1 else p.1,p.2))
 |[]=>rfl
 |t::r=>by
  have ih:=fnd_upd x f hf n r
  simp only[upd,List.map_cons,fnd] at ih ⊢
  have e1:(if t.x=x then f t else t).x=t.x:=by split;exact(hf t).1;rfl
  have e2:idx (if t.x=x then f t else t).ps n=idx t.ps n:=by
   split
   ·exact idx_congr (hf t).2 n
   ·rfl
  rw[e1,e2]
  split
  ·rfl
  ·cases idx t.ps n with
   |some k=>rfl
   |none=>exact ih
structure Wf (m:Mg):Prop where
 n1:1≤m.nx
 n2:m.nx≤2147483648
 lo: ∀t∈m.tx,1≤t.x∧t.x<m.nx
 pl: ∀t∈m.tx, ∀p∈t.ps,t.x<p.x∧p.x<m.nx
 st: ∀t∈m.tx,1≤t.st∧t.st≤4
 ln: ∀t∈m.tx,t.ps.length≤64
 ar: ∀t∈m.tx, ∀(i:Nat) p,t.ps[i]? =some p→ -1≤p.ar∧p.ar<i∧p.ft≤2
 up:m.tx.Pairwise (fun t u=>t.x<u.x)
 ap:m.tx.Pairwise (fun t u=> ∀p∈t.ps,p.x≠u.x∧ ∀q∈u.ps,p.x≠q.x)
 pu: ∀t∈m.tx,t.ps.Pairwise (fun p q=>p.x<q.x)
 on:m.on=(m.tx.filter (fun t=>t.st<3)).map (·.x)
def fate (t:Tx) (i:Int):Nat:=if 0≤i then match t.ps[i.toNat]? with|some p=>p.ft|none=>0 else 0
def stE:Option (Tx×Int)→Nat
 |none=>0
 |some (t,i)=>if fate t i=2 then 4 else t.st
def Mg.state (m:Mg) (n:Int):Nat:=stE (fnd m.tx n)
def within (ps:List Pt) (o:Int):Nat→Int→Bool
 |0,a=>a==o
 |k+1,a=>if a>o then within ps o k (match ps[a.toNat]? with|some p=>p.ar|none=> -1) else a==o
def endPs (ps:List Pt) (o:Int) (f:Nat):List Pt:=ps.mapIdx (fun j p=>if within ps o ps.length j then { p with ft:=max p.ft f } else p)
theorem endPs_x (ps:List Pt) (o:Int) (f:Nat):(endPs ps o f).map (·.x)=ps.map (·.x):=by
 apply List.ext_getElem?
 intro k
 simp only[endPs,List.getElem?_map,List.getElem?_mapIdx]
 cases ps[k]? with
 |none=>rfl
 |some p=>simp only[Option.map_some];split<;>rfl
theorem endPs_len (ps:List Pt) (o:Int) (f:Nat):(endPs ps o f).length=ps.length:=by simp[endPs]
end Go.Proofs.YtppokgdofgigfaaGreat
namespace Go.Proofs.YtppokgdofgigfaaGreat
set_option maxRecDepth 100000
open Go.RowKit Go
open Go.Maps (Keyed)
theorem blk_lt {w:World} {b:Nat} {o:Obj} (h:w.heap[b]? =some o):b<w.heap.size:=(Array.getElem?_eq_some_iff.1 h).1
theorem blk_cell {w:World} {b:Nat} {cs:Array Value} {t:TypeId} {fr:Nat×Nat} (h:w.heap[b]? =some (.cells cs t fr)) (i:Nat):w.cell? ⟨b,i,none⟩=cs[i]? :=by
 simp[World.cell?,h]
theorem blk_frozen {w:World} {b:Nat} {cs:Array Value} {t:TypeId} (h:w.heap[b]? =some (.cells cs t (0,0))) (i:Nat):w.frozen? ⟨b,i,none⟩=false:=by
 simp[World.frozen?,h]
theorem blk_set {w:World} {b i:Nat} {cs:Array Value} {t:TypeId} {fr:Nat×Nat} (h:w.heap[b]? =some (.cells cs t fr)) (v:Value):(w.setCell ⟨b,i,none⟩ v).heap[b]? =some (.cells (cs.setIfInBounds i v) t fr):=by
 have hl:=blk_lt h
 simp only[World.setCell]
 rw[Array.getElem?_modify]
 simp[h]
theorem Tch.of_grown {S:Nat→Prop} {w w':World} {row:Option Nat} (h:w.grownBy w' row) (hS: ∀g,row=some g→S g):Tch S w w':=
 ⟨h.os,h.tape,h.output,h.size,fun k hk hn=>h.block k hk (fun e=>hn (hS k e.symm))⟩
def numElem (v:Value):Option (DataW Unit×List MemPlace):=
 match v with
 | .agg a=>match a.toList with
   |[.pointer none,.int .i64 0]=>some (.nil,[])
   |[.pointer (some a),.int .i64 i]=>if a=⟨a.block,0,none⟩ then some (.agg [.lit (.int .i64 a.block),.lit (.int .i64 i)],[]) else none
   |_=>none
 |_=>none
def numV:Option (Nat×Int)→Value
 |none=>.agg #[.pointer none,.int .i64 0]
 |some (tb,i)=>.agg #[.pointer (some ⟨tb,0,none⟩),.int .i64 i]
def encN (a:Nat×Int):DataW Unit:= .agg [.lit (.int .i64 a.1),.lit (.int .i64 a.2)]
theorem numElem_none:numElem (numV none)=some (.nil,[]):=rfl
theorem numElem_some (tb:Nat) (i:Int):numElem (numV (some (tb,i)))=some (encN (tb,i),[]):=by simp[numElem,numV,encN]
theorem numElem_inv {v:Value} {z:DataW Unit×List MemPlace} {a:Nat×Int} (h:numElem v=some z) (hz:z.1=encN a):v=numV (some a):=by
 unfold numElem at h
 split at h
 ·rename_i l
  split at h
  ·cases h;simp[encN] at hz
  ·rename_i p i hl
   split at h
   ·rename_i ha
    cases h
    simp only[encN,DataW.agg.injEq,List.cons.injEq,DataW.lit.injEq,Lit.int.injEq,true_and,and_true] at hz
    have e1:p.block=a.1:=by omega
    have e2:l=#[.pointer (some p),.int .i64 i]:=by rw[←Array.toArray_toList (xs:=l),hl]
    obtain⟨a1,a2⟩:=a
    simp only at e1 hz
    rw[e2,ha,e1,hz.2];rfl
   ·cases h
  ·cases h
 ·cases h
theorem numElem_inv_none {v:Value} {z:DataW Unit×List MemPlace} (h:numElem v=some z) (hz:z.1= .nil):v=numV none:=by
 unfold numElem at h
 split at h
 ·rename_i l
  split at h
  ·rename_i hl
   rw[←Array.toArray_toList (xs:=l),hl];rfl
  ·split at h
   ·cases h;simp at hz
   ·cases h
  ·cases h
 ·cases h
def lkB (bl:Nat→Nat) (L:List Tx) (n:Int):Option (Nat×Int):=(fnd L n).map (fun p=>(bl p.1.x,p.2))
def atE (o:Option (Nat×Int)) (zd:DataW Unit):DataW Unit:=match o with
 |some a=>encN a
 |none=>zd
theorem law_int:Keyed Tryz.prog 3:=Maps.int_keyed Tryz.underlying3
theorem zero_num (w:World):(zeroValue 121).run Tryz.prog w= .ok (numV none) w:=by kernel_rfl
theorem ownsMap_tch {H:Type} {P:Program} {k:TypeId} {R:Value→Option (DataW H×List MemPlace)} {S:Nat→Prop} {w w':World} {b n:Nat} {D:DataW H} (h:w.ownsMap P k R b n D) (t:Tch S w w') (hb: ¬S b):w'.ownsMap P k R b n D:=by
 have hl:=h.lt
 obtain⟨es,clock,hh,r⟩:=h
 exact⟨es,clock,(t.block b hl hb).trans hh,r⟩
theorem own_tch {S:Nat→Prop} {w w':World} {base:Nat} {t:TypeId} {sz n:Nat} {v:Value} {xs:List Value} (h:w.ownsRow base t sz v n xs) (tc:Tch S w w') (hS: ∀g,v.ownBlock=some g→ ¬S g):w'.ownsRow base t sz v n xs:=by
 obtain⟨h1,h2⟩:=h
 refine⟨h1,?_⟩
 rcases h2 with h2|⟨g,cap,cur,hv,hg,hh,r⟩
 ·exact Or.inl h2
 ·exact Or.inr ⟨g,cap,cur,hv,hg,by rw[tc.block g (blk_lt hh) (hS g (by rw[hv];rfl))];exact hh,r⟩
theorem own_blk {w:World} {base:Nat} {t:TypeId} {sz n:Nat} {v:Value} {xs:List Value} (h:w.ownsRow base t sz v n xs) {g:Nat} (hg:v.ownBlock=some g): ∃cur,w.heap[g]? =some (.cells cur t (0,0)):=by
 rcases h.2 with⟨rfl,_⟩|⟨g',cap,cur,rfl,_,hh,_⟩
 ·cases hg
 ·cases hg;exact⟨cur,hh⟩
def pcl (ps:List Pt):List Value:=ps.flatMap (fun p=>[.int .i64 p.x,.int .i64 p.ar,.int .i64 p.ft])
theorem pcl_get: ∀(l:List Pt) (k:Nat) (p:Pt),l[k]? =some p→(pcl l)[k*3]? =some (.int .i64 p.x)∧(pcl l)[k*3+1]? =some (.int .i64 p.ar)∧(pcl l)[k*3+2]? =some (.int .i64 p.ft)
 |[],k,p,hk=>by simp at hk
 |a::l,0,p,hk=>by
  simp only[List.getElem?_cons_zero,Option.some.injEq] at hk
  subst hk
  simp[pcl]
 |a::l,k+1,p,hk=>by
  have:=pcl_get l k p (by simpa using hk)
  unfold pcl at this ⊢
  have e1:(k+1)*3=k*3+3:=by omega
  simp only[List.flatMap_cons]
  rw[e1]
  refine⟨?_,?_,?_⟩
  ·rw[List.getElem?_append_right (by simp)];simpa using this.1
  ·rw[List.getElem?_append_right (by simp)];simpa using this.2.1
  ·rw[List.getElem?_append_right (by simp)];simpa using this.2.2
theorem pcl_snoc (l:List Pt) (p:Pt):pcl (l++[p])=pcl l++[.int .i64 p.x,.int .i64 p.ar,.int .i64 p.ft]:=by simp[pcl]
def icl (l:List Nat):List Value:=l.map (fun n:Nat=>Value.int .i64 n)
theorem icl_len (l:List Nat):(icl l).length=l.length:=by simp[icl]
structure XB (w:World) (σ:Nat→Option Nat) (tb:Nat) (t:Tx):Prop where
 lab:σ tb=some tb
 blk: ∃v,w.heap[tb]? =some (.cells #[.int .i64 t.x,.int .i64 t.st,v] 119 (0,0))∧w.ownsRow 0 151 3 v t.ps.length (pcl t.ps)∧ ∀g,v.ownBlock=some g→σ g=some tb
theorem XB.lt {w:World} {σ:Nat→Option Nat} {tb:Nat} {t:Tx} (h:XB w σ tb t):tb<w.heap.size:=by
 obtain⟨v,h1,_⟩:=h.blk
 exact blk_lt h1
theorem XB.tch {S:Nat→Prop} {w w':World} {σ σ':Nat→Option Nat} {tb:Nat} {t:Tx} (h:XB w σ tb t) (tc:Tch S w w') (hS: ∀i,i<w.heap.size→S i→σ i≠some tb) (hσ: ∀i,i<w.heap.size→σ i=some tb→σ' i=some tb):XB w' σ' tb t:=by
 have hl:=h.lt
 obtain⟨v,h1,h2,h3⟩:=h.blk
 refine⟨hσ tb hl h.lab,⟨v,?_,?_,?_⟩⟩
 ·rw[tc.block tb hl (fun hs=>hS tb hl hs h.lab)];exact h1
 ·refine own_tch h2 tc (fun g hg hs=>?_)
  obtain⟨cur,hc⟩:=own_blk h2 hg
  exact hS g (blk_lt hc) hs (h3 g hg)
 ·intro g hg
  obtain⟨cur,hc⟩:=own_blk h2 hg
  exact hσ g (blk_lt hc) (h3 g hg)
structure MG (w:World) (b:Nat) (m:Mg) (σ:Nat→Option Nat) (mb:Nat) (bl:Nat→Nat):Prop where
 wf:Wf m
 blk: ∃ov,w.heap[b]? =some (.cells #[.map (some mb),.int .i64 m.nx,ov] 83 (0,0))∧w.ownsRow 0 3 1 ov m.on.length (icl m.on)∧ ∀g,ov.ownBlock=some g→σ g=some b
 lb:σ b=some b
 lm:σ mb=some b
 mp: ∃n D,n≤m.nx∧w.ownsMap Tryz.prog 3 numElem mb n D∧ ∀k zd,D.atKey (.int .i64 k) zd=atE (lkB bl m.tx k) zd
 xs: ∀t∈m.tx,XB w σ (bl t.x) t
 inj: ∀t∈m.tx, ∀u∈m.tx,bl t.x=bl u.x→t.x=u.x
 nb: ∀t∈m.tx,bl t.x≠b
 lt: ∀i,σ i≠none→i<w.heap.size
theorem MG.bl' {w:World} {b:Nat} {m:Mg} {σ:Nat→Option Nat} {mb:Nat} {bl:Nat→Nat} (h:MG w b m σ mb bl):b<w.heap.size:=by
 obtain⟨ov,h1,_⟩:=h.blk
 exact blk_lt h1
theorem MG.ml {w:World} {b:Nat} {m:Mg} {σ:Nat→Option Nat} {mb:Nat} {bl:Nat→Nat} (h:MG w b m σ mb bl):mb<w.heap.size:=by
 obtain⟨n,D,_,h1,_⟩:=h.mp
 exact h1.lt
theorem MG.mne {w:World} {b:Nat} {m:Mg} {σ:Nat→Option Nat} {mb:Nat} {bl:Nat→Nat} (h:MG w b m σ mb bl):mb≠b:=by
 intro e
 obtain⟨ov,h1,_⟩:=h.blk
 obtain⟨n,D,_,⟨es,clock,hh,_⟩,_⟩:=h.mp
 rw[e,h1] at hh;cases hh
theorem MG.tch {S:Nat→Prop} {w w':World} {b:Nat} {m:Mg} {σ:Nat→Option Nat} {mb:Nat} {bl:Nat→Nat} (h:MG w b m σ mb bl) (t:Tch S w w') (hS: ∀i,i<w.heap.size→S i→σ i=none):MG w' b m σ mb bl:=by
 have hb:=h.bl'
 have hm:=h.ml
 obtain⟨ov,h1,h2,h3⟩:=h.blk
 obtain⟨n,D,hn,hD,hk⟩:=h.mp
 refine⟨h.wf,⟨ov,?_,?_,h3⟩,h.lb,h.lm,⟨n,D,hn,?_,hk⟩,?_,h.inj,h.nb,fun i hi=>Nat.lt_of_lt_of_le (h.lt i hi) t.size⟩
 ·rw[t.block b hb (fun hs=>by have:=hS b hb hs;rw[h.lb] at this;cases this)];exact h1
 ·refine own_tch h2 t (fun g hg hs=>?_)
  obtain⟨cur,hc⟩:=own_blk h2 hg
  have:=hS g (blk_lt hc) hs
  rw[h3 g hg] at this;cases this
 ·exact ownsMap_tch hD t (fun hs=>by have:=hS mb hm hs;rw[h.lm] at this;cases this)
 ·intro p hp
  exact(h.xs p hp).tch t (fun i hi hs=>by rw[hS i hi hs];exact fun h=>by cases h) (fun _ _ h=>h)
theorem MG.no {w w':World} {b:Nat} {m:Mg} {σ:Nat→Option Nat} {mb:Nat} {bl:Nat→Nat} (h:MG w b m σ mb bl) (t:Tch (fun _=>False) w w'):MG w' b m σ mb bl:=h.tch t (fun _ _ h=>h.elim)
theorem MG.c0 {w:World} {b:Nat} {m:Mg} {σ:Nat→Option Nat} {mb:Nat} {bl:Nat→Nat} (h:MG w b m σ mb bl):w.cell? ⟨b,0,none⟩=some (.map (some mb)):=by
 obtain⟨ov,h1,_⟩:=h.blk
 rw[blk_cell h1];rfl
theorem MG.c1 {w:World} {b:Nat} {m:Mg} {σ:Nat→Option Nat} {mb:Nat} {bl:Nat→Nat} (h:MG w b m σ mb bl):w.cell? ⟨b,1,none⟩=some (.int .i64 m.nx):=by
 obtain⟨ov,h1,_⟩:=h.blk
 rw[blk_cell h1];rfl
theorem MG.fz {w:World} {b:Nat} {m:Mg} {σ:Nat→Option Nat} {mb:Nat} {bl:Nat→Nat} (h:MG w b m σ mb bl) (i:Nat):w.frozen? ⟨b,i,none⟩=false:=by
 obtain⟨ov,h1,_⟩:=h.blk
 exact blk_frozen h1 i
theorem int_wf {k:Int} (h1: -9223372036854775808≤k) (h2:k≤9223372036854775807):(Lit.int .i64 k).wf=true:=by
 have e1:IntKind.i64.min= -9223372036854775808:=by decide
 have e2:IntKind.i64.max=9223372036854775807:=by decide
 simp[Lit.wf,e1,e2];omega
theorem MG.look {w:World} {b:Nat} {m:Mg} {σ:Nat→Option Nat} {mb:Nat} {bl:Nat→Nat} (h:MG w b m σ mb bl) {k:Int} (h1: -9223372036854775808≤k) (h2:k≤9223372036854775807):
  (Instr.lookup 81 (.map (some mb)) (.int .i64 k) false).run Tryz.prog w= .ok (numV (lkB bl m.tx k)) w:=by
 obtain⟨n,D,hn,hD,hk⟩:=h.mp
 obtain⟨v,ps,hrun,hv⟩:=hD.lookup law_int Tryz.underlying81 (zero_num w) numElem_none (Maps.keyOf_int_mk Tryz.underlying3 (int_wf h1 h2))
 rw[hrun]
 rw[hk] at hv
 cases hg:lkB bl m.tx k with
 |none=>rw[hg] at hv;rw[numElem_inv_none hv rfl]
 |some a=>rw[hg] at hv;rw[numElem_inv hv rfl]
end Go.Proofs.YtppokgdofgigfaaGreat
namespace Go.Proofs.YtppokgdofgigfaaGreat
open Go.RowKit Go Go.Sort
theorem alloc_new (w:World) (o:Obj):(w.alloc o).heap[w.heap.size]? =some o:=by show(w.heap.push o)[w.heap.size]? =_;simp
theorem Calls.tch_regrown_of {P:Program} {f:FuncId} {args:Array Value} {w:World} {d:Nat} {os:Array Obj} {v:Value}
  (h:Calls P f args (grow (redrawn w d) os) fun e w'=>e= .returned v∧Tch (fun _=>False) (grow (redrawn w d) os) w'):Calls P f args (grow (redrawn w d) os) fun e w''=>e= .returned v∧ ∃p:Regrown,w''=grow (redrawn w p.d) p.os:=
 Calls.regrown_of (h.mono fun _ _ ⟨he,t⟩=>⟨he,t.below (Nat.le_refl _) (fun _ _ h=>h)⟩)
theorem tch_regrown (w:World) (p:Regrown):Tch (fun _=>False) w (grow (redrawn w p.d) p.os):=Tch.of_below (below_regrown w p.d p.os) (Nat.le_refl _)
theorem known_any (o:Option (Nat×Int)) (w:World):Calls Tryz.prog 68 #[numV o] w fun x w'=>x= .returned (.bool o.isSome)∧Tch (fun _=>False) w w':=by
 cases o with
 |none=>
  simp only[numV,Option.isSome_none]
  go_enter Tryz.func68,Tryz.ntmps68
  go_wp2
  go_ret
  exact⟨rfl,Tch.alloc _ _ _⟩
 |some a=>
  obtain⟨tb,i⟩:=a
  simp only[numV,Option.isSome_some]
  go_enter Tryz.func68,Tryz.ntmps68
  go_wp2
  go_ret
  exact⟨rfl,Tch.alloc _ _ _⟩
def isP:Option (Nat×Int)→Bool
 |none=>false
 |some a=>decide (0≤a.2)
theorem isPart_any (o:Option (Nat×Int)) (w:World):Calls Tryz.prog 94 #[numV o] w fun x w'=>x= .returned (.bool (isP o))∧Tch (fun _=>False) w w':=by
 have q:=fun W=>known_any o W
 cases o with
 |none=>
  simp only[numV,Option.isSome_none] at q ⊢
  go_enter Tryz.func94,Tryz.ntmps94
  go_wp2_with fail
  refine(q _).mono ?_
  rintro x w1 ⟨rfl,t1⟩
  clear q
  have T:Hid (Tch (fun _=>False) w w1):=(Tch.alloc _ _ _).trans' t1
  clear t1
  go_wp2
  go_ret
  exact⟨rfl,T.out⟩
 |some a=>
  obtain⟨tb,i⟩:=a
  simp only[numV,Option.isSome_some,isP] at q ⊢
  obtain⟨w0,hw0⟩: ∃w0,w0=w.alloc (.cells #[.pointer (some ⟨tb,0,none⟩),.int .i64 i] 121):=⟨_,rfl⟩
  have hb:w0.heap[w.heap.size]? =some (.cells #[.pointer (some ⟨tb,0,none⟩),.int .i64 i] 121 (0,0)):=by rw[hw0];exact alloc_new _ _
  go_enter Tryz.func94,Tryz.ntmps94
  go_wp2_with fail
  rw[←hw0]
  refine(q _).mono ?_
  rintro x w1 ⟨rfl,t1⟩
  clear q
  have T:Hid (Tch (fun _=>False) w w1):=by rw[hw0] at t1;exact(Tch.alloc _ _ _).trans' t1
  have c1:w1.cell? ⟨w.heap.size,1,none⟩=some (.int .i64 i):=by rw[t1.cell (p:=⟨w.heap.size,1,none⟩) (blk_lt hb) (fun h=>h),blk_cell hb];rfl
  clear t1 hb hw0
  go_wp2
  go_ret
  exact⟨rfl,T.out⟩
theorem XB.c {w:World} {σ:Nat→Option Nat} {tb:Nat} {t:Tx} (h:XB w σ tb t): ∃v,w.cell? ⟨tb,0,none⟩=some (.int .i64 t.x)∧w.cell? ⟨tb,1,none⟩=some (.int .i64 t.st)∧w.cell? ⟨tb,2,none⟩=some v∧w.ownsRow 0 151 3 v t.ps.length (pcl t.ps):=by
 obtain⟨v,h1,h2,_⟩:=h.blk
 exact⟨v,by rw[blk_cell h1];rfl,by rw[blk_cell h1];rfl,by rw[blk_cell h1];rfl,h2⟩
theorem XB.part {w:World} {σ:Nat→Option Nat} {tb:Nat} {t:Tx} (h:XB w σ tb t) {k:Nat} {p:Pt} (hk:t.ps[k]? =some p): ∃g cap,w.cell? ⟨tb,2,none⟩=some (.slice (some ⟨g,0,none⟩) t.ps.length cap)∧w.cell? ⟨g,k*3,none⟩=some (.int .i64 p.x)∧w.cell? ⟨g,k*3+1,none⟩=some (.int .i64 p.ar)∧w.cell? ⟨g,k*3+2,none⟩=some (.int .i64 p.ft):=by
 obtain⟨v,_,_,c2,hv⟩:=h.c
 have hlt:=(List.getElem?_eq_some_iff.1 hk).1
 rcases hv.2 with⟨rfl,h0⟩|⟨g,cap,cur,rfl,_,hg,_,_,hs,ht⟩
 ·omega
 ·have hc: ∀j u,(pcl t.ps)[j]? =some u→w.cell? ⟨g,j,none⟩=some u:=fun j u hu=>by
   rw[blk_cell hg, ←Array.getElem?_toList]
   rw[←ht,List.getElem?_take] at hu
   split at hu
   ·exact hu
   ·cases hu
  obtain⟨q0,q1,q2⟩:=pcl_get t.ps k p hk
  exact⟨g,cap,c2,hc _ _ q0,hc _ _ q1,hc _ _ q2⟩
theorem fate_any (σ:Nat→Option Nat) (tb:Nat) (t:Tx) (i:Int) (w:World) (h:XB w σ tb t) (hi:i= -1∨ ∃k:Nat,i=k∧k<t.ps.length) (_h64:t.ps.length≤64):
  Calls Tryz.prog 93 #[numV (some (tb,i))] w fun x w'=>x= .returned (.int .i64 (fate t i))∧Tch (fun _=>False) w w':=by
 obtain⟨w0,hw0⟩: ∃w0,w0=w.alloc (.cells #[.pointer (some ⟨tb,0,none⟩),.int .i64 i] 121):=⟨_,rfl⟩
 have hb:w0.heap[w.heap.size]? =some (.cells #[.pointer (some ⟨tb,0,none⟩),.int .i64 i] 121 (0,0)):=by rw[hw0];exact alloc_new _ _
 have q:=isPart_any (some (tb,i)) w0
 have t0:Tch (fun _=>False) w w0:=by rw[hw0];exact Tch.alloc _ _ _
 simp only[numV,isP] at q ⊢
 rcases hi with rfl|⟨k,rfl,hk⟩
 ·have HF:Hid (fate t (-1)=0):=rfl
  have e:decide (0≤(-1:Int))=false:=rfl
  rw[e] at q
  go_enter Tryz.func93,Tryz.ntmps93
  go_wp2_with fail
  rw[←hw0]
  refine q.mono ?_
  rintro x w1 ⟨rfl,t1⟩
  clear q hw0 hb
  have T:Hid (Tch (fun _=>False) w w1):=t0.trans' t1
  clear t1 t0
  go_wp2
  go_ret
  exact⟨by rw[HF.out];rfl,T.out⟩
 ·have e:decide (0≤(k:Int))=true:=by simp
  obtain⟨p,hp⟩: ∃p,t.ps[k]? =some p:=⟨_,List.getElem?_eq_getElem hk⟩
  have HF:Hid (fate t k=p.ft):=by show _=_;simp[fate,hp]
  rw[e] at q
  go_enter Tryz.func93,Tryz.ntmps93
  go_wp2_with fail
  rw[←hw0]
  refine q.mono ?_
  rintro x w1 ⟨rfl,t1⟩
  have T:=t0.trans' t1
  have c0:w1.cell? ⟨w.heap.size,0,none⟩=some (.pointer (some ⟨tb,0,none⟩)):=by rw[t1.cell (p:=⟨w.heap.size,0,none⟩) (blk_lt hb) (fun h=>h),blk_cell hb];rfl
  have c1:w1.cell? ⟨w.heap.size,1,none⟩=some (.int .i64 k):=by rw[t1.cell (p:=⟨w.heap.size,1,none⟩) (blk_lt hb) (fun h=>h),blk_cell hb];rfl
  obtain⟨g,cap,d2,_,_,d5⟩:=(h.tch T (fun _ _ h=>h.elim) (fun _ _ h=>h)).part hp
  have HT:Hid (Tch (fun _=>False) w w1):=T
  obtain⟨n,hn⟩: ∃n,n=t.ps.length:=⟨_,rfl⟩
  rw[←hn] at d2 hk
  have hkI:(k:Int)<n:=by omega
  clear q hw0 hb t1 t0 T h hp hn
  go_wp2_with fail
  go_region
  go_wp2
  go_ret
  exact⟨by rw[HF.out];rfl,HT.out.drew⟩
def may (t:Tx) (i:Int):Bool:=decide (t.st=1) && decide (fate t i=0)
theorem mayGoOn_any (σ:Nat→Option Nat) (tb:Nat) (t:Tx) (i:Int) (w:World) (h:XB w σ tb t) (hi:i= -1∨ ∃k:Nat,i=k∧k<t.ps.length) (h64:t.ps.length≤64) (hst:t.st≤4):
  Calls Tryz.prog 69 #[numV (some (tb,i))] w fun x w'=>x= .returned (.bool (may t i))∧Tch (fun _=>False) w w':=by
 obtain⟨w0,hw0⟩: ∃w0,w0=w.alloc (.cells #[.pointer (some ⟨tb,0,none⟩),.int .i64 i] 121):=⟨_,rfl⟩
 have hb:w0.heap[w.heap.size]? =some (.cells #[.pointer (some ⟨tb,0,none⟩),.int .i64 i] 121 (0,0)):=by rw[hw0];exact alloc_new _ _
 have t0:Tch (fun _=>False) w w0:=by rw[hw0];exact Tch.alloc _ _ _
 have h0:=h.tch t0 (fun _ _ h=>h.elim) (fun _ _ h=>h)
 have q:=fate_any σ tb t i w0 h0 hi h64
 obtain⟨v,_,c1,_,_⟩:=h0.c
 have b0:w0.cell? ⟨w.heap.size,0,none⟩=some (.pointer (some ⟨tb,0,none⟩)):=by rw[blk_cell hb];rfl
 have b1:w0.cell? ⟨w.heap.size,1,none⟩=some (.int .i64 i):=by rw[blk_cell hb];rfl
 obtain⟨f,hf⟩: ∃f,f=fate t i:=⟨_,rfl⟩
 obtain⟨s,hs⟩: ∃s,s=t.st:=⟨_,rfl⟩
 have HM:Hid (may t i=(decide (s=1) && decide (f=0))):=by show _=_;rw[hs,hf];rfl
 have HT:Hid (Tch (fun _=>False) w w0):=t0
 rw[←hf] at q
 rw[←hs] at c1 hst
 simp only[numV] at q ⊢
 clear hf hs t0 h h0 hi h64 hb
 by_cases h1:s=1
 ·subst h1
  have c1':w0.cell? ⟨tb,1,none⟩=some (.int .i64 1):=c1
  clear c1
  rw[hw0] at c1' b0 b1
  go_enter Tryz.func69,Tryz.ntmps69
  go_wp2_with fail
  rw[←hw0]
  refine q.mono ?_
  rintro x w1 ⟨rfl,t1⟩
  clear q
  have T:Hid (Tch (fun _=>False) w w1):=HT.out.trans' t1
  clear t1 c1' b0 b1 hw0
  by_cases hf0:f=0
  ·subst hf0
   go_wp2
   go_ret
   exact⟨by rw[HM.out];rfl,T.out⟩
  ·have hf1:((f:Int)==0)=false:=by simp;omega
   have hfI: ¬(f:Int)=0:=by omega
   go_wp2
   go_ret
   exact⟨by rw[HM.out];simp[hf0],T.out⟩
 ·have hs1:((s:Int)==1)=false:=by simp;omega
  have hsI: ¬(s:Int)=1:=by omega
  rw[hw0] at c1 b0 b1
  go_enter Tryz.func69,Tryz.ntmps69
  go_wp2
  go_ret
  refine⟨by rw[HM.out];simp[h1],?_⟩
  exact Tch.alloc _ _ _
theorem state_some (σ:Nat→Option Nat) (tb:Nat) (t:Tx) (i:Int) (w:World) (h:XB w σ tb t) (hi:i= -1∨ ∃k:Nat,i=k∧k<t.ps.length) (h64:t.ps.length≤64):
  Calls Tryz.prog 87 #[numV (some (tb,i))] w fun x w'=>x= .returned (.int .i64 (stE (some (t,i))))∧Tch (fun _=>False) w w':=by
 obtain⟨w0,hw0⟩: ∃w0,w0=w.alloc (.cells #[.pointer (some ⟨tb,0,none⟩),.int .i64 i] 121):=⟨_,rfl⟩
 have hb:w0.heap[w.heap.size]? =some (.cells #[.pointer (some ⟨tb,0,none⟩),.int .i64 i] 121 (0,0)):=by rw[hw0];exact alloc_new _ _
 have t0:Tch (fun _=>False) w w0:=by rw[hw0];exact Tch.alloc _ _ _
 have q0:=known_any (some (tb,i)) w0
 have q:=fun W (hW:Tch (fun _=>False) w W)=>fate_any σ tb t i W (h.tch hW (fun _ _ h=>h.elim) (fun _ _ h=>h)) hi h64
 obtain⟨f,hf⟩: ∃f,f=fate t i:=⟨_,rfl⟩
 obtain⟨s,hs⟩: ∃s,s=t.st:=⟨_,rfl⟩
 have HM:Hid (stE (some (t,i))=if f=2 then 4 else s):=by show _=_;rw[hs,hf];rfl
 rw[←hf] at q
 simp only[numV,Option.isSome_some] at q q0 ⊢
 clear hf
 go_enter Tryz.func87,Tryz.ntmps87
 go_wp2_with fail
 rw[←hw0]
 clear hw0
 refine q0.mono ?_
 rintro x w1 ⟨rfl,t1⟩
 clear q0
 have b0:w1.cell? ⟨w.heap.size,0,none⟩=some (.pointer (some ⟨tb,0,none⟩)):=by rw[t1.cell (p:=⟨w.heap.size,0,none⟩) (blk_lt hb) (fun h=>h),blk_cell hb];rfl
 have b1:w1.cell? ⟨w.heap.size,1,none⟩=some (.int .i64 i):=by rw[t1.cell (p:=⟨w.heap.size,1,none⟩) (blk_lt hb) (fun h=>h),blk_cell hb];rfl
 have T:Tch (fun _=>False) w w1:=t0.trans' t1
 have Q:=q w1 T
 have HT:Hid (Tch (fun _=>False) w w1):=T
 have Hh:Hid (XB w σ tb t):=h
 have Hs:Hid (s=t.st):=hs
 clear q T t0 t1 hi h64 hb h hs
 go_wp2_with fail
 refine Q.mono ?_
 rintro x w2 ⟨rfl,t2⟩
 clear Q
 have T:=HT.out.trans' t2
 obtain⟨v,_,c1,_,_⟩:=(Hh.out.tch T (fun _ _ h=>h.elim) (fun _ _ h=>h)).c
 rw[←Hs.out] at c1
 have b0':w2.cell? ⟨w.heap.size,0,none⟩=some (.pointer (some ⟨tb,0,none⟩)):=by rw[t2.cell (p:=⟨w.heap.size,0,none⟩) (cell_lt b0) (fun h=>h)];exact b0
 have HT2:Hid (Tch (fun _=>False) w w2):=T
 clear T t2 b0 b1 HT
 by_cases hf0:f=2
 ·subst hf0
  go_wp2
  go_ret
  exact⟨by rw[HM.out];rfl,HT2.out⟩
 ·have hf1:((f:Int)==2)=false:=by simp;omega
  have hfI: ¬(f:Int)=2:=by omega
  go_wp2
  go_ret
  exact⟨by rw[HM.out,if_neg hf0];rfl,HT2.out⟩
theorem state_none (w:World):Calls Tryz.prog 87 #[numV none] w fun x w'=>x= .returned (.int .i64 0)∧Tch (fun _=>False) w w':=by
 have q0:=fun W=>known_any none W
 simp only[numV,Option.isSome_none] at q0 ⊢
 go_enter Tryz.func87,Tryz.ntmps87
 go_wp2_with fail
 refine(q0 _).mono ?_
 rintro x w1 ⟨rfl,t1⟩
 clear q0
 have T:Hid (Tch (fun _=>False) w w1):=(Tch.alloc _ _ _).trans' t1
 clear t1
 go_wp2
 go_ret
 exact⟨rfl,T.out⟩
theorem over_any (σ:Nat→Option Nat) (tb:Nat) (t:Tx) (w:World) (h:XB w σ tb t):Calls Tryz.prog 75 #[.pointer (some ⟨tb,0,none⟩)] w fun x w'=>x= .returned (.bool (decide (3≤t.st)))∧w'=w:=by
 obtain⟨v,_,c1,_,_⟩:=h.c
 go_enter Tryz.func75,Tryz.ntmps75
 go_wp2
 go_ret
 refine⟨?_,rfl⟩
 have e:decide ((3:Int)≤(t.st:Int))=decide (3≤t.st):=decide_eq_decide.2 (by omega)
 rw[←e];rfl
theorem find_any (b:Nat) (m:Mg) (σ:Nat→Option Nat) (mb:Nat) (bl:Nat→Nat) (k:Int) (w:World) (h:MG w b m σ mb bl) (h1: -9223372036854775808≤k) (h2:k≤9223372036854775807):
  Calls Tryz.prog 67 #[.map (some mb),.int .i64 k] w fun x w'=>x= .returned (numV (lkB bl m.tx k))∧Tch (fun _=>False) w w':=by
 obtain⟨w0,hw0⟩: ∃w0,w0=w.alloc (.cells #[.pointer none,.int .i64 0] 121):=⟨_,rfl⟩
 have t0:Tch (fun _=>False) w w0:=by rw[hw0];exact Tch.alloc _ _ _
 have hl:=(h.no t0).look h1 h2
 obtain⟨p,i,hpi⟩: ∃p i,numV (lkB bl m.tx k)= .agg #[.pointer p,.int .i64 i]:=by
  cases lkB bl m.tx k with
  |none=>exact⟨_,_,rfl⟩
  |some a=>exact⟨_,_,rfl⟩
 rw[hpi] at hl ⊢
 clear t0 hpi h
 rw[hw0] at hl
 have hrs:Tryz.f67.results=#[.cell 4 121]:=by kernel_rfl
 go_enter Tryz.func67,Tryz.ntmps67
 go_wp2_with fail
 refine bodyPost_ret (v:= .agg #[.pointer p,.int .i64 i]) (by simp only[results,hrs];go_simp) rfl ⟨rfl,Tch.alloc _ _ _⟩
end Go.Proofs.YtppokgdofgigfaaGreat
