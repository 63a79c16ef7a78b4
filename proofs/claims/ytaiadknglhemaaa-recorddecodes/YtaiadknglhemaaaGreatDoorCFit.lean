import Derived.Test.YtaiadknglhemaaaGreatDoorCKeeps
import Derived.Laws.CopyRow
import Derived.Deep.RegionHeld3
namespace Go.Proofs.YtaiadknglhemaaaGreatDoor.C
open Go.RowKit
theorem blk_lt {w:World} {b:Nat} {o:Obj} (h:w.heap[b]? =some o):b<w.heap.size:=(Array.getElem?_eq_some_iff.1 h).1
theorem blk_cell {w:World} {b:Nat} {cs:Array Value} {t:TypeId} {fr:Nat×Nat} (h:w.heap[b]? =some (.cells cs t fr)) (i:Nat):w.cell? ⟨b,i,none⟩=cs[i]? :=by
 simp[World.cell?,h]
theorem blk_frozen {w:World} {b:Nat} {cs:Array Value} {t:TypeId} (h:w.heap[b]? =some (.cells cs t (0,0))) (i:Nat):w.frozen? ⟨b,i,none⟩=false:=by
 simp[World.frozen?,h]
theorem blk_set {w:World} {b i:Nat} {cs:Array Value} {t:TypeId} {fr:Nat×Nat} (h:w.heap[b]? =some (.cells cs t fr)) (v:Value):(w.setCell ⟨b,i,none⟩ v).heap[b]? =some (.cells (cs.setIfInBounds i v) t fr):=by
 have hl:=blk_lt h
 simp only[World.setCell]
 rw[Array.getElem?_modify]
 simp[h]
theorem alloc_new (w:World) (o:Obj):(w.alloc o).heap[w.heap.size]? =some o:=by show(w.heap.push o)[w.heap.size]? =_;simp
theorem row_slice {w:World} {base:Nat} {t:TypeId} {sz n:Nat} {v:Value} {xs:List Value} (h:w.ownsRow base t sz v n xs): ∃ao c,v= .slice ao n c:=by
 rcases h.2 with⟨h1,h2⟩|⟨g,c,cur,h1,_⟩
 ·exact⟨none,0,by rw[h1,h2]⟩
 ·exact⟨_,c,h1⟩
theorem own_tch {S:Nat→Prop} {W W':World} {base sz n:Nat} {t:TypeId} {v:Value} {xs:List Value} (h:W.ownsRow base t sz v n xs) (tc:Tch S W W') (hS: ∀g,v.ownBlock=some g→ ¬S g):W'.ownsRow base t sz v n xs:=by
 obtain⟨h1,h2⟩:=h
 refine⟨h1,?_⟩
 rcases h2 with h2|⟨g,c,cur,hv,hb,hh,hr⟩
 ·exact Or.inl h2
 ·exact Or.inr ⟨g,c,cur,hv,hb,by rw[tc.block g (blk_lt hh) (hS g (by rw[hv];rfl))];exact hh,hr⟩
theorem grown_at {W W1 w1:World} {row:Option Nat} (t:Tch (fun _=>False) W W1) (h:W1.grownBy w1 row):Tch (fun i=>row=some i) W w1:=
 (t.mono (fun _ _ h=>h.elim)).trans' ⟨h.os,h.tape,h.output,h.size,fun k hk hn=>h.block k hk (fun e=>hn e.symm)⟩
theorem own_at {W:World} {base sz n:Nat} {t:TypeId} {ao:Option Addr} {c:Nat} {xs:List Value} (h:W.ownsRow base t sz (.slice ao n c) n xs) (hn:0<n): ∃g,ao=some ⟨g,0,none⟩∧g<W.heap.size∧At W g 0 xs:=by
 rcases h.2 with⟨_,h2⟩|⟨g,c',cur,hv,hb,hh,hc,hm,hs,ht⟩
 ·omega
 ·injection hv with h1
  subst h1
  refine⟨g,rfl,blk_lt hh,fun j u hu=>?_⟩
  rw[Nat.zero_add,blk_cell hh, ←Array.getElem?_toList]
  rw[←ht,List.getElem?_take] at hu
  split at hu
  ·exact hu
  ·simp at hu
def rep (n:Nat) (cs:List Value):List Value:=(List.replicate n cs).flatten
theorem rep_len (n:Nat) (cs:List Value):(rep n cs).length=n*cs.length:=by simp[rep]
theorem rep_succ (n:Nat) (cs:List Value):rep (n+1) cs=rep n cs++cs:=by
 unfold rep
 rw[List.replicate_succ',List.flatten_append];simp
theorem rep_get (cs:List Value): ∀(n q j:Nat),q<n→j<cs.length→(rep n cs)[q*cs.length+j]? =cs[j]?
 |0,q,j,h,_=>by omega
 |n+1,q,j,h,hj=>by
  rw[rep_succ]
  rcases Nat.lt_or_ge q n with hq|hq
  ·have h1:q*cs.length+j<(rep n cs).length:=by
    rw[rep_len]
    have:(q+1)*cs.length≤n*cs.length:=Nat.mul_le_mul_right _ hq
    rw[Nat.add_mul] at this
    omega
   rw[List.getElem?_append_left h1]
   exact rep_get cs n q j hq hj
  ·obtain rfl:q=n:=by omega
   rw[List.getElem?_append_right (by rw[rep_len];omega),rep_len]
   congr 1
   omega
open Go
theorem info_val:(Tryz.prog.info? 58).map (fun i=>(i.zero,i.size,i.bytes))=some (some (.agg #[.int .i64 0,.int .i64 0,.string ⟨#[]⟩]),3,32):=by kernel_rfl
theorem info_col:(Tryz.prog.info? 43).map (fun i=>(i.zero,i.size,i.bytes))=some (some (.agg #[.string ⟨#[]⟩,.int .i64 0,.bool false]),3,32):=by kernel_rfl
theorem add_plain (b o j:Nat):(⟨b,o,none⟩:Addr).add j=⟨b,o+j,none⟩:=by unfold Addr.add;split<;>simp_all
theorem eq_val (a b:Val): ∃d:Bool,(d=true ↔ a=b)∧ ∀w,(Op.equalIn 10000 58 (.agg #[.int .i64 a.k,.int .i64 a.n,.string a.s]) (.agg #[.int .i64 b.k,.int .i64 b.n,.string b.s])).run Tryz.prog w= .ok d w:=by
 have u3:=Tryz.underlying3
 have u9:=Tryz.underlying9
 have hS:Tryz.prog.underlying 58=some (.struct (Tryz.prog.fieldsOf 58)):=by kernel_rfl
 have hp:Tryz.prog.stoodInHeld 58=false:=by kernel_rfl
 refine⟨decide (a.k=b.k∧a.n=b.n∧a.s=b.s),?_,fun w=>?_⟩
 ·simp only[decide_eq_true_eq]
  exact⟨Val.ext',fun h=>by subst h;exact⟨rfl,rfl,rfl⟩⟩
 ·rw[show(10000:Nat)=9999+1 from rfl,run_equalIn_agg w 9999 58 _ _ hS hp]
  simp only[Program.fieldsOf,Tryz.underlying58]
  go_simp
  have hs:(a.s.toList=b.s.toList) ↔ a.s=b.s:=by
   rw[ByteArray.toList_eq,ByteArray.toList_eq]
   exact⟨fun h=>ByteArray.ext (Array.ext' h),fun h=>by rw[h]⟩
  by_cases h1:a.k=b.k<;>by_cases h2:a.n=b.n<;>by_cases h3:a.s=b.s<;>simp[h1,h2,h3,hs]
theorem ne_val (a b:Val): ∃d:Bool,(d=true ↔ a≠b)∧ ∀w,(binOp .neq 58 (.agg #[.int .i64 a.k,.int .i64 a.n,.string a.s]) (.agg #[.int .i64 b.k,.int .i64 b.n,.string b.s])).run Tryz.prog w= .ok (.bool d) w:=by
 obtain⟨d,h1,h2⟩:=eq_val a b
 refine⟨!d,?_,fun w=>?_⟩
 ·cases d<;>simp_all
 ·rw[run_neq_struct,h2];rfl
theorem eq_col (a b:Col): ∃d:Bool,(d=true ↔ a=b)∧ ∀w,(Op.equalIn 10000 43 (.agg #[.string a.nm,.int .i64 a.k,.bool a.nl]) (.agg #[.string b.nm,.int .i64 b.k,.bool b.nl])).run Tryz.prog w= .ok d w:=by
 have u3:=Tryz.underlying3
 have u9:=Tryz.underlying9
 have u4:=Tryz.underlying4
 have hS:Tryz.prog.underlying 43=some (.struct (Tryz.prog.fieldsOf 43)):=by kernel_rfl
 have hp:Tryz.prog.stoodInHeld 43=false:=by kernel_rfl
 refine⟨decide (a.nm=b.nm∧a.k=b.k∧a.nl=b.nl),?_,fun w=>?_⟩
 ·simp only[decide_eq_true_eq]
  exact⟨Col.ext',fun h=>by subst h;exact⟨rfl,rfl,rfl⟩⟩
 ·rw[show(10000:Nat)=9999+1 from rfl,run_equalIn_agg w 9999 43 _ _ hS hp]
  simp only[Program.fieldsOf,Tryz.underlying43]
  go_simp
  have hs:(a.nm.toList=b.nm.toList) ↔ a.nm=b.nm:=by
   rw[ByteArray.toList_eq,ByteArray.toList_eq]
   exact⟨fun h=>ByteArray.ext (Array.ext' h),fun h=>by rw[h]⟩
  by_cases h1:a.nm=b.nm<;>by_cases h2:a.k=b.k<;>by_cases h3:a.nl=b.nl<;>simp[h1,h2,h3,hs]
theorem ne_col (a b:Col): ∃d:Bool,(d=true ↔ a≠b)∧ ∀w,(binOp .neq 43 (.agg #[.string a.nm,.int .i64 a.k,.bool a.nl]) (.agg #[.string b.nm,.int .i64 b.k,.bool b.nl])).run Tryz.prog w= .ok (.bool d) w:=by
 obtain⟨d,h1,h2⟩:=eq_col a b
 refine⟨!d,?_,fun w=>?_⟩
 ·cases d<;>simp_all
 ·rw[run_neq_struct,h2];rfl
def EqOut (xs ys:List Val) (w:World) (x:Ending) (w':World):Prop:= ∃b:Bool,x= .returned (.bool b)∧(b=true ↔ xs=ys)∧ ∃m,w'=w.drewN m
def lentV (l:List Val):List Val:=l++[⟨0,0,⟨#[98,101,104,105,110,100]⟩⟩,⟨0,0,⟨#[102,97,114]⟩⟩]
theorem blk_at {w:World} {g:Nat} {cs:List Value} {t:TypeId} {fr:Nat×Nat} (h:w.heap[g]? =some (.cells cs.toArray t fr)):At w g 0 cs:=fun j u hu=>by
 rw[Nat.zero_add,blk_cell h];simpa using hu
theorem set3_cells {W:World} {g c q:Nat} {t:TypeId} {cur:Array Value} (hh:W.heap[g]? =some (.cells cur t (0,0))) (hs:cur.size=c*3) (hq:q<c) (v0 v1:Value):
  (∃y,W.cell? ⟨g,q*3,none⟩=some y)∧(∃y,(W.setCell ⟨g,q*3,none⟩ v0).cell? ⟨g,q*3+1,none⟩=some y)∧(∃y,((W.setCell ⟨g,q*3,none⟩ v0).setCell ⟨g,q*3+1,none⟩ v1).cell? ⟨g,q*3+2,none⟩=some y)∧ ∀j,W.frozen? ⟨g,j,none⟩=false:=by
 refine⟨⟨cur[q*3]'(by omega),by rw[blk_cell hh];exact Array.getElem?_eq_getElem _⟩,⟨cur[q*3+1]'(by omega),?_⟩,⟨cur[q*3+2]'(by omega),?_⟩,fun j=>blk_frozen hh j⟩
 ·rw[World.cell?_setCell_other (h:=by intro e;injection e;omega),blk_cell hh];exact Array.getElem?_eq_getElem _
 ·rw[World.cell?_setCell_other (h:=by intro e;injection e;omega),World.cell?_setCell_other (h:=by intro e;injection e;omega),blk_cell hh];exact Array.getElem?_eq_getElem _
theorem right_len {t:Tbl} (h:rightE t=0):1≤t.cols.length∧t.cols.length≤8:=by
 unfold rightE at h
 split at h
 ·simp at h
 ·split at h
  ·simp at h
  ·split at h
   ·rename_i h1;exact absurd h h1
   ·rename_i h1
    have h2:colsE t.cols=0:=Classical.byContradiction h1
    unfold colsE at h2
    split at h2
    ·simp at h2
    ·omega
end Go.Proofs.YtaiadknglhemaaaGreatDoor.C
