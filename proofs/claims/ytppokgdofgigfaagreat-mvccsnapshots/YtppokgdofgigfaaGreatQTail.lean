import Derived.Test.YtppokgdofgigfaaGreatXSees
import Derived.Maps.Views
import Derived.StillTail
import Derived.Lib.QuietBelow
set_option maxHeartbeats 1000000
set_option maxRecDepth 100000
namespace Go.Proofs.YtppokgdofgigfaaGreat
open Go.RowKit Go Go.Sort
structure Stp (w:World) (σ:Nat→Option Nat) (w':World) (σ':Nat→Option Nat):Prop where
 tch:Tch (fun i=>σ i≠none) w w'
 ext: ∀i,i<w.heap.size→σ' i=σ i
theorem Stp.trans {w w' w'':World} {σ σ' σ'':Nat→Option Nat} (h:Stp w σ w' σ') (k:Stp w' σ' w'' σ''):Stp w σ w'' σ'':=
 ⟨h.tch.trans k.tch (fun i hi hs=>by rw[h.ext i hi] at hs;exact hs),fun i hi=>(k.ext i (Nat.lt_of_lt_of_le hi h.tch.size)).trans (h.ext i hi)⟩
theorem Stp.of_no {w w':World} {σ:Nat→Option Nat} (h:Tch (fun _=>False) w w'):Stp w σ w' σ:=⟨h.mono (fun _ _ h=>h.elim),fun _ _=>rfl⟩
def MF (w:World) (b:Nat) (m:Mg) (F:Nat→Prop):Prop:= ∃σ mb bl,MG w b m σ mb bl∧ ∀i,F i→σ i=none∧i<w.heap.size
abbrev Kept (F:Nat→Prop) (w w':World):Prop:=Tch (fun i=> ¬F i) w w'
theorem MF.stp {w w':World} {b:Nat} {m':Mg} {σ σ':Nat→Option Nat} {mb:Nat} {bl:Nat→Nat} {F:Nat→Prop} (hF: ∀i,F i→σ i=none∧i<w.heap.size) (h':MG w' b m' σ' mb bl) (s:Stp w σ w' σ'):MF w' b m' F∧Kept F w w':=
 ⟨⟨σ',mb,bl,h',fun i hi=>⟨(s.ext i (hF i hi).2).trans (hF i hi).1,Nat.lt_of_lt_of_le (hF i hi).2 s.tch.size⟩⟩,s.tch.mono (fun i _ hs hf=>hs (hF i hf).1)⟩
theorem MF.tch {w w':World} {b:Nat} {m:Mg} {F S:Nat→Prop} (h:MF w b m F) (t:Tch S w w') (hS: ∀i,i<w.heap.size→S i→F i):MF w' b m F:=by
 obtain⟨σ,mb,bl,h,hF⟩:=h
 exact⟨σ,mb,bl,h.tch t (fun i hi hs=>(hF i (hS i hi hs)).1),fun i hi=>⟨(hF i hi).1,Nat.lt_of_lt_of_le (hF i hi).2 t.size⟩⟩
theorem MF.no {w w':World} {b:Nat} {m:Mg} {F:Nat→Prop} (h:MF w b m F) (t:Tch (fun _=>False) w w'):MF w' b m F:=h.tch t (fun _ _ h=>h.elim)
theorem MF.fresh {w w':World} {b:Nat} {m:Mg} {F:Nat→Prop} (h:MF w b m F) (t:Tch (fun _=>False) w w'):MF w' b m (fun i=>F i∨w.heap.size≤i∧i<w'.heap.size):=by
 obtain⟨σ,mb,bl,h,hF⟩:=h
 refine⟨σ,mb,bl,h.no t,fun i hi=>?_⟩
 rcases hi with hi|⟨h1,h2⟩
 ·exact⟨(hF i hi).1,Nat.lt_of_lt_of_le (hF i hi).2 t.size⟩
 ·refine⟨?_,h2⟩
  cases hs:σ i with
  |none=>rfl
  |some a=>have:=h.lt i (by rw[hs];exact fun h=>by cases h);omega
theorem MF.mono {w:World} {b:Nat} {m:Mg} {F G:Nat→Prop} (h:MF w b m F) (hG: ∀i,G i→F i):MF w b m G:=by
 obtain⟨σ,mb,bl,h,hF⟩:=h
 exact⟨σ,mb,bl,h,fun i hi=>hF i (hG i hi)⟩
theorem new_ok (n:Nat) (w:World) (h1:1≤n) (h2:n≤2147483648):Calls Tryz.prog 13 #[.int .i64 n] w fun x w'=>(∃b,x= .returned (.tuple #[.pointer (some ⟨b,0,none⟩),.int .i64 0])∧w.heap.size≤b∧ ∀F,(∀i,F i→i<w.heap.size)→MF w' b ⟨n,[],[]⟩ F)∧Tch (fun _=>False) w w':=by
 have h1': ¬(n:Int)<1:=by omega
 have h2': ¬(2147483648:Int)<n:=by omega
 obtain⟨w0,hw0⟩: ∃w0,w0=w.alloc (.map #[] 0):=⟨_,rfl⟩
 have t0:Tch (fun _=>False) w w0:=by rw[hw0];exact Tch.alloc _ _ _
 have hs0:w0.heap.size=w.heap.size+1:=by rw[hw0];simp
 obtain⟨w1,hw1⟩: ∃w1,w1=w0.alloc (.cells #[.map (some w.heap.size),.int .i64 n,.slice none 0 0] 83):=⟨_,rfl⟩
 have t1:Tch (fun _=>False) w0 w1:=by rw[hw1];exact Tch.alloc _ _ _
 have hs1:w1.heap.size=w.heap.size+2:=by rw[hw1];simp[hs0]
 have hM:w1.ownsMap Tryz.prog 3 numElem w.heap.size 0 (.map []):=by
  have h0:w0.ownsMap Tryz.prog 3 numElem w.heap.size 0 (.map []):=by rw[hw0];exact World.ownsMap_made w Tryz.prog 3 numElem
  exact ownsMap_tch h0 t1 (fun h=>h)
 have hb:w1.heap[w.heap.size+1]? =some (.cells #[.map (some w.heap.size),.int .i64 n,.slice none 0 0] 83 (0,0)):=by rw[hw1, ←hs0];exact alloc_new _ _
 have HF:Hid (∀F,(∀i,F i→i<w.heap.size)→MF w1 (w.heap.size+1) ⟨n,[],[]⟩ F):=fun F hF=>by
  refine⟨fun i=>if i=w.heap.size∨i=w.heap.size+1 then some (w.heap.size+1) else none,w.heap.size,fun _=>0,⟨?_,⟨_,hb,⟨rfl,Or.inl ⟨rfl,rfl⟩⟩,fun g hg=>by cases hg⟩,by simp,by simp,⟨0,_,Nat.zero_le _,hM,fun k zd=>rfl⟩,(fun t ht=>by cases ht),(fun t ht=>by cases ht),(fun t ht=>by cases ht),fun i hi=>?_⟩,fun i hi=>?_⟩
  ·exact⟨h1,h2,(fun t ht=>by cases ht),(fun t ht=>by cases ht),(fun t ht=>by cases ht),(fun t ht=>by cases ht),(fun t ht=>by cases ht),List.Pairwise.nil,List.Pairwise.nil,(fun t ht=>by cases ht),rfl⟩
  ·have hi':(if i=w.heap.size∨i=w.heap.size+1 then some (w.heap.size+1) else none)≠none:=hi
   split at hi'
   ·omega
   ·exact absurd rfl hi'
  ·have:=hF i hi
   exact⟨if_neg (by omega),by omega⟩
 have HT:Hid (Tch (fun _=>False) w w1):=t0.trans' t1
 have Hw1:Hid (w1=(w.alloc (.map #[] 0)).alloc (.cells #[.map (some w.heap.size),.int .i64 n,.slice none 0 0] 83)):=by show _=_;rw[hw1,hw0]
 clear hb hM hs1 hs0 t0 t1 hw1 hw0 h1 h2
 have hmm:= @run_makeMap Tryz.prog
 go_enter Tryz.func13,Tryz.ntmps13
 go_wp2
 have hw1:=Hw1.out
 rw[←hw1]
 clear hw1
 go_ret2
 exact⟨⟨_,rfl,Nat.le_succ _,HF.out⟩,HT.out⟩
theorem give_any (b:Nat) (m:Mg) (σ:Nat→Option Nat) (mb:Nat) (bl:Nat→Nat) (w:World) (h:MG w b m σ mb bl):Calls Tryz.prog 34 #[.pointer (some ⟨b,0,none⟩)] w fun x w'=>x= .returned (.int .i64 m.nx)∧w'=w.setCell ⟨b,1,none⟩ (.int .i64 (m.nx+1:Nat)):=by
 have c1:=h.c1
 have f1:=h.fz 1
 have hn:=h.wf.n2
 obtain⟨nx,hnx⟩: ∃nx,nx=m.nx:=⟨_,rfl⟩
 rw[←hnx] at c1 hn ⊢
 clear h hnx
 go_enter Tryz.func34,Tryz.ntmps34
 go_wp2
 go_ret
 exact⟨rfl,rfl⟩
theorem begin_any (mb n:Nat) (D:DataW Unit) (k:Int) (w:World) (hD:w.ownsMap Tryz.prog 3 numElem mb n D) (hn:n≤2147483648) (h1: -9223372036854775808≤k) (h2:k≤9223372036854775807):
  Calls Tryz.prog 35 #[.map (some mb),.int .i64 k] w fun x w'=>x= .returned (.tuple #[])∧w'.ownsMap Tryz.prog 3 numElem mb (n+1) (D.put (.int .i64 k) (encN (w.heap.size, -1)))∧w'.heap[w.heap.size]? =some (.cells #[.int .i64 k,.int .i64 1,.slice none 0 0] 119 (0,0))∧Tch (fun i=>i=mb) w w':=by
 obtain⟨w0,hw0⟩: ∃w0,w0=w.alloc (.cells #[.int .i64 k,.int .i64 1,.slice none 0 0] 119):=⟨_,rfl⟩
 have t0:Tch (fun _=>False) w w0:=by rw[hw0];exact Tch.alloc _ _ _
 have hb:w0.heap[w.heap.size]? =some (.cells #[.int .i64 k,.int .i64 1,.slice none 0 0] 119 (0,0)):=by rw[hw0];exact alloc_new _ _
 have hl:=hD.lt
 obtain⟨w1,hrun,hD1,hg1⟩:=(ownsMap_tch hD t0 (fun h=>h)).update law_int Tryz.underlying81 (by unfold maxLen;omega) (Maps.keyOf_int_mk Tryz.underlying3 (int_wf h1 h2)) (numElem_some w.heap.size (-1))
 have HD1:Hid _:=hD1
 have t1:Tch (fun i=>i=mb) w0 w1:=Tch.of_grown hg1 (fun g hg=>by cases hg;rfl)
 have HB:Hid (w1.heap[w.heap.size]? =some (.cells #[.int .i64 k,.int .i64 1,.slice none 0 0] 119 (0,0))):=by
  show _=_
  rw[t1.block _ (blk_lt hb) (by omega)];exact hb
 have HT:Hid (Tch (fun i=>i=mb) w w1):=(t0.mono (fun _ _ h=>h.elim)).trans' t1
 rw[hw0] at hrun
 simp only[numV] at hrun
 clear hD hD1 hg1 t1 hb t0 hl hw0
 go_enter Tryz.func35,Tryz.ntmps35
 go_wp2
 go_end0
 exact⟨rfl,HD1.out,HB.out,HT.out⟩
def Mg.begin (m:Mg):Mg:=⟨m.nx+1,m.on++[m.nx],m.tx++[⟨m.nx,1,[]⟩]⟩
theorem Wf.begin {m:Mg} (h:Wf m) (hn:m.nx≤2147483647):Wf m.begin:=by
 have n1:=h.n1
 refine⟨by show 1≤m.nx+1;omega,by show m.nx+1≤_;omega,?_,?_,?_,?_,?_,?_,?_,?_,?_⟩
 all_goals simp only[Mg.begin]
 ·intro t ht
  rcases List.mem_append.1 ht with ht|ht
  ·have:=h.lo t ht;omega
  ·obtain rfl:=List.mem_singleton.1 ht;exact⟨n1,by simp⟩
 ·intro t ht p hp
  rcases List.mem_append.1 ht with ht|ht
  ·have:=h.pl t ht p hp;omega
  ·obtain rfl:=List.mem_singleton.1 ht;cases hp
 ·intro t ht
  rcases List.mem_append.1 ht with ht|ht
  ·exact h.st t ht
  ·obtain rfl:=List.mem_singleton.1 ht;exact⟨by simp,by simp⟩
 ·intro t ht
  rcases List.mem_append.1 ht with ht|ht
  ·exact h.ln t ht
  ·obtain rfl:=List.mem_singleton.1 ht;simp
 ·intro t ht i p hp
  rcases List.mem_append.1 ht with ht|ht
  ·exact h.ar t ht i p hp
  ·obtain rfl:=List.mem_singleton.1 ht;simp at hp
 ·rw[List.pairwise_append]
  refine⟨h.up,by simp,fun t ht u hu=>?_⟩
  obtain rfl:=List.mem_singleton.1 hu
  exact(h.lo t ht).2
 ·rw[List.pairwise_append]
  refine⟨h.ap,by simp,fun t ht u hu p hp=>?_⟩
  obtain rfl:=List.mem_singleton.1 hu
  have:=(h.pl t ht p hp).2
  exact⟨by simp only;omega,fun q hq=>by cases hq⟩
 ·intro t ht
  rcases List.mem_append.1 ht with ht|ht
  ·exact h.pu t ht
  ·obtain rfl:=List.mem_singleton.1 ht;exact List.Pairwise.nil
 ·rw[List.filter_append,List.map_append, ←h.on];simp
theorem fnd_begin {m:Mg} (h:Wf m) (k:Int):fnd m.begin.tx k=if k=m.nx then some (⟨m.nx,1,[]⟩, -1) else fnd m.tx k:=by
 simp only[Mg.begin]
 rw[fnd_snoc]
 by_cases hk:k=m.nx
 ·rw[if_pos hk]
  have:fnd m.tx k=none:=fnd_no (fun t ht=>⟨by have:=(h.lo t ht).2;omega,fun p hp=>by have:=(h.pl t ht p hp).2;omega⟩)
  rw[this]
  simp[fnd,hk]
 ·rw[if_neg hk]
  cases hf:fnd m.tx k with
  |some a=>rfl
  |none=>simp only[fnd,idx];rw[if_neg (fun e=>hk e.symm)]
theorem key_int (k:Int):Go.WideAt.IsKeyLit (Lit.int .i64 k):=trivial
theorem MG.begin {w w':World} {b:Nat} {m:Mg} {σ:Nat→Option Nat} {mb:Nat} {bl:Nat→Nat} (h:MG w b m σ mb bl) (hn:m.nx≤2147483647) {ov v':Value} {nn:Nat} {D:DataW Unit}
  (hov: ∀g,ov.ownBlock=some g→σ g=some b) (hD: ∀k zd,D.atKey (.int .i64 k) zd=atE (lkB bl m.tx k) zd) (hm:Maps.IsMap D) (hnn:nn≤m.nx)
  (T:Tch (fun i=>i=b∨i=mb∨ov.ownBlock=some i) w w')
  (hB:w'.heap[b]? =some (.cells #[.map (some mb),.int .i64 (m.nx+1:Nat),v'] 83 (0,0))) (hv:w'.ownsRow 0 3 1 v' (m.on.length+1) (icl m.on++[.int .i64 m.nx]))
  (hvb: ∀g,v'.ownBlock=some g→ov.ownBlock=some g∨w.heap.size<g) (hD':w'.ownsMap Tryz.prog 3 numElem mb (nn+1) (D.put (.int .i64 m.nx) (encN (w.heap.size, -1))))
  (hX:w'.heap[w.heap.size]? =some (.cells #[.int .i64 m.nx,.int .i64 1,.slice none 0 0] 119 (0,0))): ∃σ' bl',MG w' b m.begin σ' mb bl'∧Stp w σ w' σ':=by
 have hbl:=h.bl'
 have hml:=h.ml
 have hSσ: ∀i,(i=b∨i=mb∨ov.ownBlock=some i)→σ i=some b:=fun i hi=>by
  rcases hi with rfl|rfl|hi
  ·exact h.lb
  ·exact h.lm
  ·exact hov i hi
 obtain⟨σ',hσ'⟩: ∃σ':Nat→Option Nat,σ'=fun i=>if i<w.heap.size then σ i else if i=w.heap.size then some w.heap.size else if v'.ownBlock=some i then some b else none:=⟨_,rfl⟩
 have s1: ∀i,i<w.heap.size→σ' i=σ i:=fun i hi=>by rw[hσ'];exact if_pos hi
 have s2:σ' w.heap.size=some w.heap.size:=by rw[hσ'];simp
 have s3: ∀i,w.heap.size<i→σ' i=if v'.ownBlock=some i then some b else none:=fun i hi=>by rw[hσ'];simp only;rw[if_neg (by omega),if_neg (by omega)]
 clear hσ'
 obtain⟨bl',hbl'⟩: ∃bl':Nat→Nat,bl'=fun x=>if x=m.nx then w.heap.size else bl x:=⟨_,rfl⟩
 have b1:bl' m.nx=w.heap.size:=by rw[hbl'];simp
 have b2: ∀t∈m.tx,bl' t.x=bl t.x:=fun t ht=>by rw[hbl'];simp only;rw[if_neg (by have:=(h.wf.lo t ht).2;omega)]
 clear hbl'
 have hsl:=blk_lt hX
 refine⟨σ',bl',⟨h.wf.begin hn,⟨v',hB,?_,?_⟩,?_,?_,⟨nn+1,_,by show nn+1≤m.nx+1;omega,hD',?_⟩,?_,?_,?_,?_⟩,⟨?_,s1⟩⟩
 ·simp only[Mg.begin,icl_snoc,List.length_append,List.length_cons,List.length_nil]
  exact hv
 ·intro g hg
  rcases hvb g hg with hg'|hg'
  ·have h1:=hov g hg'
   rw[s1 g (h.lt g (by rw[h1];exact fun e=>by cases e)),h1]
  ·rw[s3 g hg',if_pos hg]
 ·rw[s1 b hbl];exact h.lb
 ·rw[s1 mb hml];exact h.lm
 ·intro k zd
  simp only[lkB]
  rw[fnd_begin h.wf]
  by_cases hk:k=m.nx
  ·rw[if_pos hk,hk]
   rw[Maps.atKey_put_same hm (key_int _)]
   simp[atE,b1]
  ·rw[if_neg hk,Maps.atKey_put_other (fun e=>hk (by injection e)),hD]
   cases hf:fnd m.tx k with
   |none=>simp[lkB,hf,atE]
   |some a=>simp only[lkB,hf,Option.map_some,b2 a.1 (fnd_mem hf).1]
 ·intro t ht
  rcases List.mem_append.1 ht with ht|ht
  ·rw[b2 t ht]
   refine(h.xs t ht).tch T (fun i hi hs e=>?_) (fun i hi e=>by rw[s1 i hi];exact e)
   rw[hSσ i hs] at e
   injection e with e
   exact h.nb t ht e.symm
  ·obtain rfl:=List.mem_singleton.1 ht
   show XB w' σ' (bl' m.nx) _
   rw[b1]
   exact⟨s2,⟨_,hX,⟨rfl,Or.inl ⟨rfl,rfl⟩⟩,fun g hg=>by cases hg⟩⟩
 ·intro t ht u hu
  rcases List.mem_append.1 ht with ht|ht<;>rcases List.mem_append.1 hu with hu|hu
  ·rw[b2 t ht,b2 u hu];exact h.inj t ht u hu
  ·obtain rfl:=List.mem_singleton.1 hu
   intro e
   have e':bl' t.x=bl' m.nx:=e
   rw[b2 t ht,b1] at e'
   have:=(h.xs t ht).lt
   omega
  ·obtain rfl:=List.mem_singleton.1 ht
   intro e
   have e':bl' m.nx=bl' u.x:=e
   rw[b2 u hu,b1] at e'
   have:=(h.xs u hu).lt
   omega
  ·obtain rfl:=List.mem_singleton.1 ht
   obtain rfl:=List.mem_singleton.1 hu
   intro _;rfl
 ·intro t ht
  rcases List.mem_append.1 ht with ht|ht
  ·rw[b2 t ht];exact h.nb t ht
  ·obtain rfl:=List.mem_singleton.1 ht
   show bl' m.nx≠b
   rw[b1];omega
 ·intro i hi
  rcases Nat.lt_trichotomy i w.heap.size with h1|h1|h1
  ·rw[s1 i h1] at hi
   exact Nat.lt_of_lt_of_le h1 T.size
  ·rw[h1];exact hsl
  ·rw[s3 i h1] at hi
   split at hi
   ·rename_i hg
    obtain⟨cur,hc⟩:=own_blk hv hg
    exact blk_lt hc
   ·exact absurd rfl hi
 ·exact T.mono (fun i hi hs e=>by rw[hSσ i hs] at e;cases e)
theorem begin_ok (b:Nat) (m:Mg) (σ:Nat→Option Nat) (mb:Nat) (bl:Nat→Nat) (w:World) (h:MG w b m σ mb bl) (hn:m.nx≤2147483647):
  Calls Tryz.prog 15 #[.pointer (some ⟨b,0,none⟩)] w fun x w'=>x= .returned (.tuple #[.int .i64 m.nx,.int .i64 0])∧ ∃σ' bl',MG w' b m.begin σ' mb bl'∧Stp w σ w' σ':=by
 obtain⟨i0,hi,hz0,hz1,hz2⟩:=info_parts info_int
 have qn:=noneLeft_any b m σ mb bl w h
 rw[decide_eq_false (by omega)] at qn
 have qg:=give_any b m σ mb bl w h
 obtain⟨ov,hb,hon,hlab⟩:=h.blk
 obtain⟨nn,D,hnn,hD,hkD⟩:=h.mp
 have hbl:=h.bl'
 have hml:=h.ml
 have hne:=h.mne
 have hol:=on_le h.wf
 obtain⟨w1,hw1⟩: ∃w1,w1=w.setCell ⟨b,1,none⟩ (.int .i64 (m.nx+1:Nat)):=⟨_,rfl⟩
 rw[←hw1] at qg
 have t1:Tch (fun i=>i=b) w w1:=by rw[hw1];exact Tch.setCell _ _ _ _ rfl
 have hs1:w1.heap.size=w.heap.size:=by rw[hw1];simp[World.setCell]
 have hb1:w1.heap[b]? =some (.cells #[.map (some mb),.int .i64 (m.nx+1:Nat),ov] 83 (0,0)):=by rw[hw1];exact blk_set hb _
 have hovb: ∀g,ov.ownBlock=some g→g≠b:=fun g hg e=>by
  obtain⟨cur,hc⟩:=own_blk hon hg
  rw[e,hb] at hc
  cases hc
 have hovm: ∀g,ov.ownBlock=some g→g≠mb:=fun g hg e=>by
  obtain⟨cur,hc⟩:=own_blk hon hg
  obtain⟨es,clock,hh,_⟩:=hD
  rw[e,hh] at hc
  cases hc
 have hovl: ∀g,ov.ownBlock=some g→g<w.heap.size:=fun g hg=>by
  obtain⟨cur,hc⟩:=own_blk hon hg
  exact blk_lt hc
 have hD1:=ownsMap_tch hD t1 hne
 have hon1:=own_tch hon t1 hovb
 have qb:=begin_any mb nn D m.nx w1 hD1 (by have:=h.wf.n2;omega) (by omega) (by omega)
 have c0:w1.cell? ⟨b,0,none⟩=some (.map (some mb)):=by rw[blk_cell hb1];rfl
 obtain⟨nx,hnx⟩: ∃nx,nx=m.nx:=⟨_,rfl⟩
 obtain⟨ln,hln⟩: ∃ln,ln=m.on.length:=⟨_,rfl⟩
 rw[←hln] at hon1 hol
 have Hln:Hid (ln=m.on.length):=hln
 rw[←hnx] at qg qb hn hb1 ⊢
 have Hnx:Hid (nx=m.nx):=hnx
 have Hh:Hid (MG w b m σ mb bl):=h
 have Hb1:Hid _:=hb1
 have Hon1:Hid _:=hon1
 have Ht1:Hid _:=t1
 have Hs1:Hid _:=hs1
 have HkD:Hid _:=hkD
 have Hov:Hid ((∀g,ov.ownBlock=some g→g≠b)∧(∀g,ov.ownBlock=some g→g≠mb)∧(∀g,ov.ownBlock=some g→g<w.heap.size)∧ ∀g,ov.ownBlock=some g→σ g=some b):=⟨hovb,hovm,hovl,hlab⟩
 have HD:Hid (w.ownsMap Tryz.prog 3 numElem mb nn D):=hD
 have Hm:Hid (mb≠b∧b<w.heap.size∧mb<w.heap.size∧nn≤m.nx):=⟨hne,hbl,hml,hnn⟩
 clear h hb hon hlab hD hkD hbl hml hne hovb hovm hovl hD1 hb1 hon1 t1 hs1 hnn hw1 hnx hln
 go_enter Tryz.func15,Tryz.ntmps15
 go_wp2_with fail
 refine qn.mono ?_
 rintro x w' ⟨rfl,hw'⟩
 obtain rfl:=hw'.symm
 clear qn
 go_wp2_with fail
 refine qg.mono ?_
 rintro x w' ⟨rfl,hw'⟩
 obtain rfl:=hw'.symm
 clear qg
 go_wp2_with fail
 refine qb.mono ?_
 rintro x w2 ⟨rfl,hD2,hb2,t2⟩
 clear qb c0
 have hbm:b≠mb:=fun e=>Hm.out.1 e.symm
 have hB2:w2.heap[b]? =some (.cells #[.map (some mb),.int .i64 (nx+1:Nat),ov] 83 (0,0)):=by rw[t2.block b (by rw[Hs1.out];exact Hm.out.2.1) hbm];exact Hb1.out
 have hon2:=own_tch Hon1.out t2 Hov.out.2.1
 have c2:w2.cell? ⟨b,2,none⟩=some ov:=by rw[blk_cell hB2];rfl
 obtain⟨oo,oc,rfl⟩:=row_slice hon2
 obtain⟨w3,hw3⟩: ∃w3,w3=w2.alloc (.cells #[.int .i64 nx] 3):=⟨_,rfl⟩
 have t3:Tch (fun _=>False) w2 w3:=by rw[hw3];exact Tch.alloc _ _ _
 have Hon3:Hid (w3.ownsRow 0 3 1 (.slice oo ln oc) ln (icl m.on)):=own_tch hon2 t3 (fun _ _ h=>h)
 have Hcl:Hid (∀j u,([.int .i64 nx]:List Value)[j]? =some u→w3.cell? ((⟨w2.heap.size,0,none⟩:Addr).add j)=some u):=fun j u hu=>by
  have hb3:w3.heap[w2.heap.size]? =some (.cells #[.int .i64 nx] 3 (0,0)):=by rw[hw3];exact alloc_new _ _
  rw[add_plain,blk_cell hb3]
  cases j with
  |zero=>simpa using hu
  |succ j=>simp at hu
 have HB3:Hid (w3.heap[b]? =some (.cells #[.map (some mb),.int .i64 (nx+1:Nat),.slice oo ln oc] 83 (0,0))):=by show _=_;rw[t3.block b (blk_lt hB2) (fun h=>h)];exact hB2
 have Hw3:Hid _:=hw3
 have Ht3:Hid _:=t3
 have Ht2:Hid _:=t2
 have HD2:Hid _:=hD2
 have Hb2:Hid _:=hb2
 clear hw3 t3 hon2 hB2 t2 hD2 hb2
 go_wp2_with (at_builtin;have hw3:=Hw3.out;rw[←hw3];clear hw3;refine wpList_append_keeps _ rfl _ _ 23 rfl 0 3 i0 (.int .i64 0) 1 8 Tryz.underlying23 hi hz0 hz1 hz2 rfl (by decide) (.slice oo ln oc) ln (icl m.on) rfl Hon3.out ⟨w2.heap.size,0,none⟩ 1 1 [.int .i64 nx] rfl rfl Hcl.out (fun u hu=>by simp at hu;subst hu;rfl) (by unfold maxLen;omega) (by omega) (Nat.zero_le _) ?_;intro v4 w4 hown4 hgr4 hat4 _;obtain⟨o4,c4,hv4⟩:=row_slice hown4;subst hv4;have HO4:Hid (w4.ownsRow 0 3 1 (.slice o4 (ln+1) c4) (ln+1) (icl m.on++[.int .i64 nx])):=hown4;have HG4:Hid _:=hgr4;have HA4:Hid _:=hat4;have HB4:Hid (w4.heap[b]? =some (.cells #[.map (some mb),.int .i64 (nx+1:Nat),.slice oo ln oc] 83 (0,0))):=(by show _=_;rw[(grown_at (Tch.refl (fun _=>False) w3) hgr4).block b (blk_lt HB3.out) (fun e=>Hov.out.1 b e rfl)];exact HB3.out);have d2:w4.cell? ⟨b,2,none⟩=some (.slice oo ln oc):=(by rw[blk_cell HB4.out];rfl);have f2:=blk_frozen HB4.out 2;clear hown4 hgr4 hat4 c2)
 have HFin:Hid (∃σ' bl',MG (w4.setCell ⟨b,2,none⟩ (.slice o4 (ln+1) c4)) b m.begin σ' mb bl'∧Stp w σ (w4.setCell ⟨b,2,none⟩ (.slice o4 (ln+1) c4)) σ'):=by
  obtain⟨hne,hbw,hmw,hnn⟩:=Hm.out
  obtain⟨ov1,ov2,ov3,ov4⟩:=Hov.out
  have hs1:=Hs1.out
  have tA:Tch (fun i=>i=b∨i=mb∨(Value.slice oo ln oc).ownBlock=some i) w w1:=Ht1.out.mono (fun i _ e=>Or.inl e)
  have tB:Tch (fun i=>i=b∨i=mb∨(Value.slice oo ln oc).ownBlock=some i) w w2:=tA.trans Ht2.out (fun i _ e=>Or.inr (Or.inl e))
  have tC:Tch (fun i=>i=b∨i=mb∨(Value.slice oo ln oc).ownBlock=some i) w w3:=tB.trans Ht3.out (fun i _ e=>e.elim)
  have tD:Tch (fun i=>i=b∨i=mb∨(Value.slice oo ln oc).ownBlock=some i) w w4:=tC.trans (grown_at (Tch.refl (fun _=>False) w3) HG4.out) (fun i _ e=>Or.inr (Or.inr e))
  have tE:Tch (fun i=>i=b) w4 (w4.setCell ⟨b,2,none⟩ (.slice o4 (ln+1) c4)):=Tch.setCell _ _ _ _ rfl
  have tF:=tD.trans tE (fun i _ e=>Or.inl e)
  have hon4:=HO4.out
  have hsz2:w.heap.size<w2.heap.size:=by rw[←hs1];exact blk_lt Hb2.out
  have hs3:w2.heap.size<w3.heap.size:=by rw[Hw3.out];simp
  have hvb: ∀g,(Value.slice o4 (ln+1) c4).ownBlock=some g→(Value.slice oo ln oc).ownBlock=some g∨w.heap.size<g:=fun g hg=>by
   rcases HA4.out with e|e
   ·rw[e] at hg;exact Or.inl hg
   ·rw[e] at hg
    injection hg with hg
    omega
  have hgb: ∀g,(Value.slice o4 (ln+1) c4).ownBlock=some g→g≠b:=fun g hg e=>by
   rcases hvb g hg with h1|h1
   ·exact ov1 g h1 e
   ·omega
  have hX:=Hb2.out
  rw[hs1] at hX
  have nX: ∀i, ¬(w.heap.size=i∧i<w.heap.size):=fun i h=>by omega
  have hX3:=(Ht3.out.block w.heap.size hsz2 (fun h=>h)).trans hX
  have hX4:=((grown_at (Tch.refl (fun _=>False) w3) HG4.out).block w.heap.size (by omega) (fun e=>by have:=ov3 _ e;omega)).trans hX3
  have hX5:=(tE.block w.heap.size (blk_lt hX4) (by omega)).trans hX4
  have hD2:=HD2.out
  rw[hs1] at hD2
  have hD3:=ownsMap_tch hD2 Ht3.out (fun h=>h)
  have hD4:=ownsMap_tch hD3 (grown_at (Tch.refl (fun _=>False) w3) HG4.out) (fun e=>ov2 _ e rfl)
  have hD5:=ownsMap_tch hD4 tE hne
  have hnx:=Hnx.out
  have hln:=Hln.out
  subst hnx
  subst hln
  exact Hh.out.begin hn (ov:= .slice oo m.on.length oc) ov4 HkD.out HD.out.isMap hnn tF (blk_set HB4.out _) (own_tch hon4 tE hgb) hvb hD5 hX5
 go_ret2
 exact⟨rfl,HFin.out⟩
end Go.Proofs.YtppokgdofgigfaaGreat
namespace Go.Proofs.YtppokgdofgigfaaGreat
set_option maxRecDepth 100000
open Go Go.Sort
def headQ (P:Program) (md:Region.Mode) (ops:Array Oper) (C:World→Prop) (n:Nat) (L:Array Bool→Act→Prop):Nat→Array Bool→Act→Prop
 |0,listed,a=>L listed a
 |f+1,listed,a=>Region.ready md ops listed≠[]∧ ∀i∈Region.ready md ops listed,i<n∧qOp P ops C i (headQ P md ops C n L f (listed.setIfInBounds i true)) a
theorem headQ_any {P:Program} {ops:Array Oper} {md:Region.Mode} {C:World→Prop} {n g:Nat} {L:Array Bool→Act→Prop} {Q':Exit→Act→World→Prop} (hL: ∀listed a w,C w→L listed a→wpAny P md ops Q' g listed a w) (f:Nat):
  ∀(listed:Array Bool) (a:Act) (w:World),C w→headQ P md ops C n L f listed a→wpAny P md ops Q' (f+g) listed a w:=by
 induction f with
 |zero=>intro listed a w hw h;rw[Nat.zero_add];exact hL _ _ _ hw h
 |succ f ih=>
  intro listed a w hw h
  rw[Nat.succ_add]
  exact⟨fun h0=>absurd h0 h.1,fun i hi=>wpOp_of_qOp hw (fun a' w' hw' h'=>ih _ a' w' hw' h') (h.2 i hi).2⟩
theorem headQ_first {P:Program} {ops:Array Oper} {md:Region.Mode} {C:World→Prop} {n i:Nat} {oi:Oper} {v:Value} {L:Array Bool→Act→Prop} (hi:ops[i]? =some oi) (hsel: ∀(j:Nat) (o:Oper) cs b,ops[j]? =some o→o.op≠ .select cs b)
  (hs:Region.sinkB md ops n=true) (hc:Region.chainB md ops n=true) (hn:n<ops.size) (hin:i<n)
  (hdone: ∀listed a,L listed a→ ∀j∈Region.ready md ops listed,n≤j) (f:Nat):
  ∀(listed:Array Bool) (a:Act),HeadInv md ops n listed→
   (∀j oj,ops[j]? =some oj→j≠i→listed.getD j true=false→(∀e∈oj.after,Region.binds md e=true→e.on≠i)→oi.apart ops oj=true)→
   i∈Region.ready md ops listed→YieldsIn P ops C oi v a→
   headQ P md ops C n L f (listed.setIfInBounds i true) (a.put oi.dst v)→headQ P md ops C n L (f+1) listed a:=by
 have low: ∀(listed:Array Bool),HeadInv md ops n listed→i∈Region.ready md ops listed→ ∀j∈Region.ready md ops listed,j<n:=by
  intro listed inv hr j hj
  rcases Nat.lt_or_ge j n with h|h
  ·exact h
  ·exact absurd hj (tail_waits hs hc hn inv _ i rfl hin (mem_ready.1 hr).1 j h)
 have ne: ∀(listed:Array Bool),i∈Region.ready md ops listed→Region.ready md ops listed≠[]:=fun listed hr h=>by rw[h] at hr;cases hr
 induction f with
 |zero=>
  intro listed a inv _ hr hy H
  refine⟨ne _ hr,fun j hj=>⟨low _ inv hr j hj,?_⟩⟩
  by_cases hji:j=i
  ·subst hji;exact hy.qOp hi H
  ·have h1:=hdone _ _ H j (ready_mono hj hji)
   have h2:=low _ inv hr j hj
   omega
 |succ f ih=>
  intro listed a inv hfree hr hy H
  refine⟨ne _ hr,fun j hj=>⟨low _ inv hr j hj,?_⟩⟩
  by_cases hji:j=i
  ·subst hji;exact hy.qOp hi H
  ·obtain⟨hjun,oj,hoj,hall⟩:=mem_ready.1 hj
   have hnot: ∀e∈oj.after,Region.binds md e=true→e.on≠i:=fun e he hb heq=>by
    have h1:=hall e he hb
    rw[heq,getD_both (mem_ready.1 hr).1] at h1
    cases h1
   have h2:=qOp_put hoj (hfree j oj hoj hji hjun hnot) (fun cs b=>hsel i oi cs b hi) (fun cs b=>hsel j oj cs b hoj) hy (H.2 j (ready_mono hj hji)).2
   refine qOp_mono (fun a' h3=>ih (listed.setIfInBounds j true) a' (inv.set hj (low _ inv hr j hj)) (fun k ok hk hki hun hno=>hfree k ok hk hki ?_ hno) (ready_mono hr (Ne.symm hji)) h3.1 ?_) h2
   ·by_cases hjk:j=k
    ·subst hjk;exact hjun
    ·rwa [getD_set_ne true hjk] at hun
   ·rw[Array.setIfInBounds_comm _ _ hji]
    exact h3.2
theorem headQ_lex {P:Program} {ops:Array Oper} {md:Region.Mode} {C:World→Prop} {n g:Nat} {Lq:Act→Prop} (hsel:Region.noSelect ops=true) (hs:Region.sinkB md ops n=true) (hc:Region.chainB md ops n=true) (hn:n<ops.size) (l:List Oper):
  ∀(k:Nat) (listed:Array Bool) (a:Act),(∀j,j<l.length→l[j]? =ops[k+j]?)→k+l.length=n→HeadInv md ops n listed→
  Region.lexHead md ops g l.length k listed=true→wpQuiet P ops C Lq l a→
  headQ P md ops C n (fun listed' a'=>Region.seqB md ops g n listed'=true∧Lq a') l.length listed a:=by
 induction l with
 |nil=>
  intro k listed a _ hk _ hB h
  obtain rfl:k=n:=by simpa using hk
  exact⟨by simpa[Region.lexHead] using hB,h⟩
 |cons o l ih=>
  intro k listed a hl hk inv hB h
  have h0:ops[k]? =some o:=by simpa using(hl 0 (by simp)).symm
  simp only[List.length_cons,Region.lexHead,Bool.and_eq_true] at hB
  simp only[List.length_cons] at hk
  have hkn:k<n:=by omega
  have hr:k∈Region.ready md ops listed:=by simpa using hB.1.1
  have hq:qOp P ops C k (wpQuiet P ops C Lq l) a:=by unfold qOp;simp only[h0];exact h
  obtain⟨v,hy,hK⟩:=yieldsIn_of_qOp h0 hq
  refine headQ_first h0 (Region.noSelect_spec hsel) hs hc hn hkn (fun listed' a' hL=>seqB_ready hL.1) l.length listed a inv (Region.free_spec h0 hB.1.2) hr hy
   (ih (k+1) _ _ (fun j hj=>?_) (by omega) (inv.set hr hkn) hB.2 hK)
  have:=hl (j+1) (by simp;omega)
  simpa[Nat.add_assoc,Nat.add_comm 1 j] using this
theorem wp_region_quiet_tail {P:Program} {C:World→Prop} {id:Nat} {Q:Exit→Act→World→Prop} {a:Act} {w:World} {l:List Oper} (n:Nat) (hm:P.follows .mixedOrders=true) (hB:Region.lexTailB .any l.toArray n=true) (hC:C { w with drawn:=w.drawn+1 })
  (h:wpQuiet P l.toArray C (fun a'=> ∀w',C w'→wpList P l.toArray Q (l.drop n) a' w') (l.take n) a):(Code.region id l.toArray true).wp P Q a w:=by
 simp only[Region.lexTailB,Bool.and_eq_true,decide_eq_true_eq] at hB
 obtain⟨⟨⟨⟨hsel,hn⟩,hs⟩,hc⟩,hlex⟩:=hB
 have hn':n<l.length:=by simpa using hn
 have htl:(l.take n).length=n:=by simp;omega
 have hdl:(l.drop n).length=l.toArray.size - n:=by simp
 have inv0:HeadInv .any l.toArray n (Array.replicate l.toArray.size false):=
  ⟨by simp,fun j oj _ hl=>(by rw[getD_replicate_false] at hl;cases hl),fun t _ ht=>getD_in (by simpa using ht) (getD_replicate_false _ _)⟩
 have H:=headQ_lex (md:= .any) (g:=l.toArray.size - n) hsel hs hc hn (l.take n) 0 _ a (fun j hj=>by
  have hj':j<n:=by rw[htl] at hj;exact hj
  simp[hj']) (by simpa using htl) inv0 (by rw[htl];exact hlex) h
 refine wp_region_any hm ?_
 have:=headQ_any (Q':=Q) (g:=l.toArray.size - n) (fun listed a' w' hw hL=>by
  have:=wpAny_of_seq (md:= .any) (Q':=Q) (l.drop n) n listed a' w' (fun j=>by simp[List.getElem?_drop]) (by rw[hdl];exact hL.1) (hL.2 w' hw)
  rwa [hdl] at this) _ _ _ _ hC H
 rw[htl,show n+(l.toArray.size - n)=l.toArray.size by omega] at this
 exact this
theorem wp_region_below_tail {P:Program} {id:Nat} {Q:Exit→Act→World→Prop} {a:Act} {w:World} {l:List Oper} (n:Nat) (hm:P.follows .mixedOrders=true) (hB:Region.lexTailB .any l.toArray n=true)
  (h:wpQuiet P l.toArray (fun w'=> ∃p:Regrown,w'=grow (redrawn w p.d) p.os) (fun a'=> ∀w',(∃p:Regrown,w'=grow (redrawn w p.d) p.os)→wpList P l.toArray Q (l.drop n) a' w') (l.take n) a):(Code.region id l.toArray true).wp P Q a w:=
 wp_region_quiet_tail (C:=fun w'=> ∃p:Regrown,w'=grow (redrawn w p.d) p.os) n hm hB ⟨⟨w.drawn+1,#[]⟩,by rw[grow_empty];rfl⟩ h
theorem wp_region_drew_tail {P:Program} {id:Nat} {Q:Exit→Act→World→Prop} {a:Act} {w:World} {l:List Oper} (n:Nat) (hm:P.follows .mixedOrders=true) (hB:Region.lexTailB .any l.toArray n=true)
  (h:wpQuiet P l.toArray (fun w'=> ∃m,w'=w.drewN m) (fun a'=> ∀w',(∃m,w'=w.drewN m)→wpList P l.toArray Q (l.drop n) a' w') (l.take n) a):(Code.region id l.toArray true).wp P Q a w:=
 wp_region_quiet_tail (C:=fun w'=> ∃m,w'=w.drewN m) n hm hB ⟨1,rfl⟩ h
end Go.Proofs.YtppokgdofgigfaaGreat
