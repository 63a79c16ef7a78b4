import Derived.Test.YtppokgdofgigfaaGreatXOwn0
import Derived.Lib.SlMapFilter
import Derived.Laws.IdiomRangeMap
import Derived.Deep.LoopGhost
set_option maxHeartbeats 4000000
set_option maxRecDepth 100000
namespace Go.Proofs.YtppokgdofgigfaaGreat
open Go.RowKit Go Go.Sort
def pkN (c:Int) (n:Nat):Nat:=((if c<0 then -(c+1) else c) % (n:Int)).toNat
theorem pkN_lt (c:Int) {n:Nat} (h:0<n):pkN c n<n:=by
 unfold pkN
 have h1:=Int.emod_nonneg (if c<0 then -(c+1) else c) (show(n:Int)≠0 by omega)
 have h2:=Int.emod_lt_of_pos (if c<0 then -(c+1) else c) (show(0:Int)<n by omega)
 omega
section
variable (b:Nat) (m:Mg) (w:World) (F:Nat→Prop) (h:MF w b m F)
include h
theorem begin_f (hn:m.nx≤2147483647):Calls Tryz.prog 15 #[.pointer (some ⟨b,0,none⟩)] w fun x w'=>x= .returned (.tuple #[.int .i64 m.nx,.int .i64 0])∧MF w' b m.begin F∧Kept F w w':=by
 obtain⟨σ,mb,bl,h,hF⟩:=h
 exact(begin_ok b m σ mb bl w h hn).mono fun x w' ⟨hx,σ',bl',h',s'⟩=>⟨hx,MF.stp hF h' s'⟩
theorem state_f (k:Int) (h1: -9223372036854775808≤k) (h2:k≤9223372036854775807):Calls Tryz.prog 90 #[.pointer (some ⟨b,0,none⟩),.int .i64 k] w fun x w'=>x= .returned (.int .i64 (m.state k))∧Tch (fun _=>False) w w':=by
 obtain⟨σ,mb,bl,h,hF⟩:=h
 exact state_any b m σ mb bl w h k h1 h2
theorem snapshot_f:Calls Tryz.prog 10 #[.pointer (some ⟨b,0,none⟩)] w fun x w'=>SnapOut m w x w':=by
 obtain⟨σ,mb,bl,h,hF⟩:=h
 exact snapshot_any b m σ mb bl w h
theorem sees_f (mn mx:Int) (l:List Int) (ao:Option Addr) (c:Nat) (hl:l.length≤9223372036854775807) (hI:IR w ao l) (own x:Int) (h1: -9223372036854775808≤x) (h2:x≤9223372036854775807) (h3: -9223372036854775808≤own) (h4:own≤9223372036854775807):
  Calls Tryz.prog 58 #[.pointer (some ⟨b,0,none⟩),.agg #[.int .i64 mn,.int .i64 mx,.slice ao l.length c],.int .i64 own,.int .i64 x] w fun y w'=>y= .returned (.bool (m.sees mn mx l own x))∧Tch (fun _=>False) w w':=by
 obtain⟨σ,mb,bl,h,hF⟩:=h
 cases hf:fnd m.tx x with
 |none=>exact sees_none b m σ mb bl w h mn mx l _ own x h1 h2 hf
 |some a=>
  obtain⟨t,i⟩:=a
  exact sees_some b m σ mb bl w h mn mx l ao c hl hI own x h1 h2 h3 h4 hf
def PartOut (m:Mg) (b:Nat) (k:Int) (w:World) (F:Nat→Prop) (x:Ending) (w':World):Prop:=
 (fnd m.tx k=none→x= .returned (.tuple #[.int .i64 0,.int .i64 70])∧Tch (fun _=>False) w w')∧
 (∀t i,fnd m.tx k=some (t,i)→(partE m t i≠0→x= .returned (.tuple #[.int .i64 0,.int .i64 (partE m t i)])∧Tch (fun _=>False) w w')∧(partE m t i=0→x= .returned (.tuple #[.int .i64 m.nx,.int .i64 0])∧MF w' b (m.part t i) F∧Kept F w w'))
theorem part_f (k:Int) (h1: -9223372036854775808≤k) (h2:k≤9223372036854775807):Calls Tryz.prog 44 #[.pointer (some ⟨b,0,none⟩),.int .i64 k] w fun x w'=>(∃y e:Nat,x= .returned (.tuple #[.int .i64 y,.int .i64 e]))∧PartOut m b k w F x w':=by
 obtain⟨σ,mb,bl,h,hF⟩:=h
 cases hf:fnd m.tx k with
 |none=>
  refine(part_none b m σ mb bl w h k h1 h2 hf).mono fun x w' ⟨hx,t⟩=>⟨⟨0,70,hx⟩,fun _=>⟨hx,t⟩,fun t i e=>?_⟩
  rw[hf] at e;cases e
 |some a=>
  obtain⟨t,i⟩:=a
  refine(part_some b m σ mb bl w h k h1 h2 hf).mono fun x w' ⟨hA,hB⟩=>?_
  by_cases hE:partE m t i=0
  ·obtain⟨hx,σ',h',s'⟩:=hB hE
   refine⟨⟨m.nx,0,hx⟩,(fun e=>by rw[hf] at e;cases e),fun u j e=>?_⟩
   rw[hf] at e
   injection e with e
   injection e with e1 e2
   subst e1 e2
   exact⟨fun hn=>absurd hE hn,fun _=>⟨hx,MF.stp hF h' s'⟩⟩
  ·obtain⟨hx,tt⟩:=hA hE
   refine⟨⟨0,partE m t i,hx⟩,(fun e=>by rw[hf] at e;cases e),fun u j e=>?_⟩
   rw[hf] at e
   injection e with e
   injection e with e1 e2
   subst e1 e2
   exact⟨fun _=>⟨hx,tt⟩,fun hn=>absurd hn hE⟩
end
theorem kept_of {w w1:World} {F:Nat→Prop} (t:Tch (fun _=>False) w w1):Kept F w w1:=t.mono (fun _ _ h=>h.elim)
end Go.Proofs.YtppokgdofgigfaaGreat
namespace Go.Proofs.YtppokgdofgigfaaGreat
open Go.RowKit Go Go.Sort Go.Maps
def lastX (t:Tx):Nat:=match t.ps.getLast? with
 |some p=>p.x
 |none=>t.x
theorem last_any (σ:Nat→Option Nat) (tb:Nat) (t:Tx) (w:World) (h:XB w σ tb t) (h64:t.ps.length≤64):Calls Tryz.prog 85 #[.pointer (some ⟨tb,0,none⟩)] w fun x w'=>x= .returned (.int .i64 (lastX t))∧w'=w:=by
 obtain⟨v,c0,_,c2,hv⟩:=h.c
 obtain⟨ao,cap,rfl⟩:=row_slice hv
 obtain⟨n,hn⟩: ∃n,n=t.ps.length:=⟨_,rfl⟩
 rw[←hn] at c2 h64
 by_cases h0:n=0
 ·have HL:Hid (lastX t=t.x):=by
   show _=_
   have:t.ps=[]:=List.length_eq_zero_iff.1 (by omega)
   simp[lastX,this]
  subst h0
  clear hv hn h
  go_enter Tryz.func85,Tryz.ntmps85
  go_wp2
  go_ret
  exact⟨by rw[HL.out];rfl,rfl⟩
 ·obtain⟨p,hp⟩: ∃p,t.ps[n - 1]? =some p:=⟨_,List.getElem?_eq_getElem (by omega)⟩
  have HL:Hid (lastX t=p.x):=by
   show _=_
   have:t.ps.getLast? =some p:=by rw[List.getLast?_eq_getElem?, ←hn];exact hp
   simp[lastX,this]
  obtain⟨g,cap',d2,e0,_,_⟩:=h.part hp
  obtain rfl:ao=some ⟨g,0,none⟩:=by
   rw[d2, ←hn] at c2
   injection c2 with c2
   injection c2 with c2
   exact c2.symm
  obtain⟨k,rfl⟩: ∃k,n=k+1:=⟨n - 1,by omega⟩
  have e0':w.cell? ⟨g,k*3,none⟩=some (.int .i64 p.x):=e0
  have hk0:(0:Int)<(k:Int)+1:=by omega
  clear hv hn h hp d2 e0 h0
  go_enter Tryz.func85,Tryz.ntmps85
  go_wp2
  go_ret
  exact⟨by rw[HL.out];rfl,rfl⟩
def goneT (t:Tx) (below:Int):Bool:=decide (3≤t.st) && decide ((lastX t:Int)<below)
theorem forget1_any (σ:Nat→Option Nat) (tb:Nat) (t:Tx) (i:Int) (kv:Value) (bb:Nat) (below:Int) (w:World) (h:XB w σ tb t) (h64:t.ps.length≤64) (hbb:w.cell? ⟨bb,0,none⟩=some (.int .i64 below)):
  Calls Tryz.prog 84 #[kv,numV (some (tb,i)),.pointer (some ⟨bb,0,none⟩)] w fun x w'=>x= .returned (.bool (goneT t below))∧Tch (fun _=>False) w w':=by
 obtain⟨w0,hw0⟩: ∃w0,w0=w.alloc (.cells #[.pointer (some ⟨tb,0,none⟩),.int .i64 i] 121):=⟨_,rfl⟩
 have hb:w0.heap[w.heap.size]? =some (.cells #[.pointer (some ⟨tb,0,none⟩),.int .i64 i] 121 (0,0)):=by rw[hw0];exact alloc_new _ _
 have t0:Tch (fun _=>False) w w0:=by rw[hw0];exact Tch.alloc _ _ _
 have d0:w0.cell? ⟨w.heap.size,0,none⟩=some (.pointer (some ⟨tb,0,none⟩)):=by rw[blk_cell hb];rfl
 have b0:w0.cell? ⟨bb,0,none⟩=some (.int .i64 below):=by rw[t0.cell (p:=⟨bb,0,none⟩) (cell_lt hbb) (fun h=>h)];exact hbb
 have q1: ∀q,Calls Tryz.prog 75 #[.pointer (some ⟨tb,0,none⟩)] (w0.drewN q) fun e w''=>e= .returned (.bool (decide (3≤t.st)))∧ ∃m,w''=w0.drewN m:=fun q=>Calls.quiet_of_same (over_any σ tb t (w0.drewN q) (h.same (t0.drewN q)))
 have q2: ∀q,Calls Tryz.prog 85 #[.pointer (some ⟨tb,0,none⟩)] (w0.drewN q) fun e w''=>e= .returned (.int .i64 (lastX t))∧ ∃m,w''=w0.drewN m:=fun q=>Calls.quiet_of_same (last_any σ tb t (w0.drewN q) (h.same (t0.drewN q)) h64)
 simp only[numV]
 have HT:Hid (∀q,Tch (fun _=>False) w (w0.drewN q)):=fun q=>t0.drewN q
 have HG:Hid (goneT t below=(decide (3≤t.st) && decide ((lastX t:Int)<below))):=rfl
 obtain⟨lx,hlx⟩: ∃lx,lx=lastX t:=⟨_,rfl⟩
 rw[←hlx] at q2 HG
 have Hw0:Hid _:=hw0
 clear h h64 hbb hb t0 hlx hw0
 by_cases h3:3≤t.st
 ·rw[decide_eq_true h3] at q1 HG
  go_enter Tryz.func84,Tryz.ntmps84
  go_wp2_with fail
  have hw0:=Hw0.out
  rw[←hw0]
  clear hw0
  refine wp_region_quiet_lit (by kernel_rfl) (by kernel_rfl) ?_
  go_big_quiet_step (fail)
  go_big_quiet_step (fail)
  go_big_quiet_step ((go_at_call 75;exact q1 _))
  go_big_quiet_step (fail)
  go_big_quiet_step (fail)
  go_big_quiet_step (fail)
  go_big_quiet_step ((go_at_call 85;exact q2 _))
  repeat (go_big_quiet_step (fail))
  refine wpQuiet_nil ?_
  rintro w1 ⟨nq,rfl⟩
  go_wp2
  go_ret
  exact⟨by rw[HG.out];rfl,HT.out nq⟩
 ·rw[decide_eq_false h3] at q1 HG
  go_enter Tryz.func84,Tryz.ntmps84
  go_wp2_with fail
  have hw0:=Hw0.out
  rw[←hw0]
  clear hw0
  refine wp_region_quiet_lit (by kernel_rfl) (by kernel_rfl) ?_
  go_big_quiet_step (fail)
  go_big_quiet_step (fail)
  go_big_quiet_step ((go_at_call 75;exact q1 _))
  repeat (go_big_quiet_step (fail))
  refine wpQuiet_nil ?_
  rintro w1 ⟨nq,rfl⟩
  go_wp2
  go_ret
  exact⟨by rw[HG.out];rfl,HT.out nq⟩
theorem Tch.grown {w w':World} (h:Tch (fun _=>False) w w'):w.grownBy w' none:=⟨h.os,h.tape,h.output,h.size,fun k hk _=>h.block k hk (fun h=>h)⟩
theorem num_shape {v:Value} {y:DataW Unit×List MemPlace} (h:numElem v=some y): ∃c:Option Addr×Int,v= .agg #[.pointer c.1,.int .i64 c.2]:=by
 unfold numElem at h
 split at h
 ·rename_i l
  split at h
  ·rename_i hl
   exact⟨(none,0),by rw[←Array.toArray_toList (xs:=l),hl]⟩
  ·rename_i p i hl
   exact⟨(some p,i),by rw[←Array.toArray_toList (xs:=l),hl]⟩
  ·cases h
 ·cases h
theorem df_any (pd:Lit→DataW Unit→Bool) (cb:Value) (mb n:Nat) (D:DataW Unit) (w:World) (hown:w.ownsMap Tryz.prog 3 numElem mb n D)
  (hdel: ∀(W:World) (key val:Value) (kl:Lit) (yd:DataW Unit) (yp:List MemPlace),w.grownBy W (some mb)→keyOf Tryz.prog 3 key=some kl→numElem val=some (yd,yp)→(∃left, ∀zd,(Fk pd (match D with| .map es=>es|_=>[]) left).atKey kl zd=yd)→
   Calls Tryz.prog 84 #[key,val,cb] W fun e w'=>e= .returned (.bool (pd kl yd))∧W.grownBy w' none):
  Calls Tryz.prog 83 #[.map (some mb),.func (.func 84) #[] #[cb]] w fun e w'=>e= .returned (.tuple #[])∧w'.ownsMap Tryz.prog 3 numElem mb n (Lib.deleteFuncD pd D)∧w.grownBy w' (some mb):=by
 obtain⟨es0,rfl,hap,hkeys⟩:=hown.entries law_int
 have HD:Hid _:=hdel
 clear hdel
 go_enter Tryz.func83,Tryz.ntmps83
 go_wp2_with (first
  |(at_range;refine wpList_range_own _ rfl _ 81 rfl 3 121 law_int Tryz.underlying81 numElem mb n _ rfl hown ?_;intro w0 hrg0 hg0 hs0)
  |go_in)
 go_loopw [8] (fun _ wr=> ∃(left:Lit→Bool) (cnt:Nat),wr.ranges Tryz.prog 3 numElem mb w.heap.size n (Fk pd es0 left) left cnt∧w.grownBy wr (some mb))
  (fun _ wr=>wr.rangeLeft mb w.heap.size)
 case atStart=>exact⟨_,_,by rw[Fk_start hkeys];exact hrg0,hg0.but _⟩
 case round=>
  obtain⟨left,cnt,hrg,hgw⟩:=hrel
  go_wp2_with (first
   |(at_next;refine wpList_next_ranges _ rfl _ rfl 3 law_int numElem id id (fun key _ _=>⟨key,rfl⟩) (fun v _ _=>⟨v,rfl⟩) mb w.heap.size n _ _ _ rfl hrg ?_ ?_)
   |go_in)
  ·intro _ hl0
   go_wp2
   go_end0
   exact⟨rfl,by rw[←Fk_end hl0];exact hrg.owns,hgw⟩
  ·intro x c kl yd yp w1 cnt1 hkey hlx hv hat hrg1 hlt hg1 hs1 hen
   have hv':numElem c=some (yd,yp):=hv
   obtain⟨⟨p,i⟩,rfl⟩:=num_shape hv'
   have hgw1:=hgw.andThen hg1 (fun j hj=>by cases hj;exact Or.inl (Nat.le_refl _))
   obtain⟨w2,hw2⟩: ∃w2,w2=w1.alloc (.cells #[.pointer p,.int .i64 i] 121):=⟨_,rfl⟩
   have hga:w1.grownBy w2 none:=by rw[hw2];exact World.grownBy_alloc w1 _ none
   have hgw2:=hgw1.andThen hga (fun j hj=>by cases hj)
   have hc:=HD.out w2 x _ kl yd yp hgw2 hkey hv' ⟨left,hat⟩
   have hrg2:=hrg1.kept hga (by simp) (by simp)
   have hb2:w2.heap[w1.heap.size]? =some (.cells #[.pointer p,.int .i64 i] 121 (0,0)):=by rw[hw2];exact alloc_new _ _
   have Hw2:Hid _:=hw2
   cases hp:pd kl yd<;>rw[hp] at hc
   ·clear hw2
    go_wp2_with fail
    have hw2:=Hw2.out
    rw[←hw2]
    clear hw2
    refine hc.mono ?_
    rintro e w3 ⟨rfl,hg3⟩
    have hrg3:=hrg2.kept hg3 (by simp) (by simp)
    go_wp2_with fail
    go_roundw
    case rel=>exact⟨_,cnt1,by rw[←Fk_stays hap (law_int.key hkey) hlx hp hat];exact hrg3,hgw2.andThen hg3 (fun j hj=>by cases hj)⟩
    case measure=>rw[hrg3.left_eq,hrg.left_eq];exact hlt
   ·clear hw2
    go_wp2_with fail
    have hw2:=Hw2.out
    rw[←hw2]
    clear hw2
    refine hc.mono ?_
    rintro e w3 ⟨rfl,hg3⟩
    have hrg3:=hrg2.kept hg3 (by simp) (by simp)
    go_wp2_with (first
     |(at_delete;refine wpList_delete_ranges _ rfl _ _ 81 3 rfl 121 law_int Tryz.underlying81 numElem mb w.heap.size n _ _ _ rfl hrg3 _ _ rfl hkey ?_;intro w4 cnt4 hrg4 hle hturn;go_frame)
     |go_in)
    rw[strike_twice] at hrg4
    go_roundw
    case rel=>exact⟨_,cnt4,by rw[←Fk_struck hap (law_int.key hkey) hlx hp hat];exact hrg4,(hgw2.andThen hg3 (fun j hj=>by cases hj)).andThen hturn.grown (fun j hj=>by cases hj;exact Or.inr rfl)⟩
    case measure=>rw[hrg4.left_eq,hrg.left_eq];omega
def Mg.forget (m:Mg) (below:Int):Mg:=⟨m.nx,m.on,m.tx.filter (fun t=> !goneT t below)⟩
theorem Wf.forget {m:Mg} (h:Wf m) (below:Int):Wf (m.forget below):=by
 have hm: ∀t∈(m.forget below).tx,t∈m.tx:=fun t ht=>(List.mem_filter.1 ht).1
 refine⟨h.n1,h.n2,fun t ht=>h.lo t (hm t ht),fun t ht=>h.pl t (hm t ht),fun t ht=>h.st t (hm t ht),fun t ht=>h.ln t (hm t ht),fun t ht=>h.ar t (hm t ht),h.up.filter _,h.ap.filter _,fun t ht=>h.pu t (hm t ht),?_⟩
 show m.on=((m.tx.filter (fun t=> !goneT t below)).filter (fun t=>t.st<3)).map (·.x)
 rw[h.on,List.filter_filter]
 congr 1
 refine List.filter_congr (fun t _=>?_)
 by_cases hs:t.st<3
 ·have:goneT t below=false:=by simp[goneT];omega
  simp[hs,this]
 ·simp[hs]
theorem fnd_filter {m:Mg} (h:Wf m) (f:Tx→Bool) (k:Int):fnd (m.tx.filter f) k=match fnd m.tx k with
  |some (t,i)=>if f t then some (t,i) else none
  |none=>none:=by
 have hin: ∀t∈m.tx, ∀u∈m.tx,((t.x:Int)=k∨ ∃p∈t.ps,(p.x:Int)=k)→((u.x:Int)=k∨ ∃p∈u.ps,(p.x:Int)=k)→t=u:=by
  have key: ∀L:List Tx,(∀t∈L,t∈m.tx)→L.Pairwise (fun t u=>t.x<u.x)→L.Pairwise (fun t u=> ∀p∈t.ps,p.x≠u.x∧ ∀q∈u.ps,p.x≠q.x)→ ∀t∈L, ∀u∈L,((t.x:Int)=k∨ ∃p∈t.ps,(p.x:Int)=k)→((u.x:Int)=k∨ ∃p∈u.ps,(p.x:Int)=k)→t=u:=by
   intro L
   induction L with
   |nil=>intro _ _ _ t ht;cases ht
   |cons a r ih=>
    intro hL h1 h2 t ht u hu ct cu
    obtain⟨h1a,h1b⟩:=List.pairwise_cons.1 h1
    obtain⟨h2a,h2b⟩:=List.pairwise_cons.1 h2
    have no: ∀v∈r,((a.x:Int)=k∨ ∃p∈a.ps,(p.x:Int)=k)→((v.x:Int)=k∨ ∃p∈v.ps,(p.x:Int)=k)→False:=fun v hv ca cv=>by
     have l1:=h1a v hv
     rcases ca with ca|⟨p,hp,ca⟩<;>rcases cv with cv|⟨q,hq,cv⟩
     ·omega
     ·have:=(h.pl v (hL v (by simp[hv])) q hq).1;omega
     ·have:=(h2a v hv p hp).1;omega
     ·have:=(h2a v hv p hp).2 q hq;omega
    rcases List.mem_cons.1 ht with e1|ht'<;>rcases List.mem_cons.1 hu with e2|hu'
    ·rw[e1,e2]
    ·rw[e1] at ct;exact(no u hu' ct cu).elim
    ·rw[e2] at cu;exact(no t ht' cu ct).elim
    ·exact ih (fun v hv=>hL v (by simp[hv])) h1b h2b t ht' u hu' ct cu
  exact key m.tx (fun _ h=>h) h.up h.ap
 have cl: ∀ {L:List Tx} {t:Tx} {i:Int},fnd L k=some (t,i)→(t.x:Int)=k∨ ∃p∈t.ps,(p.x:Int)=k:=fun {L t i} hf=>by
  obtain⟨_,⟨_,e⟩|⟨j,p,_,_,hp,e,_⟩⟩:=fnd_mem hf
  ·exact Or.inl e
  ·exact Or.inr ⟨p,List.mem_of_getElem? hp,e⟩
 have pl: ∀ {L L':List Tx} {t:Tx} {i i':Int},fnd L k=some (t,i)→fnd L' k=some (t,i')→i=i':=fun {L L' t i i'} hf hf'=>by
  obtain⟨_,⟨e0,e⟩|⟨j,p,e0,hj,hp,e,en⟩⟩:=fnd_mem hf<;>obtain⟨_,⟨e0',e'⟩|⟨j',p',e0',hj',hp',e',en'⟩⟩:=fnd_mem hf'
  ·rw[e0,e0']
  ·exact absurd e en'
  ·exact absurd e' en
  ·rw[hj] at hj';injection hj' with hj';rw[e0,e0',hj']
 cases hf:fnd m.tx k with
 |none=>
  simp only
  exact fnd_no (fun t ht=>fnd_none hf t (List.mem_filter.1 ht).1)
 |some a=>
  obtain⟨t,i⟩:=a
  simp only
  have htm:=(fnd_mem hf).1
  cases hg:fnd (m.tx.filter f) k with
  |none=>
   split
   ·rename_i hft
    have:=fnd_none hg t (List.mem_filter.2 ⟨htm,hft⟩)
    rcases cl hf with e|⟨p,hp,e⟩
    ·exact absurd e this.1
    ·exact absurd e (this.2 p hp)
   ·rfl
  |some b=>
   obtain⟨u,j⟩:=b
   obtain⟨hum,huf⟩:=List.mem_filter.1 (fnd_mem hg).1
   have e:=hin u hum t htm (cl hg) (cl hf)
   subst e
   rw[if_pos huf,pl hg hf]
theorem own_entries {w:World} {mb n:Nat} {D:DataW Unit} (h:w.ownsMap Tryz.prog 3 numElem mb n D): ∃es,D= .map es∧es.Pairwise (fun p q=>p.1≠q.1)∧ ∀p∈es, ∃k:Int,p.1= .int .i64 k:=by
 obtain⟨es,clock,hb,F,hs,rfl⟩:=h
 refine⟨_,rfl,((WideShapes.sorted_perm _).pairwise_iff (fun {_ _} hne=>Ne.symm hne)).2 (Maps.fit_apart law_int F),fun p hp=>?_⟩
 obtain⟨v,hv⟩:=Maps.fit_keys F p ((WideShapes.sorted_perm _).mem_iff.1 hp)
 obtain⟨x,_,e,_⟩:=Maps.keyOf_int_inv Tryz.underlying3 hv
 exact⟨x,e⟩
theorem at_iff {es:List (Lit×DataW Unit)} (hap:es.Pairwise (fun p q=>p.1≠q.1)) {k:Int} {y:DataW Unit} :(∀zd,(DataW.map es).atKey (.int .i64 k) zd=y) ↔ (.int .i64 k,y)∈es:=by
 constructor
 ·intro h
  have h1:=has_true_of_atKey h
  obtain⟨p,hp,e⟩:=List.any_eq_true.1 h1
  have e1:=WideAt.sameKey_eq e
  have h2:=WideAt.atKey_mem .nil (key_int k) hap (show(Lit.int .i64 k,p.2)∈es by rw[←e1];exact hp)
  rw[h .nil] at h2
  rw[h2, ←e1];exact hp
 ·intro h zd
  exact WideAt.atKey_mem zd (key_int k) hap h
theorem at_none {es:List (Lit×DataW Unit)} {k:Int} (h: ∀y,(.int .i64 k,y) ∉ es) (zd:DataW Unit):(DataW.map es).atKey (.int .i64 k) zd=zd:=by
 refine atKey_of_not_has ?_ zd
 cases hh:has (DataW.map es) (.int .i64 k) with
 |false=>rfl
 |true=>
  obtain⟨p,hp,e⟩:=List.any_eq_true.1 hh
  have e1:=WideAt.sameKey_eq e
  exact absurd (by rw[←e1];exact hp) (h p.2)
theorem atE_all {o:Option (Nat×Int)} {y:DataW Unit} (h: ∀zd,atE o zd=y): ∃a,o=some a∧y=encN a:=by
 cases o with
 |some a=>exact⟨a,rfl,(h .nil).symm⟩
 |none=>
  have h1:=h .nil
  have h2:=h (.lit (.bool true))
  simp only[atE] at h1 h2
  rw[←h1] at h2
  cases h2
theorem MG.entry {w:World} {b:Nat} {m:Mg} {σ:Nat→Option Nat} {mb:Nat} {bl:Nat→Nat} (_h:MG w b m σ mb bl) {es:List (Lit×DataW Unit)} (hap:es.Pairwise (fun p q=>p.1≠q.1)) (hk: ∀k zd,(DataW.map es).atKey (.int .i64 k) zd=atE (lkB bl m.tx k) zd) (k:Int) (y:DataW Unit):(.int .i64 k,y)∈es ↔∃a,lkB bl m.tx k=some a∧y=encN a:=by
 rw[←at_iff hap]
 constructor
 ·intro h
  exact atE_all (fun zd=>by rw[←hk];exact h zd)
 ·rintro⟨a,e,rfl⟩ zd
  rw[hk,e];rfl
def pdF (m:Mg) (below:Int):Lit→DataW Unit→Bool:=fun kl _=>match kl with
 | .int _ k=>match fnd m.tx k with
   |some (t,_)=>goneT t below
   |none=>false
 |_=>false
def goneN (m:Mg) (below:Int) (j:Nat):Bool:=match fnd m.tx (j:Int) with
 |some (t,_)=>goneT t below
 |none=>false
def Mg.many (m:Mg) (below:Int):Nat:=((List.range m.nx).filter (goneN m below)).length
theorem many_eq {w:World} {b:Nat} {m:Mg} {σ:Nat→Option Nat} {mb:Nat} {bl:Nat→Nat} (h:MG w b m σ mb bl) {es:List (Lit×DataW Unit)} (hap:es.Pairwise (fun p q=>p.1≠q.1)) (hint: ∀p∈es, ∃k:Int,p.1= .int .i64 k) (hk: ∀k zd,(DataW.map es).atKey (.int .i64 k) zd=atE (lkB bl m.tx k) zd) (below:Int):
  (es.filter (fun p=>pdF m below p.1 p.2)).length=m.many below:=by
 have hlo: ∀k t i,fnd m.tx k=some (t,i)→ ∃j:Nat,k=j∧j<m.nx:=fun k t i hf=>by
  obtain⟨htm,⟨_,e⟩|⟨j,p,_,_,hp,e,_⟩⟩:=fnd_mem hf
  ·exact⟨t.x,e.symm,(h.wf.lo t htm).2⟩
  ·exact⟨p.x,e.symm,(h.wf.pl t htm p (List.mem_of_getElem? hp)).2⟩
 let kf:Lit×DataW Unit→Nat:=fun p=>match p.1 with
  | .int _ k=>k.toNat
  |_=>0
 have hmem: ∀p∈es, ∃(j:Nat) (a:Nat×Int),p=(.int .i64 (j:Int),encN a)∧lkB bl m.tx j=some a∧j<m.nx:=fun p hp=>by
  obtain⟨k,ek⟩:=hint p hp
  have hp':(Lit.int .i64 k,p.2)∈es:=by rw[←ek];exact hp
  obtain⟨a,e1,e2⟩:=(h.entry hap hk k p.2).1 hp'
  cases hf:fnd m.tx k with
  |none=>simp[lkB,hf] at e1
  |some ti=>
   obtain⟨j,rfl,hj⟩:=hlo k ti.1 ti.2 hf
   exact⟨j,a,by rw[←ek, ←e2],e1,hj⟩
 have hnd:((es.filter (fun p=>pdF m below p.1 p.2)).map kf).Nodup:=by
  rw[List.nodup_iff_pairwise_ne,List.pairwise_map]
  have h1:=(hap.filter (fun p=>pdF m below p.1 p.2))
  refine h1.imp_of_mem (fun {p q} hp hq hne e=>hne ?_)
  obtain⟨j,a,rfl,_,_⟩:=hmem p (List.mem_filter.1 hp).1
  obtain⟨j',a',rfl,_,_⟩:=hmem q (List.mem_filter.1 hq).1
  have e':(j:Int).toNat=(j':Int).toNat:=e
  simp at e'
  rw[e']
 have hnd2:((List.range m.nx).filter (goneN m below)).Nodup:=List.nodup_range.filter _
 have hperm:=(List.perm_ext_iff_of_nodup hnd hnd2).2 (fun j=>?_)
 ·have:=hperm.length_eq
  rw[List.length_map] at this
  exact this
 ·rw[List.mem_map,List.mem_filter,List.mem_range]
  constructor
  ·rintro⟨p,hp,e⟩
   obtain⟨hp1,hp2⟩:=List.mem_filter.1 hp
   obtain⟨j',a,rfl,e1,hj⟩:=hmem p hp1
   have e':(j':Int).toNat=j:=e
   simp at e'
   subst e'
   exact⟨hj,hp2⟩
  ·rintro⟨hj,hg⟩
   unfold goneN at hg
   cases hf:fnd m.tx (j:Int) with
   |none=>rw[hf] at hg;cases hg
   |some ti=>
    have hlk:lkB bl m.tx j=some (bl ti.1.x,ti.2):=by simp[lkB,hf]
    refine⟨(.int .i64 (j:Int),encN (bl ti.1.x,ti.2)),List.mem_filter.2 ⟨(h.entry hap hk j _).2 ⟨_,hlk,rfl⟩,?_⟩,by simp[kf]⟩
    simp only[pdF]
    exact hg
theorem forgets_any (b:Nat) (m:Mg) (w:World) (F:Nat→Prop) (σ:Nat→Option Nat) (mb:Nat) (bl:Nat→Nat) (h:MG w b m σ mb bl) (hF: ∀i,F i→σ i=none∧i<w.heap.size) (below:Int):
  Calls Tryz.prog 55 #[.map (some mb),.int .i64 below] w fun x w'=>x= .returned (.int .i64 (m.many below))∧MF w' b (m.forget below) F∧Kept F w w':=by
 obtain⟨nn,D,hnn,hD,hkD⟩:=h.mp
 obtain⟨es,rfl,hap,hint⟩:=own_entries hD
 have hme:=many_eq h hap hint hkD below
 obtain⟨w0,hw0⟩: ∃w0,w0=w.alloc (.cells #[.int .i64 below] 3):=⟨_,rfl⟩
 have t0:Tch (fun _=>False) w w0:=by rw[hw0];exact Tch.alloc _ _ _
 have hB0:w0.heap[w.heap.size]? =some (.cells #[.int .i64 below] 3 (0,0)):=by rw[hw0];exact alloc_new _ _
 have hD0:=ownsMap_tch hD t0 (fun h=>h)
 have h0:=h.no t0
 have hmw:mb<w.heap.size:=h.ml
 have q:=df_any (pdF m below) (.pointer (some ⟨w.heap.size,0,none⟩)) mb nn (.map es) w0 hD0 (fun W key val kl yd yp hgw hkey hv hat=>by
  obtain⟨left,hat⟩:=hat
  obtain⟨k,rfl,rfl,hwf⟩:=Maps.keyOf_int_inv Tryz.underlying3 hkey
  have hin:(Lit.int .i64 k,yd)∈es:=(List.mem_filter.1 ((at_iff (hap.filter _)).1 hat)).1
  obtain⟨a,e1,e2⟩:=(h.entry hap hkD k yd).1 hin
  obtain⟨t,i,hf⟩: ∃t i,fnd m.tx k=some (t,i):=by
   cases hf:fnd m.tx k with
   |none=>simp[lkB,hf] at e1
   |some ti=>exact⟨ti.1,ti.2,rfl⟩
  have ea:a=(bl t.x,i):=by
   simp only[lkB,hf,Option.map_some,Option.some.injEq] at e1
   exact e1.symm
  have ev:=numElem_inv hv e2
  rw[ev,ea]
  obtain⟨hx,_,h64,_,_,htm⟩:=h0.at hf
  have tW:Tch (fun j=>j=mb) w0 W:=⟨hgw.os,hgw.tape,hgw.output,hgw.size,fun j hj hn=>hgw.block j hj (fun e=>hn (by injection e))⟩
  have hxW:=hx.tch tW (fun j _ e he=>by
   rw[e,h.lm] at he
   injection he with he
   exact h.nb t htm he.symm) (fun _ _ h=>h)
  have hbb:W.cell? ⟨w.heap.size,0,none⟩=some (.int .i64 below):=by
   rw[tW.cell (p:=⟨w.heap.size,0,none⟩) (blk_lt hB0) (by show¬w.heap.size=mb;omega),blk_cell hB0];rfl
  refine(forget1_any σ (bl t.x) t i _ w.heap.size below W hxW h64 hbb).mono ?_
  rintro e W' ⟨rfl,tt⟩
  refine⟨?_,tt.grown⟩
  simp only[pdF,hf])
 have hl0: ∀ty,(Builtin.len_ #[81] ty #[.map (some mb)]).run Tryz.prog w0= .ok (.int .i64 es.length) w0:=fun ty=>hD0.len Tryz.underlying81 ty
 have hFl:(es.filter (fun p=> !pdF m below p.1 p.2)).length+m.many below=es.length:=by
  rw[←hme]
  have key: ∀(l:List (Lit×DataW Unit)) (f:Lit×DataW Unit→Bool),(l.filter (fun p=> !f p)).length+(l.filter f).length=l.length:=by
   intro l f
   induction l with
   |nil=>rfl
   |cons a r ih=>
    simp only[List.filter_cons]
    cases f a<;>simp<;>omega
  exact key es (fun p=>pdF m below p.1 p.2)
 have hsz:es.length≤2147483648:=by
  have h1:=hD.size_le
  have h2:=h.wf.n2
  simp only[Maps.size] at h1
  omega
 have HM:Hid (∀w1,w1.ownsMap Tryz.prog 3 numElem mb nn (Lib.deleteFuncD (pdF m below) (.map es))→w0.grownBy w1 (some mb)→(MF w1 b (m.forget below) F∧Kept F w w1)∧ ∀ty,(Builtin.len_ #[81] ty #[.map (some mb)]).run Tryz.prog w1= .ok (.int .i64 (es.filter (fun p=> !pdF m below p.1 p.2)).length) w1):=fun w1 hD1 hg1=>by
  have t1:Tch (fun j=>j=mb) w0 w1:=Tch.of_grown hg1 (fun g hg=>by injection hg with hg;exact hg.symm)
  have T:Tch (fun j=>j=mb) w w1:=(t0.mono (fun _ _ h=>h.elim)).trans' t1
  refine⟨?_,fun ty=>hD1.len Tryz.underlying81 ty⟩
  have hmb:mb≠b:=h.mne
  obtain⟨ov,hB,hon,hlab⟩:=h.blk
  have hM1:MG w1 b (m.forget below) σ mb bl:=by
   refine⟨h.wf.forget below,⟨ov,(T.block b h.bl' (fun e=>hmb e.symm)).trans hB,own_tch hon T (fun g hg e=>?_),hlab⟩,h.lb,h.lm,⟨nn,_,hnn,hD1,fun k zd=>?_⟩,?_,?_,?_,fun j hj=>Nat.lt_of_lt_of_le (h.lt j hj) T.size⟩
   ·obtain⟨cur,hc⟩:=own_blk hon hg
    obtain⟨es',clock,hh,_⟩:=hD
    rw[e,hh] at hc;cases hc
   ·show(DataW.map (es.filter fun p=> !pdF m below p.1 p.2)).atKey _ zd=_
    have hlk:lkB bl (m.forget below).tx k=match fnd m.tx k with
      |some (t,i)=>if goneT t below then none else some (bl t.x,i)
      |none=>none:=by
     simp only[lkB,Mg.forget,fnd_filter h.wf]
     cases fnd m.tx k with
     |none=>rfl
     |some ti=>
      obtain⟨t,i⟩:=ti
      simp only
      cases goneT t below<;>simp
    rw[hlk]
    cases hf:fnd m.tx k with
    |none=>
     refine at_none (fun y hy=>?_) zd
     obtain⟨a,e1,_⟩:=(h.entry hap hkD k y).1 (List.mem_filter.1 hy).1
     simp[lkB,hf] at e1
    |some ti=>
     obtain⟨t,i⟩:=ti
     have hlk1:lkB bl m.tx k=some (bl t.x,i):=by simp[lkB,hf]
     have hin:=(h.entry hap hkD k _).2 ⟨_,hlk1,rfl⟩
     simp only
     cases hg:goneT t below with
     |true=>
      refine at_none (fun y hy=>?_) zd
      have h9:=(List.mem_filter.1 hy).2
      simp only[pdF,hf,hg] at h9
      cases h9
     |false=>
      exact(at_iff (hap.filter _)).2 (List.mem_filter.2 ⟨hin,by simp only[pdF,hf,hg];rfl⟩) zd
   ·intro t ht
    have htm:=(List.mem_filter.1 ht).1
    exact(h.xs t htm).tch T (fun j _ e he=>by
     rw[e,h.lm] at he
     injection he with he
     exact h.nb t htm he.symm) (fun _ _ h=>h)
   ·intro t ht u hu
    exact h.inj t (List.mem_filter.1 ht).1 u (List.mem_filter.1 hu).1
   ·intro t ht
    exact h.nb t (List.mem_filter.1 ht).1
  exact MF.stp hF hM1 ⟨T.mono (fun j _ e=>by rw[e,h.lm];exact fun e=>by cases e),fun _ _=>rfl⟩
 obtain⟨el,hel⟩: ∃el,el=es.length:=⟨_,rfl⟩
 obtain⟨fl,hfl⟩: ∃fl,fl=(es.filter (fun p=> !pdF m below p.1 p.2)).length:=⟨_,rfl⟩
 obtain⟨mm,hmm⟩: ∃mm,mm=m.many below:=⟨_,rfl⟩
 rw[←hel] at hl0 hFl hsz
 rw[←hfl] at hFl HM
 rw[←hmm] at hFl ⊢
 rw[hw0] at hl0
 clear h hF hnn hD hkD hap hint hme t0 hB0 hD0 h0 hmw hel hfl hmm
 go_enter Tryz.func55,Tryz.ntmps55
 go_wp2_with fail
 rw[←hw0]
 refine q.mono ?_
 rintro x w1 ⟨rfl,hD1,hg1⟩
 obtain⟨hM1,hl1⟩:=HM.out w1 hD1 hg1
 have HM1:Hid _:=hM1
 clear q hM1 hD1 hg1 hl0 hw0
 have e9:(el:Int) - fl=mm:=by omega
 have HE:Hid _:=e9
 clear e9
 go_wp2_with fail
 go_ret
 exact⟨by rw[←HE.out];rfl,HM1.out⟩
theorem forget_f (b:Nat) (m:Mg) (w:World) (F:Nat→Prop) (h:MF w b m F) (below:Int):
  Calls Tryz.prog 27 #[.pointer (some ⟨b,0,none⟩),.int .i64 below] w fun x w'=>x= .returned (.int .i64 (m.many below))∧MF w' b (m.forget below) F∧Kept F w w':=by
 obtain⟨σ,mb,bl,h,hF⟩:=h
 have c0:=h.c0
 have q:=forgets_any b m w F σ mb bl h hF below
 clear h hF
 go_enter Tryz.func27,Tryz.ntmps27
 go_wp2_with fail
 refine q.mono ?_
 rintro x w1 ⟨rfl,hM,hK⟩
 have HM:Hid _:=hM
 have HK:Hid _:=hK
 clear q hM hK c0
 go_wp2
 go_ret
 exact⟨rfl,HM.out,HK.out⟩
end Go.Proofs.YtppokgdofgigfaaGreat
namespace Go.Proofs.YtppokgdofgigfaaGreat
theorem pw_get {α:Type} {R:α→α→Prop} : ∀ {l:List α},l.Pairwise R→ ∀(i j:Nat) a b,i<j→l[i]? =some a→l[j]? =some b→R a b
 |[],_,i,j,a,b,_,h,_=>by simp at h
 |x::l,hp,i,j,a,b,hij,ha,hb=>by
  cases i with
  |zero=>
   simp at ha;subst ha
   cases j with
   |zero=>omega
   |succ j=>exact(List.pairwise_cons.1 hp).1 b (List.mem_of_getElem? (by simpa using hb))
  |succ i=>
   cases j with
   |zero=>omega
   |succ j=>exact pw_get (List.pairwise_cons.1 hp).2 i j a b (by omega) (by simpa using ha) (by simpa using hb)
theorem Wf.fnd_one {m:Mg} (h:Wf m) {t:Tx} (ht:t∈m.tx) {k:Int} (hk:(t.x:Int)=k∨ ∃p∈t.ps,(p.x:Int)=k): ∃i,fnd m.tx k=some (t,i):=by
 cases hf:fnd m.tx k with
 |none=>
  have:=fnd_none hf t ht
  rcases hk with e|⟨p,hp,e⟩
  ·exact absurd e this.1
  ·exact absurd e (this.2 p hp)
 |some a=>
  obtain⟨u,i⟩:=a
  obtain⟨hu,hc⟩:=fnd_mem hf
  have hc':(u.x:Int)=k∨ ∃p∈u.ps,(p.x:Int)=k:=by
   rcases hc with⟨_,e⟩|⟨j,p,_,_,hp,e,_⟩
   ·exact Or.inl e
   ·exact Or.inr ⟨p,List.mem_of_getElem? hp,e⟩
  have:t=u:=by
   obtain⟨i1,hi1⟩:=List.getElem?_of_mem ht
   obtain⟨i2,hi2⟩:=List.getElem?_of_mem hu
   have key: ∀(j1 j2:Nat) (a b:Tx),j1<j2→m.tx[j1]? =some a→m.tx[j2]? =some b→((a.x:Int)=k∨ ∃p∈a.ps,(p.x:Int)=k)→((b.x:Int)=k∨ ∃p∈b.ps,(p.x:Int)=k)→False:=by
    intro j1 j2 a b hj ha hb hka hkb
    have h1:=pw_get h.up j1 j2 a b hj ha hb
    have h2:=pw_get h.ap j1 j2 a b hj ha hb
    rcases hka with e|⟨p,hp,e⟩
    ·rcases hkb with e2|⟨q,hq,e2⟩
     ·omega
     ·have:=(h.pl b (List.mem_of_getElem? hb) q hq).1;omega
    ·rcases hkb with e2|⟨q,hq,e2⟩
     ·have:=(h2 p hp).1;omega
     ·have:=(h2 p hp).2 q hq;omega
   rcases Nat.lt_trichotomy i1 i2 with hl|hl|hl
   ·exact(key i1 i2 t u hl hi1 hi2 hk hc').elim
   ·subst hl;rw[hi1] at hi2;injection hi2
   ·exact(key i2 i1 u t hl hi2 hi1 hc' hk).elim
  subst this
  exact⟨i,rfl⟩
theorem Wf.fnd_tx {m:Mg} (h:Wf m) {t:Tx} (ht:t∈m.tx):fnd m.tx (t.x:Int)=some (t, -1):=by
 obtain⟨i,hi⟩:=h.fnd_one ht (Or.inl rfl)
 rcases(fnd_mem hi).2 with⟨e,_⟩|⟨k,p,_,_,_,_,e⟩
 ·rw[hi,e]
 ·exact absurd rfl e
theorem Wf.fnd_pt {m:Mg} (h:Wf m) {t:Tx} (ht:t∈m.tx) {k:Nat} {p:Pt} (hp:t.ps[k]? =some p):fnd m.tx (p.x:Int)=some (t,(k:Int)):=by
 have hm:=List.mem_of_getElem? hp
 obtain⟨i,hi⟩:=h.fnd_one ht (Or.inr ⟨p,hm,rfl⟩)
 rcases(fnd_mem hi).2 with⟨_,e⟩|⟨j,q,e,_,hq,e2,_⟩
 ·have:=(h.pl t ht p hm).1;omega
 ·have:j=k:=by
   rcases Nat.lt_trichotomy j k with hl|hl|hl
   ·have:=pw_get (h.pu t ht) j k q p hl hq hp;omega
   ·exact hl
   ·have:=pw_get (h.pu t ht) k j p q hl hp hq;omega
  rw[hi,e,this]
theorem Wf.fnd_lt {m:Mg} (h:Wf m) {k:Int} {t:Tx} {i:Int} (hf:fnd m.tx k=some (t,i)):1≤k∧k<m.nx:=by
 obtain⟨ht,⟨_,e⟩|⟨j,p,_,_,hp,e,_⟩⟩:=fnd_mem hf
 ·have:=h.lo t ht;omega
 ·have:=h.pl t ht p (List.mem_of_getElem? hp);have:=h.lo t ht;omega
end Go.Proofs.YtppokgdofgigfaaGreat
