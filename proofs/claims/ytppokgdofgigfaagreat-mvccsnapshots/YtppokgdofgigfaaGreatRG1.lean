import Derived.Test.YtppokgdofgigfaaGreatRF
import Derived.Test.YtppokgdofgigfaaGreatXPart2
import Derived.RangeFuncCalls
import Derived.OrdersIn
import Derived.TacticsIn
import Derived.Test.YtppokgdofgigfaaGreatFD2
import Derived.Test.YtppokgdofgigfaaGreatFP6
set_option maxHeartbeats 4000000
set_option maxRecDepth 100000
namespace Go.Proofs.YtppokgdofgigfaaGreat.R
open Go.RowKit Go Go.Shelf
abbrev KN:=ByteArray×Nat
abbrev eR (x:KN) (ro:Option Addr) (rc:Nat):Array Value:=#[.string x.1,.slice ro 1 rc]
def SeqR (n:Nat) (P:Program) (g:Nat) (lb:Array Value) (Y:Nat→Prop) (L:List KN) (w:World):Prop:=
 ∀(l:Nat) (J Jx:List KN→(Nat→Prop)→World→Prop) (T Z:Nat→Prop) (W:World),w.heap.size≤l→l<W.heap.size→Tch (fun _=>False) w W→(∀k,T k→k≤l∧ ¬Y k)→(∀k,Z k→k<W.heap.size∧ ¬Y k)→Abl l J→Abl l Jx→
  (∀m pre x ro rc Z1 W1,pre++[x]<+:L→J pre Z1 W1→RdR W1 ro 1 rc (rowC x.2)→YieldAt Fence.wide m P l (eR x ro rc) W1 (Rnd T Z1 W1 (J (pre++[x])) (Jx (pre++[x]))))→
  J [] Z W→
  CallsIn Fence.wide n P g (#[.func (.yield l) #[] #[]]++lb) W fun e W'=>(∃v,e= .returned v)∧ ∃Z',J L Z' W'∨ ∃pre,pre<+:L∧Jx pre Z' W'
theorem RdR.putObj {W:World} {ro:Option Addr} {rc k:Nat} {c:Int} (h:RdR W ro 1 rc (rowC c)) {lp:Loop} (hk:W.heap[k]? =some (.loop lp)) (o:Obj):RdR (W.putObj k o) ro 1 rc (rowC c):=by
 refine h.tch (Tch.putObj (S:=fun i=>i=k) W k o rfl) (fun a e e2=>?_)
 rcases h.at' with⟨e3,_⟩|⟨g,off,e3,hg,hc⟩
 ·rw[e3] at e;cases e
 ·rw[e3] at e
  injection e with e
  have h1:=hc 0 _ rfl
  rw[←e] at e2
  simp only at e2
  simp[World.cell?,e2,hk] at h1
theorem range_r {n:Nat} {P:Program} {g:Operand} {ps:Array Tmp} {assign body:Code} {Q:Exit→Act→World→Prop} {a:Act} {w:World}
  {gf:Nat} {lb:Array Value} (hg:a.eval g= .func (.func gf) #[] lb) (eg: ∀args w,(callFunc gf args).run P w= .ok (.enter gf args) w)
  {Y:Nat→Prop} {L:List KN} (hseq:SeqR (n - 1) P gf lb Y L w) (hps:2=ps.size)
  (T Z:Nat→Prop) (hT: ∀k,T k→k<w.heap.size∧ ¬Y k) (hZ: ∀k,Z k→k<w.heap.size∧ ¬Y k) (hYw: ∀k,Y k→k<w.heap.size)
  (I:List KN→(Nat→Prop)→World→Prop) (Ix:Code→List KN→(Nat→Prop)→World→Prop)
  (hI: ∀pre Z W W',I pre Z W→Tch (fun k=>w.heap.size≤k∧ ¬Z k) W W'→I pre Z W') (hIx: ∀c pre Z W W',Ix c pre Z W→Tch (fun k=>w.heap.size≤k∧ ¬Z k) W W'→Ix c pre Z W') (h0:I [] Z w) (a₁:KN→Option Addr→Nat→Act)
  (hassign: ∀(l:Nat) (x:KN) (ro:Option Addr) (rc:Nat) (W:World) (K:Act→World→Prop),K (a₁ x ro rc) W→
   assign.wpIn (Fence.wide.inRound l) (n - 1 - 1) P (Exit.then K (fun _ _ _=>False)) { tmps:=(ps.zip (eR x ro rc)).foldl (fun t (p,v)=>t.setIfInBounds p v) a.tmps,defers:=[] } W)
  (hbody: ∀(l:Nat) (pre:List KN) (x:KN) (ro:Option Addr) (rc:Nat) (Z1:Nat→Prop) (W:World),pre++[x]<+:L→I pre Z1 W→RdR W ro 1 rc (rowC x.2)→body.wpIn (Fence.wide.inRound l) (n - 1 - 1) P (lPost T Z1 I Ix (pre++[x]) W) (a₁ x ro rc) W)
  (hdone: ∀(D:Nat) (Z1:Nat→Prop) (W:World),w.heap.size≤D→ ¬Z1 D→I L Z1 W→W.heap[D]? =some (.deferred (some []))→Q .normal { a with defers:= { target:= .collected D,args:=#[] } ::a.defers } W)
  (hstop: ∀(D:Nat) (c:Code) (pre:List KN) (Z1:Nat→Prop) (W:World),w.heap.size≤D→ ¬Z1 D→pre<+:L→Ix c pre Z1 W→W.heap[D]? =some (.deferred (some []))→c.wpIn Fence.wide n P Q { a with defers:= { target:= .collected D,args:=#[] } ::a.defers } W):
  (Code.rangeFunc g ps assign body).wpIn Fence.wide n P Q a w:=by
 refine wpIn_rangeFunc ?_
 intro fn hfn
 rw[show Fence.wide.round=none from rfl]
 obtain⟨D,hD⟩: ∃D,D=w.heap.size:=⟨_,rfl⟩
 obtain⟨rcL,hrc⟩: ∃rcL:LoopState→Option Code→Loop,rcL=fun st pe=> { state:=st,pending:=pe,fn,tmps:=a.tmps,params:=ps,assign,body,defers:=D } :=⟨_,rfl⟩
 obtain⟨W1,hW1⟩: ∃W1,W1=(w.alloc (.deferred (some []))).alloc (.loop (rcL .ready none)):=⟨_,rfl⟩
 have hs1:W1.heap.size=D+2:=by rw[hW1,hD];simp
 have hL1:W1.heap[D+1]? =some (.loop (rcL .ready none)):=by
  rw[hW1,hD];have:=World.alloc_heap_new (w.alloc (.deferred (some []))) (.loop (rcL .ready none));rwa [World.size_alloc] at this
 have hK1:W1.heap[D]? =some (.deferred (some [])):=by
  rw[hW1,hD];exact(Below.heap_alloc _ _ _ (by simp)).trans (World.alloc_heap_new w _)
 have t1: ∀S:Nat→Prop,Tch S w W1:=fun S=>by rw[hW1];exact(Tch.alloc _ _ _).allocR _
 have hI1:I [] Z W1:=hI _ _ _ _ h0 (t1 _)
 have hen:=run_enterLoop_outer (P:=P) (w:=w) fn a.tmps ps assign body
 rw[←hD] at hen hI hIx hdone hstop hT hZ hYw
 refine⟨D+1,[{ target:= .collected D,args:=#[] }],W1, { target:= .fn (.func gf) lb,args:=#[.func (.yield (D+1)) #[] #[]] },W1,gf,#[.func (.yield (D+1)) #[] #[]]++lb,W1,?_,?_,?_,?_,fun h=>(by cases h),?_⟩
 ·rw[hen,hW1,hrc]
 ·simp only[resolve,hg]
  simp[go_sem]
 ·intro f' hf';trivial
 ·simp[invoke,go_sem,eg]
 ·have put: ∀ {pre:List KN} {Z:Nat→Prop} {W:World} (o:Obj),I pre Z W→ ¬Z (D+1)→I pre Z (W.putObj (D+1) o):=fun o hi hz=>hI _ _ _ _ hi (Tch.putObj _ _ _ ⟨by omega,hz⟩)
  have putx: ∀ {c:Code} {pre:List KN} {Z:Nat→Prop} {W:World} (o:Obj),Ix c pre Z W→ ¬Z (D+1)→Ix c pre Z (W.putObj (D+1) o):=fun o hi hz=>hIx _ _ _ _ _ hi (Tch.putObj _ _ _ ⟨by omega,hz⟩)
  have kept: ∀ {Z:Nat→Prop} {A C:World} {k:Nat} {o:Obj},Tch (fun k=>D+1<k∧ ¬Z k) A C→k≤D+1→A.heap[k]? =some o→C.heap[k]? =some o:=
   fun ht hk ho=>(ht.block _ (Array.getElem?_eq_some_iff.1 ho).1 (fun e=>by omega)).trans ho
  have wide: ∀ {Z:Nat→Prop} {A C:World},Tch (fun k=>D+1<k∧ ¬Z k) A C→Tch (fun k=>D≤k∧ ¬Z k) A C:=fun ht=>ht.mono (fun k _ hk=>⟨by omega,hk.2⟩)
  refine(hseq (D+1)
   (fun pre Z W=>I pre Z W∧W.heap[D+1]? =some (.loop (rcL .ready none))∧W.heap[D]? =some (.deferred (some []))∧ ¬Z D∧ ¬Z (D+1))
   (fun pre Z W=> ∃c,Ix c pre Z W∧W.heap[D+1]? =some (.loop (rcL .done (some c)))∧W.heap[D]? =some (.deferred (some []))∧ ¬Z D∧ ¬Z (D+1))
   (fun k=>T k∨k=D+1) Z W1 (by omega) (by omega) (t1 _) (fun k hk=>hk.elim (fun h=>⟨by have:=(hT k h).1;omega,(hT k h).2⟩) (fun e=>⟨by omega,fun hy=>by have:=hYw k hy;omega⟩)) (fun k hk=>⟨by have:=(hZ k hk).1;omega,(hZ k hk).2⟩)
   (fun pre Z A C hs ht=>⟨hI _ _ _ _ hs.1 (wide ht),kept ht (by omega) hs.2.1,kept ht (by omega) hs.2.2.1,hs.2.2.2⟩)
   (fun pre Z A C hs ht=>by
    obtain⟨c,hc,hl,hk,hz⟩:=hs
    exact⟨c,hIx _ _ _ _ _ hc (wide ht),kept ht (by omega) hl,kept ht (by omega) hk,hz⟩)
   ?_ ⟨hI1,hL1,hK1,fun h=>by have:=(hZ _ h).1;omega,fun h=>by have:=(hZ _ h).1;omega⟩).mono ?_
  ·rintro m pre x ro rc Z1 W hpre ⟨hi,hl,hk,hz1,hz2⟩ hrd
   have hy:=run_yield (P:=P) (args:=eR x ro rc) hl (by rw[hrc];exact hps)
   rw[hrc] at hy
   refine⟨fn,_,assign,body,hy,RoundIn.deep (m:=n - 1 - 1) (roundIn_of_wpIn hfn (hassign _ x ro rc W _ ?_))⟩
   clear hy
   have hlt:D+1<W.heap.size:=(Array.getElem?_eq_some_iff.1 hl).1
   refine⟨_,run_beginRound hl (by rw[hrc]),?_⟩
   obtain⟨Wb,hWb⟩: ∃Wb,Wb=W.putObj (D+1) (.loop { rcL .ready none with state:= .busy }):=⟨_,rfl⟩
   rw[←hWb]
   have hlb:Wb.heap[D+1]? =some (.loop { rcL .ready none with state:= .busy }):=by rw[hWb];exact World.putObj_heap_same hlt
   have hdb:Wb.heap[D]? =some (.deferred (some [])):=by rw[hWb];exact(World.putObj_heap_other (by omega)).trans hk
   have tb:Tch (fun k=>(T k∨k=D+1)∨Z1 k) W Wb:=by rw[hWb];exact Tch.putObj _ _ _ (.inl (.inr rfl))
   have hsb:Wb.heap.size=W.heap.size:=by rw[hWb];simp
   refine wpIn_mono (hbody _ pre x ro rc Z1 Wb hpre (by rw[hWb];exact put _ hi hz2) (by rw[hWb];exact RdR.putObj hrd hl _)) ?_
   have fin: ∀(jump:Option Code) (Z':Nat→Prop) (W3:World),(∀k,Z' k→Z1 k∨(Wb.heap.size≤k∧k<W3.heap.size))→Tch (fun k=>T k∨Z1 k) Wb W3→ ∃W4,W4=W3.putObj (D+1) (.loop (rcL (if jump.isNone then .ready else .done) jump))∧
     (Instr.endRound (D+1) jump).run P W3= .ok (.bool jump.isNone) W4∧W4.heap[D+1]? =some (.loop (rcL (if jump.isNone then .ready else .done) jump))∧W4.heap[D]? =some (.deferred (some []))∧ ¬Z' D∧ ¬Z' (D+1)∧
     Tch (fun k=>(T k∨k=D+1)∨Z1 k) W W4∧(∀k,Z' k→Z1 k∨(W.heap.size≤k∧k<W4.heap.size)):=fun jump Z' W3 hz' t3=>by
    have hl3:W3.heap[D+1]? =_:=(t3.block _ (by omega) (fun h=>h.elim (fun h=>by have:=(hT _ h).1;omega) hz2)).trans hlb
    have hd3:W3.heap[D]? =_:=(t3.block _ (by omega) (fun h=>h.elim (fun h=>by have:=(hT _ h).1;omega) hz1)).trans hdb
    have he:=run_endRound (P:=P) jump hl3
    refine⟨_,rfl,?_,World.putObj_heap_same (Array.getElem?_eq_some_iff.1 hl3).1,(World.putObj_heap_other (by omega)).trans hd3,fun h=>?_,fun h=>?_,tb.trans' ((t3.mono (fun k _ h=>h.elim (fun h=>.inl (.inl h)) .inr)).trans' (Tch.putObj _ _ _ (.inl (.inr rfl)))),fun k hk=>?_⟩
    ·rw[hrc] at he ⊢
     exact he
    ·rcases hz' _ h with h|h
     ·exact hz1 h
     ·omega
    ·rcases hz' _ h with h|h
     ·exact hz2 h
     ·omega
    ·rw[World.putObj_size]
     rcases hz' _ hk with h|h
     ·exact .inl h
     ·exact .inr (by omega)
   rintro e a3 W3 hp
   cases e with
   |normal=>
    obtain⟨Z',hz',t3,hi3⟩:=hp
    obtain⟨W4,e4,hr,hl4,hd4,z1,z2,k4,zz⟩:=fin none Z' W3 hz' t3
    exact⟨_,_,hr,Z',zz,k4,.inl ⟨rfl,by rw[e4];exact put _ hi3 z2,hl4,hd4,z1,z2⟩⟩
   |ret=>
    obtain⟨Z',hz',t3,hi3⟩:=hp
    obtain⟨W4,e4,hr,hl4,hd4,z1,z2,k4,zz⟩:=fin (some .ret) Z' W3 hz' t3
    exact⟨_,_,hr,Z',zz,k4,.inr ⟨rfl,.ret,by rw[e4];exact putx _ hi3 z2,hl4,hd4,z1,z2⟩⟩
   |exit id=>
    obtain⟨Z',hz',t3,hi3⟩:=hp
    obtain⟨W4,e4,hr,hl4,hd4,z1,z2,k4,zz⟩:=fin (some (.exit id)) Z' W3 hz' t3
    exact⟨_,_,hr,Z',zz,k4,.inr ⟨rfl,.exit id,by rw[e4];exact putx _ hi3 z2,hl4,hd4,z1,z2⟩⟩
   |goto t=>
    obtain⟨Z',hz',t3,hi3⟩:=hp
    obtain⟨W4,e4,hr,hl4,hd4,z1,z2,k4,zz⟩:=fin (some (.goto t)) Z' W3 hz' t3
    exact⟨_,_,hr,Z',zz,k4,.inr ⟨rfl,.goto t,by rw[e4];exact putx _ hi3 z2,hl4,hd4,z1,z2⟩⟩
   |panic ch=>exact hp.elim
   |outgrown=>exact hp.elim
  ·rintro e W2 ⟨⟨v,rfl⟩,Z',(⟨hi,hl,hk,z1,z2⟩|⟨pre,hSp,c,hi,hl,hk,z1,z2⟩)⟩
   ·exact⟨none,_,by have:=run_endLoop (P:=P) hl (by rw[hrc];simp);rw[hrc] at this;exact this,hdone _ Z' _ (Nat.le_refl _) z1 (put _ hi z2) ((World.putObj_heap_other (by omega)).trans hk)⟩
   ·exact⟨some c,_,by have:=run_endLoop (P:=P) hl (by rw[hrc];simp);rw[hrc] at this;exact this,hstop _ c pre Z' _ (Nat.le_refl _) z1 hSp (putx _ hi z2) ((World.putObj_heap_other (by omega)).trans hk)⟩
end Go.Proofs.YtppokgdofgigfaaGreat.R
namespace Go.Proofs.YtppokgdofgigfaaGreat
set_option maxRecDepth 100000
open Go
def noDef (ops:Array Oper):Bool:=ops.toList.all (fun o=>match o.op with| .defer _=>false|_=>true)
theorem noDef_spec {ops:Array Oper} (h:noDef ops=true) {i:Nat} {o:Oper} (hi:ops[i]? =some o): ∀c,o.op≠ .defer c:=fun c e=>by
 have hm:o∈ops.toList:=by rw[←Array.getElem?_toList] at hi;exact List.mem_of_getElem? hi
 have:=List.all_eq_true.1 h o hm
 rw[e] at this
 cases this
theorem uponIn_of {l n:Nat} {P:Program} {o:Oper} {a:Act} {K:Act→World→Prop} {Q:Exit→Act→World→Prop} {r:Result Next} (h:o.upon P a K Q r):o.uponIn (Fence.wide.inRound l) n P a K Q r:=by
 cases r with
 |ok x w=>
  cases x with
  |value v=>exact h
  |skip=>exact h
  |defer d=>exact h
  |enter f args=>exact⟨fun e=>(by cases e),CallsIn.inRound l (callsIn_wide.2 h)⟩
  |row row args=>
   refine⟨fun e=>(by cases e),fun c cs _=>?_⟩
   obtain⟨v,w',hr,hs⟩:=h c cs
   exact⟨v,w',hr,stepsIn_wide.2 hs⟩
  |_=>exact h.elim
 |halt x w=>
  cases x with
  |panic v=>exact h
  |_=>exact h.elim
theorem wpOpIn_of_vOp {l m:Nat} {P:Program} {ops:Array Oper} (hd:noDef ops=true) {S:List Nat} {C:List Value→World→Prop} {i:Nat} {s:List Value} {K:List Value→Act→Prop} {K':Act→World→Prop} {Q':Exit→Act→World→Prop} {a:Act} {w:World} (hC:C s w) (h: ∀s a w',C s w'→K s a→K' a w') (hh:vOp P ops S C i K s a):wpOpIn (Fence.wide.inRound l) m P ops Q' i K' a w:=by
 unfold vOp at hh
 unfold wpOpIn
 split
 ·rename_i ho;simp only[ho] at hh;exact h _ _ _ hC hh
 ·rename_i o ho
  simp only[ho] at hh
  split
  ·rename_i hw
   simp only[hw,if_true] at hh
   refine⟨fun _ _=>trivial,?_⟩
   rw[show(Fence.wide.inRound l).round=some l from rfl,Oper.semAt_some l _ _ (noDef_spec hd ho)]
   refine uponIn_of ?_
   split at hh
   ·obtain⟨h1,h2⟩:=hh
    exact h1 w hC a K' Q' (fun v W' hW'=>h _ _ _ hW' (h2 v ⟨W',hW'⟩))
   ·obtain⟨v,h1,h2⟩:=hh
    have h1':=h1 [] w (by simpa using hC) a K' Q'
    refine h1' (fun W' hW'=>h _ _ _ (by simpa using hW') h2)
  ·rename_i hw;rw[if_neg hw] at hh;exact⟨fun _ _=>trivial,h _ _ _ hC hh⟩
theorem headV_anyIn {lr m:Nat} {P:Program} {ops:Array Oper} (hd:noDef ops=true) {md:Region.Mode} {S:List Nat} {C:List Value→World→Prop} {n g:Nat} {L:Array Bool→List Value→Act→Prop} {Q':Exit→Act→World→Prop} (hL: ∀listed s a w,C s w→L listed s a→wpAnyIn (Fence.wide.inRound lr) m P md ops Q' g listed a w) (f:Nat):
  ∀(listed:Array Bool) (s:List Value) (a:Act) (w:World),C s w→headV P md ops S C n L f listed s a→wpAnyIn (Fence.wide.inRound lr) m P md ops Q' (f+g) listed a w:=by
 induction f with
 |zero=>intro listed s a w hw h;rw[Nat.zero_add];exact hL _ _ _ _ hw h
 |succ f ih=>
  intro listed s a w hw h
  rw[Nat.succ_add]
  exact⟨fun h0=>absurd h0 h.1,fun i hi=>wpOpIn_of_vOp hd hw (fun s' a' w' hw' h'=>ih _ s' a' w' hw' h') (h.2 i hi).2⟩
theorem wpAnyIn_of_seq {F:Fence} {m:Nat} {P:Program} {ops:Array Oper} {md:Region.Mode} {Q':Exit→Act→World→Prop} : ∀(l:List Oper) (k:Nat) (listed:Array Bool) (a:Act) (w:World),(∀j,l[j]? =ops[k+j]?)→
  Region.seqB md ops l.length k listed=true→wpListIn F m P ops Q' l a w→wpAnyIn F m P md ops Q' l.length listed a w
 |[],_,_,_,_,_,hB,h=>⟨by simpa[Region.seqB] using hB,h⟩
 |o::l,k,listed,a,w,hl,hB,h=>by
  have h0:ops[k]? =some o:=by simpa using(hl 0).symm
  simp only[List.length_cons,Region.seqB,Bool.and_eq_true,decide_eq_true_eq] at hB
  refine⟨fun h1=>(by rw[hB.1] at h1;cases h1),fun i hi=>?_⟩
  rw[hB.1] at hi
  have hik:i=k:=by simpa using hi
  subst hik
  have hw:wpOpIn F m P ops Q' i (wpListIn F m P ops Q' l) a w:=by unfold wpOpIn;simp only[h0];exact h
  exact wpOpIn_mono (fun a' w' h'=>wpAnyIn_of_seq l (i+1) _ a' w' (fun j=>by have:=hl (j+1);simpa[Nat.add_assoc,Nat.add_comm 1 j] using this) hB.2 h') hw
theorem wpIn_region_ordv {lr m:Nat} {P:Program} {id:Nat} {Q:Exit→Act→World→Prop} {a:Act} {w:World} {l:List Oper} (S:List Nat) (C:List Value→World→Prop) (n:Nat) (ord:List Nat) (hm:P.follows .mixedOrders=true) (hB:(ordTailB .any l.toArray S n ord && noDef l.toArray)=true) (hC:C [] w.drew)
  (h:wpOrd P l.toArray S C (fun s a'=> ∀w',C s w'→wpListIn (Fence.wide.inRound lr) m P l.toArray Q (l.drop n) a' w') ord [] a):(Code.region id l.toArray true).wpIn (Fence.wide.inRound lr) m P Q a w:=by
 rw[Bool.and_eq_true] at hB
 obtain⟨hB,hd⟩:=hB
 simp only[ordTailB,Bool.and_eq_true,decide_eq_true_eq] at hB
 obtain⟨⟨⟨⟨⟨hsel,hn⟩,hs⟩,hc⟩,hlen⟩,hord⟩:=hB
 have hdl:(l.drop n).length=l.toArray.size - n:=by simp
 have inv0:HeadInv .any l.toArray n (Array.replicate l.toArray.size false):=
  ⟨by simp,fun j oj _ hl=>(by rw[getD_replicate_false] at hl;cases hl),fun t _ ht=>getD_in (by simpa using ht) (getD_replicate_false _ _)⟩
 have H:=headV_ord (md:= .any) (g:=l.toArray.size - n) hsel hs hc hn ord _ [] a inv0 hord h
 refine wpIn_region_any hm ?_
 have:=headV_anyIn hd (Q':=Q) (lr:=lr) (m:=m) (g:=l.toArray.size - n) (fun listed s a' w' hw hL=>by
  have:=wpAnyIn_of_seq (F:=Fence.wide.inRound lr) (m:=m) (md:= .any) (Q':=Q) (l.drop n) n listed a' w' (fun j=>by simp[List.getElem?_drop]) (by rw[hdl];exact hL.1) (hL.2 w' hw)
  rwa [hdl] at this) _ _ _ _ _ hC H
 rw[hlen,show n+(l.toArray.size - n)=l.toArray.size by omega] at this
 exact this
end Go.Proofs.YtppokgdofgigfaaGreat
namespace Go.Proofs.YtppokgdofgigfaaGreat.R
open Go.RowKit Go Go.Sort Go.Maps Go.Proofs.YtppokgdofgigfaaGreat.F
theorem keys_ext: ∀(a b:List ByteArray),a.Pairwise (fun x y=>kc x y<0)→b.Pairwise (fun x y=>kc x y<0)→(∀x,x∈a ↔ x∈b)→a=b
 |[],[],_,_,_=>rfl
 |[],y::b,_,_,h=>absurd ((h y).2 (by simp)) (by simp)
 |x::a,[],_,_,h=>absurd ((h x).1 (by simp)) (by simp)
 |x::a,y::b,ha,hb,h=>by
  obtain⟨a1,a2⟩:=List.pairwise_cons.1 ha
  obtain⟨b1,b2⟩:=List.pairwise_cons.1 hb
  have irr: ∀z, ¬kc z z<0:=fun z e=>by rw[kc_self] at e;omega
  have e:x=y:=by
   rcases List.mem_cons.1 ((h x).1 (by simp)) with e|hx
   ·exact e
   ·rcases List.mem_cons.1 ((h y).2 (by simp)) with e|hy
    ·exact e.symm
    ·exact absurd (kc_trans (a1 y hy) (b1 x hx)) (irr x)
  subst e
  rw[keys_ext a b a2 b2 (fun z=>by
   constructor
   ·intro hz
    rcases List.mem_cons.1 ((h z).1 (by simp[hz])) with e|hz'
    ·exact absurd (a1 z hz) (by rw[e];exact irr x)
    ·exact hz'
   ·intro hz
    rcases List.mem_cons.1 ((h z).2 (by simp[hz])) with e|hz'
    ·exact absurd (b1 z hz) (by rw[e];exact irr x)
    ·exact hz')]
def scL (s:Se):List KN:=(List.range 6).filterMap (fun κ=>if seesS s κ=0 then none else some (keyB κ,seesS s κ - 1))
theorem scL_mem (s:Se) (y:KN):y∈scL s ↔∃κ,κ<6∧seesS s κ≠0∧y=(keyB κ,seesS s κ - 1):=by
 unfold scL
 rw[List.mem_filterMap]
 constructor
 ·rintro⟨κ,hκ,e⟩
  by_cases h:seesS s κ=0
  ·rw[if_pos h] at e;cases e
  ·rw[if_neg h] at e
   injection e with e
   exact⟨κ,List.mem_range.1 hκ,h,e.symm⟩
 ·rintro⟨κ,hκ,h,rfl⟩
  exact⟨κ,List.mem_range.2 hκ,by rw[if_neg h]⟩
theorem keyB_lt {a b:Nat} (ha:a<6) (hb:b<6) (h:a<b):kc (keyB a) (keyB b)<0:=by
 rcases(by omega:a=0∨a=1∨a=2∨a=3∨a=4∨a=5) with rfl|rfl|rfl|rfl|rfl|rfl<;>rcases(by omega:b=0∨b=1∨b=2∨b=3∨b=4∨b=5) with rfl|rfl|rfl|rfl|rfl|rfl<;>first|(exfalso;omega)|decide
theorem scL_sorted (s:Se):(scL s).Pairwise (fun x y=>kc x.1 y.1<0):=by
 unfold scL
 rw[List.pairwise_filterMap]
 have hr:(List.range 6).Pairwise (fun a b=>a<b∧b<6):=by decide
 refine hr.imp (fun {a b} h x hx y hy=>?_)
 have hx':(if seesS s a=0 then none else some (keyB a,seesS s a - 1))=some x:=hx
 have hy':(if seesS s b=0 then none else some (keyB b,seesS s b - 1))=some y:=hy
 split at hx'
 ·cases hx'
 ·split at hy'
  ·cases hy'
  ·injection hx' with hx'
   injection hy' with hy'
   rw[←hx', ←hy']
   exact keyB_lt (by omega) h.2 h.1
structure Mt (W:World) (G:Nat→Prop) (l0:List It) (L:List KN):Prop where
 len:l0.length=L.length
 at_: ∀(i:Nat) (it:It) (y:KN),l0[i]? =some it→L[i]? =some y→it.1=y.1∧ ∃ro rc,it.2=(ro,1,rc)∧RdR W ro 1 rc (rowC y.2)∧ ∀a,ro=some a→G a.block
theorem Mt.tch {S:Nat→Prop} {W W':World} {G:Nat→Prop} {l0:List It} {L:List KN} (h:Mt W G l0 L) (t:Tch S W W') (hS: ∀k,S k→ ¬G k):Mt W' G l0 L:=
 ⟨h.len,fun i it y h1 h2=>by
  obtain⟨e,ro,rc,e2,hr,hf⟩:=h.at_ i it y h1 h2
  exact⟨e,ro,rc,e2,hr.tch t (fun a ha hs=>hS _ hs (hf a ha)),hf⟩⟩
theorem newV_get {m:Mg} {mn mx:Int} {l:List Int} {own:Int} (zs:List VV):(newV (fun z=>m.sees mn mx l own z.1.wr) zs).map (·.1)=getV m mn mx l own (zs.map (·.1)):=by
 have e:(zs.map (·.1)).reverse.find? (fun v=>m.sees mn mx l own v.wr)=(zs.reverse.find? (fun z=>m.sees mn mx l own z.1.wr)).map (·.1):=by
  rw[←List.map_reverse,List.find?_map];rfl
 unfold newV getV
 rw[e]
 cases zs.reverse.find? (fun z=>m.sees mn mx l own z.1.wr) with
 |none=>rfl
 |some z=>
  simp only[Option.map_some]
  split<;>rfl
section
variable {w0:Go.Proofs.YtppokgdofgigfaaGreat.F.Fr} {w:World} {qb hb mb nq:Nat} {m:Mg} {L:HL} {q:Mo} {A:Nat→Sx} {F:Nat→Prop} {K:Nat→List Vn} {σ:Nat→Nat} {k:Nat} {s:Se} {t:Tx}
theorem order_any (h:LW w0 w qb hb mb nq m L q A F) (hI:Iv m q K) (hK:HK L K) (hs:q.l[k]? =some s) (ho:s.op=true) (ht:SesTx m s t) (hpp:s.pp=false) (hq:nq≤2000) (hn:m.nx≤1000000) (hol:s.on.length≤1000000) {w1:World} (tw1:Tch (fun _=>False) w w1) {so:Option Addr} {sc b:Nat} (sb:SB w1 hb b (b+1) (b+1+1) s.mn s.mx (onI s) so sc (wrN s (innS s))):
  Calls Tryz.prog 77 #[.pointer (some ⟨hb,0,none⟩),.int .i64 1,.func (.func 57) #[] #[pv b,pv (b+1),pv (b+1+1)]] w1 fun x w'=> ∃l0,x= .returned (pv w1.heap.size)∧TW w1.heap.size w' w1.heap.size l0∧Tch (fun _=>False) w1 w'∧Mt w' (fun k=> ¬F k∧k<w.heap.size) l0 (scL s):=by
 obtain⟨i1,i2,_,_⟩:=inn_ok ht hpp
 have hf:=ses_fnd hI.wf ht i1 i2
 have hlt:=hI.wf.fnd_lt hf
 obtain⟨tb,T,E,C,σl,hw,hL,_,hM,hFs⟩:=h.hs
 obtain⟨pr,hpr⟩: ∃pr:VV→Bool,pr=fun z=>m.sees s.mn s.mx (onI s) (wrN s (innS s)) z.1.wr:=⟨_,rfl⟩
 have hKE: ∀e∈E,e.k=1→ ∃κ,κ<6∧e.s=(keyB κ).data.toList:=fun e he hk=>by
  have hm:((e.k,e.s),(C e.b).2.2.map (·.1))∈L:=by rw[←hL];exact List.mem_map.2 ⟨e,he,rfl⟩
  obtain⟨κ,hκ,e2⟩:=hK.2 _ hm
  have e2:(e.k,e.s)=((1:Int),(keyB κ).data.toList):=e2
  injection e2 with _ e2
  exact⟨κ,hκ,e2⟩
 have hchain: ∀κ,κ<6→chL L 1 (keyB κ).data.toList=(K κ).map ver:=hK.1
 have hq1:=inOrder_w w1 hb mb tb T E C σl nq (hw.no tw1) hq ((List.range 6).map keyB) (by simp) (fun e he hk=>by
  obtain⟨κ,hκ,e2⟩:=hKE e he hk
  rw[e2,bk_data]
  exact List.mem_map.2 ⟨κ,List.mem_range.2 hκ,rfl⟩) pr 57 #[] #[pv b,pv (b+1),pv (b+1+1)] (fun e he hk=>⟨enters_seen,fun z W2 hz t2=>by
   have hz':=((hw.chs e he).1.ok z hz)
   rw[hpr]
   exact seen1_any hb mb m W2 _ ((hM.no tw1).no t2) ((hw.no tw1).no t2).c0 z.1.wr hz'.lo hz'.hi z.1.th z.2.1 z.1.n z.2.2 b (b+1) (b+1+1) s.mn s.mx (onI s) so sc (wrN s (innS s)) (by omega) (by omega) (by rw[onI_len];omega) (sb.no t2)⟩)
 refine hq1.mono ?_
 rintro x w' ⟨l,rfl,htw,t1,hio⟩
 refine⟨l,rfl,htw,t1,?_⟩
 have hseen: ∀e∈E,e.k=1→ ∀κ,κ<6→e.s=(keyB κ).data.toList→(newV pr (C e.b).2.2).map (·.1)=getV m s.mn s.mx (onI s) (wrN s (innS s)) ((K κ).map ver):=fun e he hk κ hκ e2=>by
  rw[hpr,newV_get, ←hchain κ hκ, ←hL,chL_labs, ←e2]
  have:=lkE_of_mem hw.ek he
  rw[hk] at this
  rw[this]
 have hget: ∀κ,κ<6→(getV m s.mn s.mx (onI s) (wrN s (innS s)) ((K κ).map ver)=none∧seesS s κ=0)∨ ∃(n:Nat) (wr:Int),getV m s.mn s.mx (onI s) (wrN s (innS s)) ((K κ).map ver)=some ⟨wr,true,1,rowC n⟩∧seesS s κ=n+1:=fun κ hκ=>hI.get hs ho hpp ht hf hκ
 have hit: ∀it∈l, ∃κ,κ<6∧seesS s κ≠0∧it.1=keyB κ∧ ∃ro rc,it.2=(ro,1,rc)∧RdR w ro 1 rc (rowC (seesS s κ - 1:Nat))∧ ∀a,ro=some a→ ¬F a.block∧a.block<w.heap.size:=fun it hm=>by
  obtain⟨e,he,hk,_,e1,z,hz,hnz,e2⟩:=hio.a it hm
  obtain⟨κ,hκ,e3⟩:=hKE e he hk
  have h1:=hseen e he hk κ hκ e3
  rw[hnz] at h1
  rcases hget κ hκ with⟨h2,_⟩|⟨n,wr,h2,h3⟩
  ·rw[h2] at h1;cases h1
  ·rw[h2] at h1
   injection h1 with h1
   have h1:z.1=⟨wr,true,1,rowC n⟩:=h1
   have hz':=((hw.chs e he).1.ok z hz)
   refine⟨κ,hκ,by omega,by rw[e1,e3,bk_data],z.2.1,z.2.2,by rw[e2,h1],?_,fun a ha=>?_⟩
   ·have hr:=RdR.of_own hz'.own hz'.one hz'.sm
    rw[h1] at hr
    rw[h3]
    exact hr
   ·have hob:(Value.slice z.2.1 z.1.n z.2.2).ownBlock=some a.block:=by
     have:=hz'.own
     rw[ha] at this ⊢
     rcases this.2 with⟨e4,_⟩|⟨g1,c1,u1,e4,_⟩
     ·cases e4
     ·injection e4 with e5
      injection e5 with e5
      rw[e5];rfl
    have h5:=hz'.lab a.block hob
    refine⟨fun hFa=>?_,hw.dom a.block (by rw[h5];exact fun e=>by cases e)⟩
    rw[(hFs a.block hFa).1] at h5
    cases h5
 have hkeys:l.map (·.1)=(scL s).map (·.1):=by
  refine keys_ext _ _ (List.pairwise_map.2 htw.so) (List.pairwise_map.2 (scL_sorted s)) (fun x=>?_)
  rw[List.mem_map,List.mem_map]
  constructor
  ·rintro⟨it,hm,rfl⟩
   obtain⟨κ,hκ,h1,h2,_⟩:=hit it hm
   exact⟨_,(scL_mem s _).2 ⟨κ,hκ,h1,rfl⟩,h2.symm⟩
  ·rintro⟨y,hy,rfl⟩
   obtain⟨κ,hκ,h1,rfl⟩:=(scL_mem s y).1 hy
   rcases hget κ hκ with⟨_,h2⟩|⟨n,wr,h2,h3⟩
   ·exact absurd h2 h1
   ·-- there is such a chain
    have hne:(K κ).map ver≠[]:=fun e=>by rw[e] at h2;unfold getV at h2;cases h2
    rw[←hchain κ hκ, ←hL,chL_labs] at hne
    cases hl:lkE E 1 (keyB κ).data.toList with
    |none=>rw[hl] at hne;exact absurd rfl hne
    |some cb=>
     have he:=lkE_mem hl
     have h4:=hseen _ he rfl κ hκ rfl
     rw[h2] at h4
     cases hnz:newV pr (C cb).2.2 with
     |none=>simp only[hnz] at h4;cases h4
     |some z=>
      have h5:=hio.b _ he rfl rfl z hnz
      exact⟨_,h5,bk_data _⟩
 refine⟨by have:=congrArg List.length hkeys;simpa using this,fun i it y h1 h2=>?_⟩
 obtain⟨κ,hκ,h3,h4,ro,rc,h5,h6,h7⟩:=hit it (List.mem_of_getElem? h1)
 obtain⟨κ',hκ',h8,rfl⟩:=(scL_mem s y).1 (List.mem_of_getElem? h2)
 have h9:(l.map (·.1))[i]? =((scL s).map (·.1))[i]? :=by rw[hkeys]
 rw[List.getElem?_map,List.getElem?_map,h1,h2] at h9
 simp only[Option.map_some,Option.some.injEq] at h9
 have h10:κ=κ':=by
  rw[h4] at h9
  exact keyB_inj hκ hκ' (by rw[h9])
 subst h10
 exact⟨h9,ro,rc,h5,(h6.no tw1).no t1,h7⟩
end
end Go.Proofs.YtppokgdofgigfaaGreat.R
namespace Go.Proofs.YtppokgdofgigfaaGreat.R
open Go.RowKit Go Go.Sort Go.Maps Go.Shelf Go.Proofs.YtppokgdofgigfaaGreat.F
attribute [local go_sem] Oper.semAt_some
structure SC (w:World) (hb b:Nat) (mn mx:Int) (l:List Int) (so:Option Addr) (sc:Nat) (own:Int):Prop where
 h:w.heap[b]? =some (.cells #[pv hb] 36 (0,0))
 s:w.heap[b+1]? =some (.cells #[.int .i64 mn,.int .i64 mx,.slice so l.length sc] 38 (0,0))
 x:w.heap[b+1+1]? =some (.cells #[.int .i64 own] 3 (0,0))
 t:w.heap[b+1+1+1]? =some (.cells #[.int .i64 1] 3 (0,0))
 ir:IR w so l
theorem SC.no {w w':World} {hb b:Nat} {mn mx:Int} {l:List Int} {so:Option Addr} {sc:Nat} {own:Int} (k:SC w hb b mn mx l so sc own) (t:Tch (fun _=>False) w w'):SC w' hb b mn mx l so sc own:=
 ⟨(t.block _ (blk_lt k.h) (fun e=>e)).trans k.h,(t.block _ (blk_lt k.s) (fun e=>e)).trans k.s,(t.block _ (blk_lt k.x) (fun e=>e)).trans k.x,(t.block _ (blk_lt k.t) (fun e=>e)).trans k.t,k.ir.no t⟩
theorem scan_any (w:World) (hb:Nat) (mn mx:Int) (l:List Nat) (base:Nat) (so:Option Addr) (sc:Nat) (own:Int) (how:w.ownsRow base 3 1 (.slice so l.length sc) l.length (Go.Proofs.YtppokgdofgigfaaGreat.icl l)) (hl:l.length≤1000000):
  Calls Tryz.prog 52 #[pv hb,.agg #[.int .i64 mn,.int .i64 mx,.slice so l.length sc],.int .i64 own,.int .i64 1] w fun x w'=>x= .returned (.func (.func 76) #[] #[pv w.heap.size,pv (w.heap.size+1+1+1),pv (w.heap.size+1),pv (w.heap.size+1+1)])∧Tch (fun _=>False) w w'∧ ∃so' sc',SC w' hb w.heap.size mn mx (l.map (fun x:Nat=>(x:Int))) so' sc' own:=by
 have hmf: ∀(fn:Fn) (first cap:Array Value) (w:World),(Instr.makeFunc fn first cap).run Tryz.prog w= .ok (.func fn first cap) w:=fun _ _ _ _=>rfl
 obtain⟨B,hB⟩: ∃B,B=w.heap.size:=⟨_,rfl⟩
 obtain⟨ln,hln⟩: ∃ln,ln=l.length:=⟨_,rfl⟩
 obtain⟨w1,hw1⟩: ∃w1,w1=(((w.alloc (.cells #[pv hb] 36)).alloc (.cells #[.int .i64 mn,.int .i64 mx,.slice so ln sc] 38)).alloc (.cells #[.int .i64 own] 3)).alloc (.cells #[.int .i64 1] 3):=⟨_,rfl⟩
 have t1:Tch (fun _=>False) w w1:=by rw[hw1];exact(((Tch.alloc _ _ _).allocR _).allocR _).allocR _
 have z0:(w.alloc (.cells #[pv hb] 36)).heap.size=B+1:=by rw[al_size,hB]
 have z1:((w.alloc (.cells #[pv hb] 36)).alloc (.cells #[.int .i64 mn,.int .i64 mx,.slice so ln sc] 38)).heap.size=B+1+1:=by rw[al_size,z0]
 have z2:(((w.alloc (.cells #[pv hb] 36)).alloc (.cells #[.int .i64 mn,.int .i64 mx,.slice so ln sc] 38)).alloc (.cells #[.int .i64 own] 3)).heap.size=B+1+1+1:=by rw[al_size,z1]
 have b0:w1.heap[B]? =some (.cells #[pv hb] 36 (0,0)):=by
  rw[hw1,al_old _ (by rw[z2];omega),al_old _ (by rw[z1];omega),al_old _ (by rw[z0];omega),hB];exact alloc_new _ _
 have b1:w1.heap[B+1]? =some (.cells #[.int .i64 mn,.int .i64 mx,.slice so ln sc] 38 (0,0)):=by
  rw[hw1,al_old _ (by rw[z2];omega),al_old _ (by rw[z1];omega), ←z0];exact alloc_new _ _
 have b2:w1.heap[B+1+1]? =some (.cells #[.int .i64 own] 3 (0,0)):=by
  rw[hw1,al_old _ (by rw[z2];omega), ←z1];exact alloc_new _ _
 have b3:w1.heap[B+1+1+1]? =some (.cells #[.int .i64 1] 3 (0,0)):=by rw[hw1, ←z2];exact alloc_new _ _
 have q:=sclone_any l (.slice so ln sc) base w1 (by rw[hln];exact own_tch how t1 (fun _ _ e=>e)) (by omega)
 have x2:w1.cell? ⟨B+1,2,none⟩=some (.slice so ln sc):=by rw[blk_cell b1];rfl
 have HW1:Hid (w1=_):=hw1
 have HB:Hid (B=w.heap.size):=hB
 have T1:Hid (Tch (fun _=>False) w w1):=t1
 have Bs:Hid (w1.heap[B]? =some (.cells #[pv hb] 36 (0,0))∧w1.heap[B+1]? =some (.cells #[.int .i64 mn,.int .i64 mx,.slice so ln sc] 38 (0,0))∧w1.heap[B+1+1]? =some (.cells #[.int .i64 own] 3 (0,0))∧w1.heap[B+1+1+1]? =some (.cells #[.int .i64 1] 3 (0,0))):=⟨b0,b1,b2,b3⟩
 have Hln:Hid (ln=l.length):=hln
 rw[←hln, ←hB]
 clear hw1 hB t1 z0 z1 z2 b0 b1 b2 b3 how hln hl
 go_enter Tryz.func52,Tryz.ntmps52
 go_upto_region 1 with(fail)
 rw[←HW1.out, ←HB.out]
 go_wp2_with fail
 refine q.mono ?_
 rintro x w2 ⟨⟨v2,rfl,how2⟩,t2⟩
 obtain⟨so2,sc2,rfl⟩:=row_slice how2
 obtain⟨b0,b1,b2,b3⟩:=Bs.out
 have c1:w2.heap[B+1]? =some (.cells #[.int .i64 mn,.int .i64 mx,.slice so ln sc] 38 (0,0)):=(t2.block _ (blk_lt b1) (fun e=>e)).trans b1
 have y2:w2.cell? ⟨B+1,2,none⟩=some (.slice so ln sc):=by rw[blk_cell c1];rfl
 have f2:=blk_frozen c1 2
 have ts:Tch (fun i=>i=B+1) w2 (w2.setCell ⟨B+1,2,none⟩ (.slice so2 ln sc2)):=Tch.setCell _ _ _ _ rfl
 rw[←Hln.out] at how2
 have HF:Hid (Tch (fun _=>False) w (w2.setCell ⟨B+1,2,none⟩ (.slice so2 ln sc2))∧SC (w2.setCell ⟨B+1,2,none⟩ (.slice so2 ln sc2)) hb B mn mx (l.map (fun x:Nat=>(x:Int))) so2 sc2 own):=by
  refine⟨(T1.out.trans' t2).trans ts (fun i hi e=>by have:=HB.out;omega),⟨?_,?_,?_,?_,?_⟩⟩
  ·exact(ts.block _ (Nat.lt_of_lt_of_le (blk_lt b0) t2.size) (by omega)).trans ((t2.block _ (blk_lt b0) (fun e=>e)).trans b0)
  ·rw[blk_set c1,List.length_map, ←Hln.out];rfl
  ·exact(ts.block _ (Nat.lt_of_lt_of_le (blk_lt b2) t2.size) (by omega)).trans ((t2.block _ (blk_lt b2) (fun e=>e)).trans b2)
  ·exact(ts.block _ (Nat.lt_of_lt_of_le (blk_lt b3) t2.size) (by omega)).trans ((t2.block _ (blk_lt b3) (fun e=>e)).trans b3)
  ·have h9:=own_tch how2 ts (fun g e e2=>by
    have:=row_ge how2 e
    have:=blk_lt b1
    omega)
   exact IR.of_own h9
 clear q how2 t2 ts c1 b0 b1 b2 b3 x2
 go_wp2_with fail
 go_ret
 have hF:=HF.out
 rw[Hln.out] at hF
 exact⟨rfl,hF.1,so2,sc2,hF.2⟩
end Go.Proofs.YtppokgdofgigfaaGreat.R
