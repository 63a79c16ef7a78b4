import Derived.RangeFuncNested
import Derived.RangeFuncBound
import Derived.RangeFuncCalls
import Derived.RangeFuncLeaves
import Derived.Shelf.Abstract
import Derived.Shelf.RegionOpen
import Derived.WalkKit
import Derived.OwnWalkIn
import Derived.TacticsInMore
import Derived.LoopNIn
import Derived.LoopIn
import Derived.Test.YtppokgdofgigfaaGreatXNum2
import Derived.Test.YtppokgdofgigfaaGreatRLeaf
import Derived.Test.YtppokgdofgigfaaGreatFlo
import Derived.Sort.LoopGhostIn
set_option maxHeartbeats 4000000
set_option maxRecDepth 100000
namespace Go.Proofs.YtppokgdofgigfaaGreat.R
open Go.RowKit Go Go.Shelf
theorem Tch.putObj {S:Nat→Prop} (W:World) (l:Nat) (o:Obj) (h:S l):Tch S W (W.putObj l o):=
 ⟨rfl,rfl,rfl,by simp,fun k _ hk=>World.putObj_heap_other (fun e=>hk (e▸h))⟩
def Abl {α:Type} (l:Nat) (J:List α→(Nat→Prop)→World→Prop):Prop:= ∀pre Z W W',J pre Z W→Tch (fun k=>l<k∧ ¬Z k) W W'→J pre Z W'
def Rnd (T Z:Nat→Prop) (W:World) (J Jx:(Nat→Prop)→World→Prop):Ending→World→Prop:=fun e W'=>
 ∃Z',(∀k,Z' k→Z k∨(W.heap.size≤k∧k<W'.heap.size))∧Tch (fun k=>T k∨Z k) W W'∧((e= .returned (.bool true)∧J Z' W')∨(e= .returned (.bool false)∧Jx Z' W'))
def SeqL {α:Type} (n:Nat) (P:Program) (g:Nat) (lb:Array Value) (encs:α→Array Value) (Y:Nat→Prop) (L:List α) (w:World):Prop:=
 ∀(l:Nat) (J Jx:List α→(Nat→Prop)→World→Prop) (T Z:Nat→Prop) (W:World),w.heap.size≤l→l<W.heap.size→Tch (fun _=>False) w W→(∀k,T k→k≤l∧ ¬Y k)→(∀k,Z k→k<W.heap.size∧ ¬Y k)→Abl l J→Abl l Jx→
  (∀m pre x Z1 W1,pre++[x]<+:L→J pre Z1 W1→YieldAt Fence.wide m P l (encs x) W1 (Rnd T Z1 W1 (J (pre++[x])) (Jx (pre++[x]))))→
  J [] Z W→
  CallsIn Fence.wide n P g (#[.func (.yield l) #[] #[]]++lb) W fun e W'=>(∃v,e= .returned v)∧ ∃Z',J L Z' W'∨ ∃pre,pre<+:L∧Jx pre Z' W'
def Lft (T Z:Nat→Prop) (W W':World) (I:(Nat→Prop)→World→Prop):Prop:= ∃Z',(∀k,Z' k→Z k∨(W.heap.size≤k∧k<W'.heap.size))∧Tch (fun k=>T k∨Z k) W W'∧I Z' W'
def lPost {α:Type} (T Z:Nat→Prop) (I:List α→(Nat→Prop)→World→Prop) (Ix:Code→List α→(Nat→Prop)→World→Prop) (xs:List α) (W:World):Exit→Act→World→Prop
 | .normal,_,W'=>Lft T Z W W' (I xs)
 | .ret,_,W'=>Lft T Z W W' (Ix .ret xs)
 | .exit id,_,W'=>Lft T Z W W' (Ix (.exit id) xs)
 | .goto t,_,W'=>Lft T Z W W' (Ix (.goto t) xs)
 | .panic _,_,_=>False
 | .outgrown,_,_=>False
theorem room_of_wide (k:Nat):Fence.wide.room k:=fun d h=>by cases h
theorem RoundIn.deep {m m':Nat} {P:Program} {l:Nat} {f:FuncId} {tmps:Array Value} {assign body:Code} {w:World} {R:Ending→World→Prop}
  (h:RoundIn Fence.wide m P l f tmps assign body w R):RoundIn Fence.wide m' P l f tmps assign body w R:=⟨h.1,fun c cs _=>h.2 c cs (room_of_wide _)⟩
theorem YieldAt.inRound {F:Fence} {m:Nat} {P:Program} {l:Nat} {args:Array Value} {W:World} {R:Ending→World→Prop} (l':Nat) (h:YieldAt F m P l args W R):YieldAt (F.inRound l') m P l args W R:=h
theorem range_l {α:Type} {n:Nat} {P:Program} {g:Operand} {ps:Array Tmp} {assign body:Code} {Q:Exit→Act→World→Prop} {a:Act} {w:World}
  {gf:Nat} {lb:Array Value} (hg:a.eval g= .func (.func gf) #[] lb) (eg: ∀args w,(callFunc gf args).run P w= .ok (.enter gf args) w)
  {encs:α→Array Value} {Y:Nat→Prop} {L:List α} (hseq:SeqL (n - 1) P gf lb encs Y L w) (hps: ∀x,(encs x).size=ps.size)
  (T Z:Nat→Prop) (hT: ∀k,T k→k<w.heap.size∧ ¬Y k) (hZ: ∀k,Z k→k<w.heap.size∧ ¬Y k) (hYw: ∀k,Y k→k<w.heap.size)
  (I:List α→(Nat→Prop)→World→Prop) (Ix:Code→List α→(Nat→Prop)→World→Prop)
  (hI: ∀pre Z W W',I pre Z W→Tch (fun k=>w.heap.size≤k∧ ¬Z k) W W'→I pre Z W') (hIx: ∀c pre Z W W',Ix c pre Z W→Tch (fun k=>w.heap.size≤k∧ ¬Z k) W W'→Ix c pre Z W') (h0:I [] Z w) (a₁:α→Act)
  (hassign: ∀(l:Nat) (x:α) (W:World) (K:Act→World→Prop),K (a₁ x) W→
   assign.wpIn (Fence.wide.inRound l) (n - 1 - 1) P (Exit.then K (fun _ _ _=>False)) { tmps:=(ps.zip (encs x)).foldl (fun t (p,v)=>t.setIfInBounds p v) a.tmps,defers:=[] } W)
  (hbody: ∀(l:Nat) (pre:List α) (x:α) (Z1:Nat→Prop) (W:World),pre++[x]<+:L→I pre Z1 W→body.wpIn (Fence.wide.inRound l) (n - 1 - 1) P (lPost T Z1 I Ix (pre++[x]) W) (a₁ x) W)
  (hdone: ∀(D:Nat) (Z1:Nat→Prop) (W:World),w.heap.size≤D→ ¬Z1 D→I L Z1 W→W.heap[D]? =some (.deferred (some []))→Q .normal { a with defers:= { target:= .collected D,args:=#[] } ::a.defers } W)
  (hstop: ∀(D:Nat) (c:Code) (pre:List α) (Z1:Nat→Prop) (W:World),w.heap.size≤D→ ¬Z1 D→pre<+:L→Ix c pre Z1 W→W.heap[D]? =some (.deferred (some []))→c.wpIn Fence.wide n P Q { a with defers:= { target:= .collected D,args:=#[] } ::a.defers } W):
  (Code.rangeFunc g ps assign body).wpIn Fence.wide n P Q a w:=by
 refine wpIn_rangeFunc ?_
 intro fn hfn
 rw[show Fence.wide.round=none from rfl]
 obtain⟨D,hD⟩: ∃D,D=w.heap.size:=⟨_,rfl⟩
 obtain⟨rc,hrc⟩: ∃rc:LoopState→Option Code→Loop,rc=fun st pe=> { state:=st,pending:=pe,fn,tmps:=a.tmps,params:=ps,assign,body,defers:=D } :=⟨_,rfl⟩
 obtain⟨W1,hW1⟩: ∃W1,W1=(w.alloc (.deferred (some []))).alloc (.loop (rc .ready none)):=⟨_,rfl⟩
 have hs1:W1.heap.size=D+2:=by rw[hW1,hD];simp
 have hL1:W1.heap[D+1]? =some (.loop (rc .ready none)):=by
  rw[hW1,hD];have:=World.alloc_heap_new (w.alloc (.deferred (some []))) (.loop (rc .ready none));rwa [World.size_alloc] at this
 have hK1:W1.heap[D]? =some (.deferred (some [])):=by
  rw[hW1,hD];exact(Below.heap_alloc _ _ _ (by simp)).trans (World.alloc_heap_new w _)
 have t1: ∀S:Nat→Prop,Tch S w W1:=fun S=>by rw[hW1];exact(Tch.alloc _ _ _).allocR _
 have hI1:I [] Z W1:=hI _ _ _ _ h0 (t1 _)
 have hen:=run_enterLoop_outer (P:=P) (w:=w) fn a.tmps ps assign body
 rw[←hD] at hen hI hIx hdone hstop hT hZ hYw
 refine⟨D+1,[{ target:= .collected D,args:=#[] }],W1, { target:= .fn (.func gf) lb,args:=#[.func (.yield (D+1)) #[] #[]] },W1,gf,#[.func (.yield (D+1)) #[] #[]]++lb,W1,?_,?_,?_,?_,fun h=>(by cases h),?_⟩
 ·rw[hen,hW1,hrc]
 ·simp only[resolve,hg]
  simp[go_sem]
 ·intro f' hf';trivial
 ·simp[invoke,go_sem,eg]
 ·have put: ∀ {pre:List α} {Z:Nat→Prop} {W:World} (o:Obj),I pre Z W→ ¬Z (D+1)→I pre Z (W.putObj (D+1) o):=fun o hi hz=>hI _ _ _ _ hi (Tch.putObj _ _ _ ⟨by omega,hz⟩)
  have putx: ∀ {c:Code} {pre:List α} {Z:Nat→Prop} {W:World} (o:Obj),Ix c pre Z W→ ¬Z (D+1)→Ix c pre Z (W.putObj (D+1) o):=fun o hi hz=>hIx _ _ _ _ _ hi (Tch.putObj _ _ _ ⟨by omega,hz⟩)
  have kept: ∀ {Z:Nat→Prop} {A C:World} {k:Nat} {o:Obj},Tch (fun k=>D+1<k∧ ¬Z k) A C→k≤D+1→A.heap[k]? =some o→C.heap[k]? =some o:=
   fun ht hk ho=>(ht.block _ (Array.getElem?_eq_some_iff.1 ho).1 (fun e=>by omega)).trans ho
  have wide: ∀ {Z:Nat→Prop} {A C:World},Tch (fun k=>D+1<k∧ ¬Z k) A C→Tch (fun k=>D≤k∧ ¬Z k) A C:=fun ht=>ht.mono (fun k _ hk=>⟨by omega,hk.2⟩)
  refine(hseq (D+1)
   (fun pre Z W=>I pre Z W∧W.heap[D+1]? =some (.loop (rc .ready none))∧W.heap[D]? =some (.deferred (some []))∧ ¬Z D∧ ¬Z (D+1))
   (fun pre Z W=> ∃c,Ix c pre Z W∧W.heap[D+1]? =some (.loop (rc .done (some c)))∧W.heap[D]? =some (.deferred (some []))∧ ¬Z D∧ ¬Z (D+1))
   (fun k=>T k∨k=D+1) Z W1 (by omega) (by omega) (t1 _) (fun k hk=>hk.elim (fun h=>⟨by have:=(hT k h).1;omega,(hT k h).2⟩) (fun e=>⟨by omega,fun hy=>by have:=hYw k hy;omega⟩)) (fun k hk=>⟨by have:=(hZ k hk).1;omega,(hZ k hk).2⟩)
   (fun pre Z A C hs ht=>⟨hI _ _ _ _ hs.1 (wide ht),kept ht (by omega) hs.2.1,kept ht (by omega) hs.2.2.1,hs.2.2.2⟩)
   (fun pre Z A C hs ht=>by
    obtain⟨c,hc,hl,hk,hz⟩:=hs
    exact⟨c,hIx _ _ _ _ _ hc (wide ht),kept ht (by omega) hl,kept ht (by omega) hk,hz⟩)
   ?_ ⟨hI1,hL1,hK1,fun h=>by have:=(hZ _ h).1;omega,fun h=>by have:=(hZ _ h).1;omega⟩).mono ?_
  ·rintro m pre x Z1 W hpre ⟨hi,hl,hk,hz1,hz2⟩
   have hy:=run_yield (P:=P) (args:=encs x) hl (by rw[hrc];exact hps x)
   rw[hrc] at hy
   refine⟨fn,_,assign,body,hy,RoundIn.deep (m:=n - 1 - 1) (roundIn_of_wpIn hfn (hassign _ x W _ ?_))⟩
   clear hy
   have hlt:D+1<W.heap.size:=(Array.getElem?_eq_some_iff.1 hl).1
   refine⟨_,run_beginRound hl (by rw[hrc]),?_⟩
   obtain⟨Wb,hWb⟩: ∃Wb,Wb=W.putObj (D+1) (.loop { rc .ready none with state:= .busy }):=⟨_,rfl⟩
   rw[←hWb]
   have hlb:Wb.heap[D+1]? =some (.loop { rc .ready none with state:= .busy }):=by rw[hWb];exact World.putObj_heap_same hlt
   have hdb:Wb.heap[D]? =some (.deferred (some [])):=by rw[hWb];exact(World.putObj_heap_other (by omega)).trans hk
   have tb:Tch (fun k=>(T k∨k=D+1)∨Z1 k) W Wb:=by rw[hWb];exact Tch.putObj _ _ _ (.inl (.inr rfl))
   have hsb:Wb.heap.size=W.heap.size:=by rw[hWb];simp
   refine wpIn_mono (hbody _ pre x Z1 Wb hpre (by rw[hWb];exact put _ hi hz2)) ?_
   have fin: ∀(jump:Option Code) (Z':Nat→Prop) (W3:World),(∀k,Z' k→Z1 k∨(Wb.heap.size≤k∧k<W3.heap.size))→Tch (fun k=>T k∨Z1 k) Wb W3→ ∃W4,W4=W3.putObj (D+1) (.loop (rc (if jump.isNone then .ready else .done) jump))∧
     (Instr.endRound (D+1) jump).run P W3= .ok (.bool jump.isNone) W4∧W4.heap[D+1]? =some (.loop (rc (if jump.isNone then .ready else .done) jump))∧W4.heap[D]? =some (.deferred (some []))∧ ¬Z' D∧ ¬Z' (D+1)∧
     Tch (fun k=>(T k∨k=D+1)∨Z1 k) W W4∧(∀k,Z' k→Z1 k∨(W.heap.size≤k∧k<W4.heap.size)):=fun jump Z' W3 hz' t3=>by
    have hl3:W3.heap[D+1]? =_:=(t3.block _ (by omega) (fun h=>h.elim (fun h=>by have:=(hT _ h).1;omega) hz2)).trans hlb
    have hd3:W3.heap[D]? =_:=(t3.block _ (by omega) (fun h=>h.elim (fun h=>by have:=(hT _ h).1;omega) hz1)).trans hdb
    have he:=run_endRound (P:=P) jump hl3
    refine⟨_,rfl,?_,World.putObj_heap_same (Array.getElem?_eq_some_iff.1 hl3).1,(World.putObj_heap_other (by omega)).trans hd3,fun h=>?_,fun h=>?_,tb.trans' ((t3.mono (fun k _ h=>h.elim (fun h=>.inl (.inl h)) .inr)).trans' (Tch.putObj _ _ _ (.inl (.inr rfl)))),fun k hk=>?_⟩
    ·rw[hrc] at he ⊢
     exact he
    ·rcases hz' _ h with h|h
     ·exact hz1 h
     ·omega
    ·rcases hz' _ h with h|h
     ·exact hz2 h
     ·omega
    ·rw[World.putObj_size]
     rcases hz' _ hk with h|h
     ·exact .inl h
     ·exact .inr (by omega)
   rintro e a3 W3 hp
   cases e with
   |normal=>
    obtain⟨Z',hz',t3,hi3⟩:=hp
    obtain⟨W4,e4,hr,hl4,hd4,z1,z2,k4,zz⟩:=fin none Z' W3 hz' t3
    exact⟨_,_,hr,Z',zz,k4,.inl ⟨rfl,by rw[e4];exact put _ hi3 z2,hl4,hd4,z1,z2⟩⟩
   |ret=>
    obtain⟨Z',hz',t3,hi3⟩:=hp
    obtain⟨W4,e4,hr,hl4,hd4,z1,z2,k4,zz⟩:=fin (some .ret) Z' W3 hz' t3
    exact⟨_,_,hr,Z',zz,k4,.inr ⟨rfl,.ret,by rw[e4];exact putx _ hi3 z2,hl4,hd4,z1,z2⟩⟩
   |exit id=>
    obtain⟨Z',hz',t3,hi3⟩:=hp
    obtain⟨W4,e4,hr,hl4,hd4,z1,z2,k4,zz⟩:=fin (some (.exit id)) Z' W3 hz' t3
    exact⟨_,_,hr,Z',zz,k4,.inr ⟨rfl,.exit id,by rw[e4];exact putx _ hi3 z2,hl4,hd4,z1,z2⟩⟩
   |goto t=>
    obtain⟨Z',hz',t3,hi3⟩:=hp
    obtain⟨W4,e4,hr,hl4,hd4,z1,z2,k4,zz⟩:=fin (some (.goto t)) Z' W3 hz' t3
    exact⟨_,_,hr,Z',zz,k4,.inr ⟨rfl,.goto t,by rw[e4];exact putx _ hi3 z2,hl4,hd4,z1,z2⟩⟩
   |panic ch=>exact hp.elim
   |outgrown=>exact hp.elim
  ·rintro e W2 ⟨⟨v,rfl⟩,Z',(⟨hi,hl,hk,z1,z2⟩|⟨pre,hSp,c,hi,hl,hk,z1,z2⟩)⟩
   ·exact⟨none,_,by have:=run_endLoop (P:=P) hl (by rw[hrc];simp);rw[hrc] at this;exact this,hdone _ Z' _ (Nat.le_refl _) z1 (put _ hi z2) ((World.putObj_heap_other (by omega)).trans hk)⟩
   ·exact⟨some c,_,by have:=run_endLoop (P:=P) hl (by rw[hrc];simp);rw[hrc] at this;exact this,hstop _ c pre Z' _ (Nat.le_refl _) z1 hSp (putx _ hi z2) ((World.putObj_heap_other (by omega)).trans hk)⟩
theorem leaves_marks {n:Nat} {P:Program} {fn:Func} {tmps:Array Value} {R:Ending→World→Prop} : ∀(ds:List Nat) (W:World),(∀d∈ds,W.heap[d]? =some (.deferred (some [])))→ds.Nodup→
  (∀W',Tch (fun k=>k∈ds) W W'→LeavesInM Fence.wide n P fn tmps R [] .returning W')→LeavesInM Fence.wide n P fn tmps R (ds.map (fun d=> { target:= .collected d,args:=#[] })) .returning W
 |[],W,_,_,h=>h W (Tch.refl _ _)
 |d::ds,W,hd,hn,h=>by
  refine⟨by simp,.inl ⟨d,_,rfl,run_takeDeferred (hd d (by simp)),?_⟩⟩
  refine leaves_marks ds _ (fun e he=>?_) (List.nodup_cons.1 hn).2 (fun W' t=>h W' ((Tch.putObj W d _ (by simp)).trans t (fun i _ hi=>by simp[hi])))
  have hne:e≠d:=fun h'=>(List.nodup_cons.1 hn).1 (by rw[←h'];exact he)
  rw[World.putObj_heap_other hne]
  exact hd e (by simp[he])
attribute [local go_sem] Oper.semAt_some
abbrev eB:ByteArray:=⟨#[]⟩
abbrev spV (f t:ByteArray) (b:Bool):Value:= .agg #[.string f,.string t,.bool b]
theorem kc_eB (a:ByteArray):0≤kc a eB:=by
 unfold kc
 show 0≤Lib.compareBytes a.data.toList []
 cases a.data.toList with
 |nil=>decide
 |cons x y=>simp[Lib.compareBytes]
theorem found_eB {l:List It} {i:Nat} {th:Bool} (h:Found l eB i th):i=0:=by
 cases i with
 |zero=>rfl
 |succ i=>
  have hl:=h.le
  have hm:l[0]'(by omega)∈l.take (i+1):=List.mem_iff_getElem.2 ⟨0,by rw[List.length_take];omega,by simp⟩
  have h1:=h.lo _ hm
  have h2:=kc_eB (l[0]'(by omega)).1
  unfold Lo at h1
  omega
structure LK (N:Nat) (W0 w:World) (p:Nat) (iv:Value) (l:List It):Prop where
 lf:LF N W0 p iv l
 t:Tch (fun k=> ¬(N≤k∧k<W0.heap.size)) W0 w
theorem LK.now {N:Nat} {W0 w:World} {p:Nat} {iv:Value} {l:List It} (h:LK N W0 w p iv l):LF N w p iv l:=h.lf.tch h.t (fun _ h1 h2 e=>e ⟨h1,h2⟩)
theorem LK.tch {N:Nat} {W0 w w':World} {S:Nat→Prop} {p:Nat} {iv:Value} {l:List It} (h:LK N W0 w p iv l) (t:Tch S w w') (hS: ∀k,N≤k→k<W0.heap.size→ ¬S k):LK N W0 w' p iv l:=
 ⟨h.lf,h.t.trans t (fun i _ e h2=>hS i h2.1 h2.2 e)⟩
theorem ends_any {N:Nat} {w:World} {p:Nat} {iv:Value} {l:List It} (h:LF N w p iv l) (hl:l.length<10):
  Calls Tryz.prog 111 #[pv p,spV eB eB false] w fun x w'=>x= .returned (.tuple #[.int .i64 0,.int .i64 (2*(l.length:Int))])∧Tch (fun _=>False) w w':=by
 have HF:Hid (∀W,Tch (fun _=>False) w W→Calls Tryz.prog 106 #[.pointer (some ⟨p,0,none⟩),.string eB] W fun x w'=>(∃(i:Nat) (th:Bool),x= .returned (.tuple #[.int .i64 i,.bool th])∧Found l eB i th)∧Tch (fun _=>False) W w'):=fun W tc=>by
  have h1:=h.no tc
  exact find_any p l eB iv (.slice none 0 0) _ W h1.nd (own_low h1.its (Nat.zero_le _)) h1.so (by omega)
 obtain⟨n,hn⟩: ∃n,n=l.length:=⟨_,rfl⟩
 have HC:Hid (∀W,Tch (fun _=>False) w W→ ∃ao c,W.cell? ⟨p,0,none⟩=some (.slice ao n c)):=fun W tc=>by
  have h1:=h.no tc
  obtain⟨ao,c,hv⟩:=row_slice h1.its
  have:=h1.nd.cells.1
  rw[hv] at this
  exact⟨ao,c,by rw[hn];exact this⟩
 obtain⟨w0,hw0⟩: ∃w0,w0=w.alloc (.cells #[.string eB,.string eB,.bool false] 157):=⟨_,rfl⟩
 obtain⟨B,hB⟩: ∃B,B=w.heap.size:=⟨_,rfl⟩
 have t0:Tch (fun _=>False) w w0:=by rw[hw0];exact Tch.alloc _ _ _
 have hB0:w0.heap[B]? =some (.cells #[.string eB,.string eB,.bool false] 157 (0,0)):=by rw[hw0,hB];exact alloc_new _ _
 have x0:w0.cell? ⟨B,0,none⟩=some (.string eB):=by rw[blk_cell hB0];rfl
 have q:=HF.out w0 t0
 have HB0:Hid (w0.heap[B]? =some (.cells #[.string eB,.string eB,.bool false] 157 (0,0))):=hB0
 have HT0:Hid (Tch (fun _=>False) w w0):=t0
 have Hw0:Hid (w0=w.alloc (.cells #[.string eB,.string eB,.bool false] 157)):=hw0
 have HB:Hid (B=w.heap.size):=hB
 have hnI:(n:Int)≤15:=by omega
 rw[←hn]
 rw[hw0,hB] at x0
 clear h hl hw0 hB t0 hB0 hn
 go_enter Tryz.func111,Tryz.ntmps111
 go_wp2_with fail
 have hw:=Hw0.out
 rw[←hw, ←HB.out]
 clear hw x0
 refine q.mono ?_
 rintro x w1 ⟨⟨i,th,rfl,hf⟩,t1⟩
 clear q
 obtain rfl:=found_eB hf
 have HT1:Hid (Tch (fun _=>False) w w1):=HT0.out.trans' t1
 obtain⟨ao,ca,c0⟩:=HC.out w1 HT1.out
 have hB1:w1.heap[B]? =some (.cells #[.string eB,.string eB,.bool false] 157 (0,0)):=by rw[t1.block B (blk_lt HB0.out) (fun h=>h)];exact HB0.out
 have x1:w1.cell? ⟨B,1,none⟩=some (.string eB):=by rw[blk_cell hB1];rfl
 clear hf t1 hB1
 go_wp2_with fail
 go_ret2
 exact⟨rfl,HT1.out⟩
theorem walk_any (v:Option Addr) (f o:ByteArray) (b:Bool) (w:World):Calls Tryz.prog 105 #[.pointer v,spV f o b] w fun x w'=>x= .returned (.func (.func 110) #[] #[pv w.heap.size,pv (w.heap.size+1)])∧w'=(w.alloc (.cells #[.pointer v] 160)).alloc (.cells #[.string f,.string o,.bool b] 157):=by
 go_enter Tryz.func105,Tryz.ntmps105
 go_wp2_with fail
 go_ret
 exact⟨by simp,rfl⟩
abbrev eI (e:It):Array Value:=#[.string e.1,ev e.2]
abbrev yF (l:Nat):Value:= .func (.yield l) #[] #[]
structure WS (w:World) (l:Nat) (Y:Nat→Prop) (yb:Nat) (ds:List Nat) (Z:Nat→Prop) (W:World):Prop where
 tw:Tch (fun k=> ¬Y k) w W
 ylt:l<yb
 ynz: ¬Z yb
 yc:W.heap[yb]? =some (.cells #[yF l] 134 (0,0))
 md: ∀d∈ds,l<d∧ ¬Z d∧W.heap[d]? =some (.deferred (some []))
 nod:ds.Nodup
 zb: ∀k,Z k→k<W.heap.size∧ ¬Y k
theorem WS.tch {w:World} {l:Nat} {Y:Nat→Prop} {yb:Nat} {ds:List Nat} {Z:Nat→Prop} {W W':World} {S:Nat→Prop} (h:WS w l Y yb ds Z W) (t:Tch S W W') (hS: ∀k,S k→ ¬Y k∧k≠yb∧k ∉ ds):WS w l Y yb ds Z W':=
 ⟨h.tw.trans t (fun k _ hk=>(hS k hk).1),h.ylt,h.ynz,(t.block _ (blk_lt h.yc) (fun hk=>(hS _ hk).2.1 rfl)).trans h.yc,fun d hd=>⟨(h.md d hd).1,(h.md d hd).2.1,(t.block _ (blk_lt (h.md d hd).2.2) (fun hk=>(hS _ hk).2.2 hd)).trans (h.md d hd).2.2⟩,h.nod,fun k hk=>⟨Nat.lt_of_lt_of_le (h.zb k hk).1 t.size,(h.zb k hk).2⟩⟩
theorem WS.lt {w:World} {l:Nat} {Y:Nat→Prop} {yb:Nat} {ds:List Nat} {Z:Nat→Prop} {W:World} (h:WS w l Y yb ds Z W) (hY: ∀k,Y k→k<w.heap.size) {k:Nat} (hk:Y k∨k=yb∨k∈ds):k<W.heap.size:=by
 rcases hk with hk|rfl|hk
 ·exact Nat.lt_of_lt_of_le (hY k hk) h.tw.size
 ·exact blk_lt h.yc
 ·exact blk_lt (h.md k hk).2.2
theorem WS.new {w:World} {l:Nat} {Y:Nat→Prop} {yb:Nat} {ds:List Nat} {Z:Nat→Prop} {W W':World} (h:WS w l Y yb ds Z W) (t:Tch (fun _=>False) W W'):WS w l Y yb ds Z W':=h.tch t (fun _ h=>h.elim)
theorem WS.round {w:World} {l:Nat} {Y T:Nat→Prop} {yb:Nat} {ds:List Nat} {Z Z':Nat→Prop} {W W':World} (h:WS w l Y yb ds Z W) (hY: ∀k,Y k→k<w.heap.size) (hT: ∀k,T k→k≤l∧ ¬Y k) (hz: ∀k,Z' k→Z k∨(W.heap.size≤k∧k<W'.heap.size)) (t:Tch (fun k=>T k∨Z k) W W'):WS w l Y yb ds Z' W':=by
 have nz: ∀k, ¬Z k→k<W.heap.size→ ¬Z' k:=fun k h1 h2 h3=>by
  rcases hz k h3 with h4|h4
  ·exact h1 h4
  ·omega
 have h1:=h.tch t (fun k hk=>by
  rcases hk with hk|hk
  ·have:=hT k hk
   exact⟨this.2,fun e=>by have:=h.ylt;omega,fun hd=>by have:=(h.md k hd).1;omega⟩
  ·exact⟨(h.zb k hk).2,fun e=>h.ynz (e▸hk),fun hd=>(h.md k hd).2.1 hk⟩)
 refine⟨h1.tw,h1.ylt,nz _ h.ynz (blk_lt h.yc),h1.yc,fun d hd=>⟨(h1.md d hd).1,nz _ (h.md d hd).2.1 (blk_lt (h.md d hd).2.2),(h1.md d hd).2.2⟩,h1.nod,fun k hk=>?_⟩
 rcases hz k hk with h4|h4
 ·exact⟨(h1.zb k h4).1,(h.zb k h4).2⟩
 ·exact⟨h4.2,fun hy=>by have:=h.lt hY (.inl hy);omega⟩
theorem WS.mark {w:World} {l:Nat} {Y:Nat→Prop} {yb:Nat} {ds:List Nat} {Z:Nat→Prop} {W:World} (h:WS w l Y yb ds Z W) (D:Nat) (h1:l<D) (h2: ¬Z D) (h3:W.heap[D]? =some (.deferred (some []))) (h4:D ∉ ds):WS w l Y yb (D::ds) Z W:=
 ⟨h.tw,h.ylt,h.ynz,h.yc,fun d hd=>(List.mem_cons.1 hd).elim (fun e=>by subst e;exact⟨h1,h2,h3⟩) (h.md d),List.nodup_cons.2 ⟨h4,h.nod⟩,h.zb⟩
theorem arr79 (a:Array Value) (h:a.size=79):a=((List.range 79).map (fun n=>a.getD n undef)).toArray:=by
 refine Array.ext (by simp[h]) (fun n h1 h2=>?_)
 simp[Array.getD,h1]
structure Fr (T:Array Value) (l bn bs yb:Nat) (iv kv:Value) (j k:Nat):Prop where
 size:T.size=79
 s0:T.getD 0 undef=yF l
 s1:T.getD 1 undef=pv bn
 s2:T.getD 2 undef=pv bs
 s3:T.getD 3 undef=pv yb
 s4:T.getD 4 undef=iv
 s5:T.getD 5 undef=kv
 s6:T.getD 6 undef= .int .i64 0
 s7:T.getD 7 undef= .int .i64 (2*(j:Int))
 s32:T.getD 32 undef= .int .i64 (2*(j:Int)+1)
 s33:T.getD 33 undef= .int .i64 (k:Int)
theorem Fr.elim {T:Array Value} {l bn bs yb:Nat} {iv kv:Value} {j k:Nat} (h:Fr T l bn bs yb iv kv j k): ∃u:Nat→Value,T=(List.toArray (yF l::pv bn::pv bs::pv yb::iv::kv:: .int .i64 0:: .int .i64 (2*(j:Int))::u 8::u 9::u 10::u 11::u 12::u 13::u 14::u 15::u 16::u 17::u 18::u 19::u 20::u 21::u 22::u 23::u 24::u 25::u 26::u 27::u 28::u 29::u 30::u 31:: .int .i64 (2*(j:Int)+1):: .int .i64 (k:Int)::u 34::u 35::u 36::u 37::u 38::u 39::u 40::u 41::u 42::u 43::u 44::u 45::u 46::u 47::u 48::u 49::u 50::u 51::u 52::u 53::u 54::u 55::u 56::u 57::u 58::u 59::u 60::u 61::u 62::u 63::u 64::u 65::u 66::u 67::u 68::u 69::u 70::u 71::u 72::u 73::u 74::u 75::u 76::u 77::u 78::[])):=by
 have h1:=arr79 T h.size
 obtain⟨u,hu⟩: ∃u:Nat→Value,u=fun n=>T.getD n undef:=⟨_,rfl⟩
 have e: ∀n,T.getD n undef=u n:=fun n=>by rw[hu]
 have e0:u 0=yF l:=(e 0).symm.trans h.s0
 have e1:u 1=pv bn:=(e 1).symm.trans h.s1
 have e2:u 2=pv bs:=(e 2).symm.trans h.s2
 have e3:u 3=pv yb:=(e 3).symm.trans h.s3
 have e4:u 4=iv:=(e 4).symm.trans h.s4
 have e5:u 5=kv:=(e 5).symm.trans h.s5
 have e6:u 6= .int .i64 0:=(e 6).symm.trans h.s6
 have e7:u 7= .int .i64 (2*(j:Int)):=(e 7).symm.trans h.s7
 have e32:u 32= .int .i64 (2*(j:Int)+1):=(e 32).symm.trans h.s32
 have e33:u 33= .int .i64 (k:Int):=(e 33).symm.trans h.s33
 refine⟨u,h1.trans ?_⟩
 rw[←hu]
 show List.toArray (u 0::u 1::u 2::u 3::u 4::u 5::u 6::u 7::u 8::u 9::u 10::u 11::u 12::u 13::u 14::u 15::u 16::u 17::u 18::u 19::u 20::u 21::u 22::u 23::u 24::u 25::u 26::u 27::u 28::u 29::u 30::u 31::u 32::u 33::u 34::u 35::u 36::u 37::u 38::u 39::u 40::u 41::u 42::u 43::u 44::u 45::u 46::u 47::u 48::u 49::u 50::u 51::u 52::u 53::u 54::u 55::u 56::u 57::u 58::u 59::u 60::u 61::u 62::u 63::u 64::u 65::u 66::u 67::u 68::u 69::u 70::u 71::u 72::u 73::u 74::u 75::u 76::u 77::u 78::[])=_
 rw[e0,e1,e2,e3,e4,e5,e6,e7,e32,e33]
def WI (j l:Nat) (l0:List It) (J:List It→(Nat→Prop)→World→Prop) (w:World) (Y:Nat→Prop) (yb bn bs:Nat) (iv kv:Value) (left:Nat) (a:Act) (W:World):Prop:=
 ∃(k:Nat) (Z:Nat→Prop),Fr a.tmps l bn bs yb iv kv j k∧a.defers=[]∧k+left=2*j+1∧Hid (WS w l Y yb [] Z W)∧Hid (J (l0.take (k / 2)) Z W)
theorem WI.elim {j l:Nat} {l0:List It} {J:List It→(Nat→Prop)→World→Prop} {w:World} {Y:Nat→Prop} {yb bn bs:Nat} {iv kv:Value} {left:Nat} {a:Act} {W:World} {P:Act→World→Prop} (hI:WI j l l0 J w Y yb bn bs iv kv left a W)
  (H: ∀(k:Nat) (Z:Nat→Prop) (u:Nat→Value),k+left=2*j+1→Hid (WS w l Y yb [] Z W)→Hid (J (l0.take (k / 2)) Z W)→P { tmps:=(List.toArray (yF l::pv bn::pv bs::pv yb::iv::kv:: .int .i64 0:: .int .i64 (2*(j:Int))::u 8::u 9::u 10::u 11::u 12::u 13::u 14::u 15::u 16::u 17::u 18::u 19::u 20::u 21::u 22::u 23::u 24::u 25::u 26::u 27::u 28::u 29::u 30::u 31:: .int .i64 (2*(j:Int)+1):: .int .i64 (k:Int)::u 34::u 35::u 36::u 37::u 38::u 39::u 40::u 41::u 42::u 43::u 44::u 45::u 46::u 47::u 48::u 49::u 50::u 51::u 52::u 53::u 54::u 55::u 56::u 57::u 58::u 59::u 60::u 61::u 62::u 63::u 64::u 65::u 66::u 67::u 68::u 69::u 70::u 71::u 72::u 73::u 74::u 75::u 76::u 77::u 78::[])),defers:=[] } W):P a W:=by
 obtain⟨k,Z,hf,hd,h1,h2,h3⟩:=hI
 obtain⟨u,hu⟩:=hf.elim
 obtain⟨T,D⟩:=a
 have hu':T=_:=hu
 have hd':D=_:=hd
 rw[hu',hd']
 exact H k Z u h1 h2 h3
theorem walk1_leaf (n N:Nat) (WT:World) (p bn bs:Nat) (iv:Value) (l0:List It) (w:World) (h:LK N WT w p iv l0) (hl0:l0.length<10) (hbn:w.heap[bn]? =some (.cells #[pv p] 160 (0,0))) (hbs:w.heap[bs]? =some (.cells #[.string eB,.string eB,.bool false] 157 (0,0))):
  SeqL n Tryz.prog 110 #[pv bn,pv bs] eI (fun k=>(N≤k∧k<WT.heap.size)∨k=bn∨k=bs) l0 w:=by
 intro l J Jx T Z W hl hlW tW hT hZ aJ aJx hY h0
 obtain⟨Y,hYd⟩: ∃Y:Nat→Prop,Y=fun k=>(N≤k∧k<WT.heap.size)∨k=bn∨k=bs:=⟨_,rfl⟩
 rw[←hYd] at hT hZ
 have hYw: ∀k,Y k→k<w.heap.size:=fun k hk=>by
  rw[hYd] at hk
  rcases hk with hk|rfl|rfl
  ·exact Nat.lt_of_lt_of_le hk.2 h.t.size
  ·exact blk_lt hbn
  ·exact blk_lt hbs
 obtain⟨io,ic,rfl⟩:=row_slice h.lf.its
 have HR:Hid (∀W1,Tch (fun k=> ¬Y k) w W1→LF N W1 p (.slice io l0.length ic) l0∧W1.heap[bn]? =some (.cells #[pv p] 160 (0,0))∧W1.heap[bs]? =some (.cells #[.string eB,.string eB,.bool false] 157 (0,0))):=fun W1 t1=>
  ⟨(h.tch t1 (fun k h1 h2 hn=>hn (by rw[hYd];exact .inl ⟨h1,h2⟩))).now,(t1.block _ (blk_lt hbn) (fun hn=>hn (by rw[hYd];exact .inr (.inl rfl)))).trans hbn,(t1.block _ (blk_lt hbs) (fun hn=>hn (by rw[hYd];exact .inr (.inr rfl)))).trans hbs⟩
 obtain⟨yb,hyb⟩: ∃yb,yb=W.heap.size:=⟨_,rfl⟩
 obtain⟨W0,hW0⟩: ∃W0,W0=W.alloc (.cells #[yF l] 134):=⟨_,rfl⟩
 have t0:Tch (fun _=>False) W W0:=by rw[hW0];exact Tch.alloc _ _ _
 have HS0:Hid (WS w l Y yb [] Z W0):=⟨(tW.trans' t0).mono (fun _ _ h=>h.elim),by omega,fun h=>by have:=(hZ _ h).1;omega,by rw[hW0,hyb];exact alloc_new _ _,fun d hd=>(by cases hd),List.nodup_nil,fun k hk=>⟨Nat.lt_of_lt_of_le (hZ k hk).1 t0.size,(hZ k hk).2⟩⟩
 have HJ0:Hid (J [] Z W0):=aJ _ _ _ _ h0 (t0.mono (fun _ _ h=>h.elim))
 obtain⟨hN0,hbn0,hbs0⟩:=HR.out W0 HS0.out.tw
 have HaJ:Hid (Abl l J∧Abl l Jx):=⟨aJ,aJx⟩
 have HY:Hid (∀m pre x Z1 W1,pre++[x]<+:l0→J pre Z1 W1→YieldAt Fence.wide m Tryz.prog l (eI x) W1 (Rnd T Z1 W1 (J (pre++[x])) (Jx (pre++[x])))):=hY
 have HT:Hid (∀k,T k→k≤l∧ ¬Y k):=hT
 have HYw:Hid (∀k,Y k→k<w.heap.size):=hYw
 have c0:=hN0.nd.cells.1
 have c1:=hN0.nd.cells.2.1
 have x0:W0.cell? ⟨bn,0,none⟩=some (pv p):=by rw[blk_cell hbn0];rfl
 have x1:W0.cell? ⟨bs,0,none⟩=some (.string eB):=by rw[blk_cell hbs0];rfl
 have x2:W0.cell? ⟨bs,1,none⟩=some (.string eB):=by rw[blk_cell hbs0];rfl
 have x3:W0.cell? ⟨bs,2,none⟩=some (.bool false):=by rw[blk_cell hbs0];rfl
 refine callsIn_of_wp_marks Tryz.func110 rfl trivial ?_ rfl
 simp only[Tryz.ntmps110,List.size_toArray,List.length_cons,List.length_nil,Nat.reduceAdd,Nat.reduceSub,Array.replicate_succ,Array.replicate_zero,List.push_toArray,List.append_toArray,List.nil_append,List.cons_append]
 refine wpIn_wide.2 ?_
 have HW0:Hid (W0=W.alloc (.cells #[yF l] 134)):=hW0
 have HYb:Hid (yb=W.heap.size):=hyb
 have Hl0:Hid (l0.length<10):=hl0
 obtain⟨j,hj⟩: ∃j,j=l0.length:=⟨_,rfl⟩
 have Hj:Hid (j=l0.length):=hj
 rw[hW0] at x0 x1 x2 x3 c0 c1
 rw[←hj] at c0
 clear hW0 hyb h hbn hbs tW t0 h0 hN0 hbn0 hbs0 hZ aJ aJx hY hT hYw hYd hl hlW hl0 hj
 go_wp2_with fail
 go_quiet (fail)
 go_wp2_with fail
 have hw:=HW0.out
 change W0=W.alloc (Obj.cells #[Value.func (Fn.yield l) #[] #[]] 134) at hw
 rw[←hw]
 have hyb:=HYb.out
 rw[←hyb]
 clear hw hyb c0 c1 x0 x1 x2 x3
 have t1:Tch (fun _=>False) W0 (W0.drewN nq):=(Tch.refl _ _).drewN _
 have HS1:Hid (WS w l Y yb [] Z (W0.drewN nq)):=HS0.out.new t1
 have HJ1:Hid (J [] Z (W0.drewN nq)):=HaJ.out.1 _ _ _ _ HJ0.out (t1.mono (fun _ _ h=>h.elim))
 revert HS1 HJ1
 generalize W0.drewN nq=W1
 intro HS1 HJ1
 clear t1 HS0 HJ0 HW0 HYb
 have q:=ends_any (HR.out W1 HS1.out.tw).1 Hl0.out
 rw[←Hj.out] at q
 refine q.mono ?_
 rintro x w1 ⟨rfl,t1⟩
 have HS2:Hid (WS w l Y yb [] Z w1):=HS1.out.new t1
 have HJ2:Hid (J [] Z w1):=HaJ.out.1 _ _ _ _ HJ1.out (t1.mono (fun _ _ h=>h.elim))
 have hjI:(j:Int)≤15:=by have:=Hl0.out;have:=Hj.out;omega
 clear q t1 HS1 HJ1
 go_wp2_with fail
 refine(wpIn_wide (n:=n)).1 ?_
 refine wpIn_loop_ghost_k (WI j l l0 J w Y yb bn bs (.slice io j ic) (.slice none 0 0)) (2*j+1) ?start ?round
 case start=>exact⟨0,Z,⟨rfl,rfl,rfl,rfl,rfl,rfl,rfl,rfl,rfl,rfl,rfl⟩,rfl,by omega,HS2,by show J _ _ _;simp only[Nat.zero_div,List.take_zero];exact HJ2.out⟩
 case round=>
 clear HS2 HJ2
 intro lf a wr hI JJ K hJJ hKK
 refine hI.elim ?_
 clear hI a
 intro k Z1 u hk HS HJ
 by_cases hlt:(k:Int)<2*(j:Int)+1
 ·obtain⟨hNr,hbnr,hbsr⟩:=HR.out wr HS.out.tw
  have x3:wr.cell? ⟨bs,2,none⟩=some (.bool false):=by rw[blk_cell hbsr];rfl
  have hyc:wr.cell? ⟨yb,0,none⟩=some (yF l):=by rw[blk_cell HS.out.yc];rfl
  rcases Nat.mod_two_eq_zero_or_one k with hm|hm
  ·have hm':(k:Int) % 2=0:=by omega
   have HJ3:Hid (J (l0.take ((k+1) / 2)) Z1 wr):=by
    show J _ _ _
    rw[show(k+1) / 2=k / 2 by omega]
    exact HJ.out
   clear hNr hbnr hbsr hm
   gi_wp2_with fail
   refine Handed.intro (lf - 1) (by omega) (hJJ _ _ _ ⟨k+1,Z1,⟨rfl,rfl,rfl,rfl,rfl,rfl,rfl,rfl,rfl,rfl,congrArg (Value.int .i64) (by omega)⟩,rfl,by omega,HS,HJ3⟩)
  ·obtain⟨c,hc⟩: ∃c,c=k / 2:=⟨_,rfl⟩
   have hm':(k:Int) % 2=1:=by omega
   have hd':(k:Int) / 2=(c:Int):=by omega
   have hcl:c<l0.length:=by have:=Hj.out;omega
   obtain⟨g,gc,hgv,_,_,_,hgA,_⟩:=own_at hNr.its (by omega)
   injection hgv with hg1 _ hg2
   subst hg1
   subst hg2
   obtain⟨ce,hce⟩: ∃ce:It,l0[c]? =some ce:=⟨_,List.getElem?_eq_getElem hcl⟩
   have he:l0[c]=ce:=(List.getElem?_eq_some_iff.1 hce).2
   have y0:wr.cell? ⟨g,c*2,none⟩=some (.string ce.1):=by
    have:=hgA (c*2) _ (icl_get l0 c hcl).1
    rw[Nat.zero_add] at this
    exact this.trans (congrArg (fun x:It=>some (Value.string x.1)) he)
   have y1:wr.cell? ⟨g,c*2+1,none⟩=some (ev ce.2):=by
    have:=hgA (c*2+1) _ (icl_get l0 c hcl).2
    rw[Nat.zero_add] at this
    exact this.trans (congrArg (fun x:It=>some (ev x.2)) he)
   have hcI:(c:Int)<j:=by have:=Hj.out;omega
   have Hce:Hid (l0[c]? =some ce):=hce
   have Hc:Hid (k / 2=c∧(k+1) / 2=c+1):=⟨hc.symm,by omega⟩
   clear hm hc hcl hce he hgA hNr hbnr hbsr
   obtain⟨wa,hwa⟩: ∃wa,wa=wr.alloc (.cells #[.string ce.1,ev ce.2] 170):=⟨_,rfl⟩
   have ta:Tch (fun _=>False) wr wa:=by rw[hwa];exact Tch.alloc _ _ _
   have HSa:Hid (WS w l Y yb [] Z1 wa):=HS.out.new ta
   have hyc2:wa.cell? ⟨yb,0,none⟩=some (yF l):=by rw[blk_cell HSa.out.yc];rfl
   have HJa:Hid (J (l0.take c) Z1 wa):=by
    show J _ _ _
    rw[←Hc.out.1]
    exact HaJ.out.1 _ _ _ _ HJ.out (ta.mono (fun _ _ h=>h.elim))
   have hcs:l0.take (c+1)=l0.take c++[ce]:=by rw[List.take_add_one,Hce.out];rfl
   have hpre:l0.take c++[ce]<+:l0:=by rw[←hcs];exact List.take_prefix _ _
   obtain⟨fn,tmps,assign,body,hy,hR⟩:=HY.out (n - 1) _ ce Z1 wa hpre HJa.out
   have Hcs:Hid (l0.take ((k+1) / 2)=l0.take c++[ce]):=by rw[Hc.out.2];exact hcs
   have Hpre:Hid (l0.take c++[ce]<+:l0):=hpre
   have z0:wa.cell? ⟨wr.heap.size,0,none⟩=some (.string ce.1):=by rw[hwa,blk_cell (alloc_new _ _)];rfl
   have z1:wa.cell? ⟨wr.heap.size,1,none⟩=some (ev ce.2):=by rw[hwa,blk_cell (alloc_new _ _)];rfl
   have Hwa:Hid (wa=wr.alloc (.cells #[.string ce.1,ev ce.2] 170)):=hwa
   rw[hwa] at hyc2 z0 z1 hy hR
   rw[hwa] at HSa
   clear hcs hpre ta hwa
   gi_wp2_with fail
   refine⟨fun h=>(by cases h),hR.mono ?_⟩
   clear hR hy hyc2 z0 z1 hyc x3 y0 y1 HJa Hwa
   rintro e W3 ⟨Z2,hz2,t3,(⟨rfl,hJ3⟩|⟨rfl,hx3⟩)⟩
   ·have HS3:Hid (WS w l Y yb [] Z2 W3):=HSa.out.round HYw.out HT.out hz2 t3
    have HJ3:Hid (J (l0.take ((k+1) / 2)) Z2 W3):=by
     show J _ _ _
     rw[Hcs.out]
     exact hJ3
    clear hJ3 t3 hz2 HSa
    gi_wp2_with fail
    refine Handed.intro (lf - 1) (by omega) (hJJ _ _ _ ⟨k+1,Z2,⟨rfl,rfl,rfl,rfl,rfl,rfl,rfl,rfl,rfl,rfl,congrArg (Value.int .i64) (by omega)⟩,rfl,by omega,HS3,HJ3⟩)
   ·have HS3:Hid (WS w l Y yb [] Z2 W3):=HSa.out.round HYw.out HT.out hz2 t3
    have Hx3:Hid (Jx (l0.take c++[ce]) Z2 W3):=hx3
    clear hx3 t3 hz2 HSa
    gi_wp2_with fail
    refine leaves_marks [] _ (fun d hd=>(by cases hd)) List.nodup_nil (fun W' tt=>?_)
    refine⟨_,results_none rfl _ _ _,⟨_,rfl⟩,Z2,.inr ⟨_,Hpre.out,HaJ.out.2 _ _ _ _ Hx3.out (tt.mono (fun d _ hd=>by cases hd))⟩⟩
 ·have HF:Hid (∀W',Tch (fun d=>d∈([]:List Nat)) wr W'→J l0 Z1 W'):=fun W' tt=>by
   have h9:l0.take (k / 2)=l0:=List.take_of_length_le (by have:=Hj.out;omega)
   rw[←h9]
   exact HaJ.out.1 _ _ _ _ HJ.out (tt.mono (fun d _ hd=>by cases hd))
  gi_wp2_with fail
  refine leaves_marks [] _ (fun d hd=>(by cases hd)) List.nodup_nil (fun W' tt=>?_)
  refine⟨_,results_none rfl _ _ _,⟨_,rfl⟩,Z1,.inl (HF.out W' tt)⟩
end Go.Proofs.YtppokgdofgigfaaGreat.R
