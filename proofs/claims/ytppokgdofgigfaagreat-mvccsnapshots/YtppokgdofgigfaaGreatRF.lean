import Derived.Test.YtppokgdofgigfaaGreatRWk
import Derived.Test.YtppokgdofgigfaaGreatFS0
import Derived.Test.YtppokgdofgigfaaGreatMGet
set_option maxHeartbeats 4000000
set_option maxRecDepth 100000
namespace Go.Proofs.YtppokgdofgigfaaGreat.R
open Go.RowKit Go Go.Shelf
attribute [local go_sem] Oper.semAt_some
theorem walk1_nil (n bn bs:Nat) (w:World) (hbn:w.heap[bn]? =some (.cells #[.pointer none] 160 (0,0))):
  SeqL n Tryz.prog 110 #[pv bn,pv bs] eI (fun k=>k=bn∨k=bs) [] w:=by
 intro l J Jx T Z W hl hlW tW hT hZ aJ aJx hY h0
 obtain⟨W0,hW0⟩: ∃W0,W0=W.alloc (.cells #[yF l] 134):=⟨_,rfl⟩
 have t0:Tch (fun _=>False) W W0:=by rw[hW0];exact Tch.alloc _ _ _
 have hb0:W0.heap[bn]? =some (.cells #[.pointer none] 160 (0,0)):=((tW.trans' t0).block _ (blk_lt hbn) (fun h=>h)).trans hbn
 have x0:W0.cell? ⟨bn,0,none⟩=some (.pointer none):=by rw[blk_cell hb0];rfl
 have HJ0:Hid (J [] Z W0):=aJ _ _ _ _ h0 (t0.mono (fun _ _ h=>h.elim))
 have HaJ:Hid (Abl l J):=aJ
 have HW0:Hid (W0=W.alloc (.cells #[yF l] 134)):=hW0
 refine callsIn_of_wp_marks Tryz.func110 rfl trivial ?_ rfl
 simp only[Tryz.ntmps110,List.size_toArray,List.length_cons,List.length_nil,Nat.reduceAdd,Nat.reduceSub,Array.replicate_succ,Array.replicate_zero,List.push_toArray,List.append_toArray,List.nil_append,List.cons_append]
 refine wpIn_wide.2 ?_
 rw[hW0] at x0
 clear hW0 hbn tW t0 h0 hb0 hZ aJ aJx hY hT hl hlW
 go_wp2_with fail
 refine leaves_marks [] _ (fun d hd=>(by cases hd)) List.nodup_nil (fun W' tt=>?_)
 refine⟨_,results_none rfl _ _ _,⟨_,rfl⟩,Z,.inl ?_⟩
 have hj:=HJ0.out
 rw[HW0.out] at hj
 exact HaJ.out _ _ _ _ hj (tt.mono (fun _ _ h=>by cases h))
structure TK (N:Nat) (W0 w:World) (b:Nat) (l:List It):Prop where
 tw:TW N W0 b l
 t:Tch (fun k=> ¬(N≤k∧k<W0.heap.size)) W0 w
theorem TK.tch {N:Nat} {W0 w w':World} {S:Nat→Prop} {b:Nat} {l:List It} (h:TK N W0 w b l) (t:Tch S w w') (hS: ∀k,N≤k→k<W0.heap.size→ ¬S k):TK N W0 w' b l:=
 ⟨h.tw,h.t.trans t (fun i _ e h2=>hS i h2.1 h2.2 e)⟩
theorem TK.root {N:Nat} {W0 w:World} {b:Nat} {l:List It} (h:TK N W0 w b l) (hl:l.length<10): ∃v:Option Addr,(∀W2,TK N W0 W2 b l→W2.heap[b]? =some (.cells #[.pointer v] 162 (0,0)))∧
  ∀(n:Nat) (W2:World) (B:Nat),TK N W0 W2 b l→W2.heap[B]? =some (.cells #[.pointer v] 160 (0,0))→W2.heap[B+1]? =some (.cells #[.string eB,.string eB,.bool false] 157 (0,0))→
   ∃Yk:Nat→Prop,(∀k,Yk k→(N≤k∧k<W0.heap.size)∨k=B∨k=B+1)∧SeqL n Tryz.prog 110 #[pv B,pv (B+1)] eI Yk l W2:=by
 have key: ∀ {cs:Array Value} (W2:World),W0.heap[b]? =some (.cells cs 162 (0,0))→TK N W0 W2 b l→W2.heap[b]? =some (.cells cs 162 (0,0)):=fun W2 h2 h3=>(h3.t.block b (blk_lt h2) (fun e=>e ⟨h.tw.1,blk_lt h2⟩)).trans h2
 obtain⟨hb,⟨rfl,h2⟩|⟨p,iv,h2,h3⟩⟩:=h.tw
 ·exact⟨none,fun W2=>key W2 h2,fun n W2 B _ hB _=>⟨_,fun k hk=>.inr hk,walk1_nil n B (B+1) W2 hB⟩⟩
 ·exact⟨_,fun W2=>key W2 h2,fun n W2 B h4 hB hB1=>⟨_,fun k hk=>hk,walk1_leaf n N W0 p B (B+1) iv l W2 ⟨h3,h4.t⟩ hl hB hB1⟩⟩
theorem over1_any (n:Nat) (w:World) (N:Nat) (WT:World) (b:Nat) (l0:List It) (bt bs:Nat) (hTW:TK N WT w b l0) (hl0:l0.length<10) (hbt:w.heap[bt]? =some (.cells #[pv b] 135 (0,0))) (hbs:w.heap[bs]? =some (.cells #[.string eB,.string eB,.bool false] 157 (0,0))):
  SeqL n Tryz.prog 104 #[pv bt,pv bs] eI (fun k=>(N≤k∧k<WT.heap.size)∨k=bt∨k=bs) l0 w:=by
 intro l J Jx T Z W hl hlW tW hT hZ aJ aJx hY h0
 obtain⟨Y,hYd⟩: ∃Y:Nat→Prop,Y=fun k=>(N≤k∧k<WT.heap.size)∨k=bt∨k=bs:=⟨_,rfl⟩
 rw[←hYd] at hT hZ
 have hYw: ∀k,Y k→k<w.heap.size:=fun k hk=>by
  rw[hYd] at hk
  rcases hk with hk|rfl|rfl
  ·exact Nat.lt_of_lt_of_le hk.2 hTW.t.size
  ·exact blk_lt hbt
  ·exact blk_lt hbs
 obtain⟨v,hv,hroot⟩:=hTW.root hl0
 have HR:Hid (∀W1,Tch (fun k=> ¬Y k) w W1→TK N WT W1 b l0∧W1.heap[bt]? =some (.cells #[pv b] 135 (0,0))∧W1.heap[bs]? =some (.cells #[.string eB,.string eB,.bool false] 157 (0,0))∧W1.heap[b]? =some (.cells #[.pointer v] 162 (0,0))):=fun W1 t1=>by
  have hG:=hTW.tch t1 (fun k h1 h2 hn=>hn (by rw[hYd];exact .inl ⟨h1,h2⟩))
  exact⟨hG,(t1.block _ (blk_lt hbt) (fun hn=>hn (by rw[hYd];exact .inr (.inl rfl)))).trans hbt,(t1.block _ (blk_lt hbs) (fun hn=>hn (by rw[hYd];exact .inr (.inr rfl)))).trans hbs,hv W1 hG⟩
 have Hroot:Hid (∀(n:Nat) (W2:World) (B:Nat),TK N WT W2 b l0→W2.heap[B]? =some (.cells #[.pointer v] 160 (0,0))→W2.heap[B+1]? =some (.cells #[.string eB,.string eB,.bool false] 157 (0,0))→
   ∃Yk:Nat→Prop,(∀k,Yk k→(N≤k∧k<WT.heap.size)∨k=B∨k=B+1)∧SeqL n Tryz.prog 110 #[pv B,pv (B+1)] eI Yk l0 W2):=hroot
 obtain⟨yb,hyb⟩: ∃yb,yb=W.heap.size:=⟨_,rfl⟩
 obtain⟨W0,hW0⟩: ∃W0,W0=W.alloc (.cells #[yF l] 134):=⟨_,rfl⟩
 have t0:Tch (fun _=>False) W W0:=by rw[hW0];exact Tch.alloc _ _ _
 have HS0:Hid (WS w l Y yb [] Z W0):=⟨(tW.trans' t0).mono (fun _ _ h=>h.elim),by omega,fun h=>by have:=(hZ _ h).1;omega,by rw[hW0,hyb];exact alloc_new _ _,fun d hd=>(by cases hd),List.nodup_nil,fun k hk=>⟨Nat.lt_of_lt_of_le (hZ k hk).1 t0.size,(hZ k hk).2⟩⟩
 have HJ0:Hid (J [] Z W0):=aJ _ _ _ _ h0 (t0.mono (fun _ _ h=>h.elim))
 obtain⟨hT0,hbt0,hbs0,hv0⟩:=HR.out W0 HS0.out.tw
 have HaJ:Hid (Abl l J∧Abl l Jx):=⟨aJ,aJx⟩
 have HY:Hid (∀m pre x Z1 W1,pre++[x]<+:l0→J pre Z1 W1→YieldAt Fence.wide m Tryz.prog l (eI x) W1 (Rnd T Z1 W1 (J (pre++[x])) (Jx (pre++[x])))):=hY
 have HT:Hid (∀k,T k→k≤l∧ ¬Y k):=hT
 have HYw:Hid (∀k,Y k→k<w.heap.size):=hYw
 have HYd:Hid (Y=fun k=>(N≤k∧k<WT.heap.size)∨k=bt∨k=bs):=hYd
 have HlW:Hid (l<W0.heap.size):=Nat.lt_trans HS0.out.ylt (blk_lt HS0.out.yc)
 have x0:W0.cell? ⟨bt,0,none⟩=some (pv b):=by rw[blk_cell hbt0];rfl
 have x1:W0.cell? ⟨bs,0,none⟩=some (.string eB):=by rw[blk_cell hbs0];rfl
 have x2:W0.cell? ⟨bs,1,none⟩=some (.string eB):=by rw[blk_cell hbs0];rfl
 have x3:W0.cell? ⟨bs,2,none⟩=some (.bool false):=by rw[blk_cell hbs0];rfl
 have x4:W0.cell? ⟨b,0,none⟩=some (.pointer v):=by rw[blk_cell hv0];rfl
 obtain⟨C,hC⟩: ∃C:List Value→World→Prop,C=fun s W2=>match s with
  |[]=>Tch (fun _=>False) W0 W2
  |[x]=> ∃B,x= .func (.func 110) #[] #[pv B,pv (B+1)]∧Tch (fun _=>False) W0 W2∧W0.heap.size≤B∧W2.heap[B]? =some (.cells #[.pointer v] 160 (0,0))∧W2.heap[B+1]? =some (.cells #[.string eB,.string eB,.bool false] 157 (0,0))
  |_=>False:=⟨_,rfl⟩
 have hKC: ∀s W2,C s W2→W2.cell? ⟨bt,0,none⟩=some (pv b)∧W2.cell? ⟨bs,0,none⟩=some (.string eB)∧W2.cell? ⟨bs,1,none⟩=some (.string eB)∧W2.cell? ⟨bs,2,none⟩=some (.bool false)∧W2.cell? ⟨b,0,none⟩=some (.pointer v):=fun s W2 h=>by
  have hh:Tch (fun _=>False) W0 W2:=by
   rw[hC] at h
   match s,h with
   |[],h=>exact h
   |[_],⟨_,_,h,_⟩=>exact h
  exact⟨(hh.cell (blk_lt hbt0) (fun h=>h)).trans x0,(hh.cell (blk_lt hbs0) (fun h=>h)).trans x1,(hh.cell (blk_lt hbs0) (fun h=>h)).trans x2,(hh.cell (blk_lt hbs0) (fun h=>h)).trans x3,(hh.cell (blk_lt hv0) (fun h=>h)).trans x4⟩
 have HCt: ∀W2,C [] W2→Calls Tryz.prog 105 #[.pointer v,spV eB eB false] W2 fun x w'=> ∃y,x= .returned y∧C [y] w':=fun W2 h=>by
  rw[hC] at h
  refine(walk_any v eB eB false W2).mono ?_
  rintro x w' ⟨rfl,rfl⟩
  refine⟨_,rfl,?_⟩
  rw[hC]
  have hh:Tch (fun _=>False) W0 W2:=h
  refine⟨W2.heap.size,rfl,(hh.allocR _).allocR _,hh.size,?_,?_⟩
  ·rw[Below.heap_alloc _ _ _ (by simp)];exact alloc_new _ _
  ·have:=alloc_new (W2.alloc (.cells #[.pointer v] 160)) (.cells #[.string eB,.string eB,.bool false] 157)
   rw[World.size_alloc] at this
   exact this
 have HCe:Hid (∀y W2,C [y] W2→ ∃B,y= .func (.func 110) #[] #[pv B,pv (B+1)]∧Tch (fun _=>False) W0 W2∧W0.heap.size≤B∧W2.heap[B]? =some (.cells #[.pointer v] 160 (0,0))∧W2.heap[B+1]? =some (.cells #[.string eB,.string eB,.bool false] 157 (0,0))):=fun y W2 h=>by
  rw[hC] at h
  exact h
 have h0':C [] W0.drew:=by rw[hC];exact(Tch.refl _ _).drew
 have HW0:Hid (W0=W.alloc (.cells #[yF l] 134)):=hW0
 have HYb:Hid (yb=W.heap.size):=hyb
 refine callsIn_of_wp_marks Tryz.func104 rfl trivial ?_ rfl
 simp only[Tryz.ntmps104,List.size_toArray,List.length_cons,List.length_nil,Nat.reduceAdd,Nat.reduceSub,Array.replicate_succ,Array.replicate_zero,List.push_toArray,List.append_toArray,List.nil_append,List.cons_append]
 refine wpIn_wide.2 ?_
 clear hC hW0 hyb hTW hbt hbs tW t0 h0 hT0 hbt0 hbs0 hv0 hZ aJ aJx hY hT hYw hYd hl hlW hv hroot hl0 x0 x1 x2 x3 x4
 go_wp2_with fail
 have hw:=HW0.out
 change W0=W.alloc (Obj.cells #[Value.func (Fn.yield l) #[] #[]] 134) at hw
 rw[←hw]
 have hyb:=HYb.out
 rw[←hyb]
 clear hw hyb HYb HW0
 refine wp_region_barv [5] C (by kernel_rfl) (by kernel_rfl) (by kernel_rfl) h0' ?_
 clear h0'
 iterate 5
  refine barv_read (by go_simp) (by rfl) ?_
  apply Exists.intro
  refine⟨fun s' Wy hW b K Q hK'=>?_,fun K hK'=>?_⟩
  ·obtain⟨v0,v1,v2,v3,v4⟩:=hKC _ Wy hW
   go_simp
   exact hK' Wy hW
  go_simp
  refine hK' _ ?_
  clear hK' K
 refine barv_turn (by go_simp) (by rfl) (fun Wy hW b K Q hK'=>?_) (fun y hy K hK'=>?_)
 ·go_simp
  go_at_call 105
  refine(HCt Wy hW).mono ?_
  rintro x w' ⟨y,rfl,h1⟩
  exact hK' y w' h1
 obtain⟨B,hBv⟩: ∃B,y= .func (.func 110) #[] #[pv B,pv (B+1)]:=by
  obtain⟨Wy,hW⟩:=hy
  obtain⟨B,hBv,_⟩:=HCe.out y Wy hW
  exact⟨B,hBv⟩
 clear hy HCt hKC
 subst hBv
 go_simp
 refine hK' _ ?_
 clear hK' K
 refine barv_nil ?_
 intro W2 hW2
 have HB:Hid (Tch (fun _=>False) W0 W2∧W0.heap.size≤B∧W2.heap[B]? =some (.cells #[.pointer v] 160 (0,0))∧W2.heap[B+1]? =some (.cells #[.string eB,.string eB,.bool false] 157 (0,0))):=by
  obtain⟨B',e,h1,h2,h3,h4⟩:=HCe.out _ W2 hW2
  have e':B=B':=by
   injection e with _ _ e
   have e:=congrArg (fun a:Array Value=>a.getD 0 undef) e
   injection e with e
   injection e with e
   injection e
  subst e'
  exact⟨h1,h2,h3,h4⟩
 clear hW2 HCe
 go_wp2_with fail
 refine(wpIn_wide (n:=n)).1 ?_
 have HS2:Hid (WS w l Y yb [] Z W2):=HS0.out.new HB.out.1
 have HJ2:Hid (J [] Z W2):=HaJ.out.1 _ _ _ _ HJ0.out (HB.out.1.mono (fun _ _ h=>h.elim))
 have HZr:Hid (∀y,Z y→y<W0.heap.size∧ ¬Y y):=HS0.out.zb
 clear HS0 HJ0
 obtain⟨Yk,hYk,hse⟩:=Hroot.out (n - 1) W2 B (HR.out W2 HS2.out.tw).1 HB.out.2.2.1 HB.out.2.2.2
 have HY2:Hid (∀k,Yk k→k<W2.heap.size∧ ¬T k∧ ¬Z k):=fun x hx=>by
  have hw:W0.heap.size≤B:=HB.out.2.1
  have hzb: ∀y,Z y→y<W0.heap.size∧ ¬Y y:=HZr.out
  rcases hYk x hx with hx|rfl|rfl
  ·have hy:Y x:=by have:=HYd.out;rw[this];exact .inl hx
   exact⟨Nat.lt_of_lt_of_le (HYw.out x hy) HS2.out.tw.size,fun h=>(HT.out x h).2 hy,fun h=>(HS2.out.zb x h).2 hy⟩
  ·exact⟨blk_lt HB.out.2.2.1,fun h=>by have:=(HT.out _ h).1;have:=HlW.out;omega,fun h=>by have:=(hzb _ h).1;omega⟩
  ·exact⟨blk_lt HB.out.2.2.2,fun h=>by have:=(HT.out _ h).1;have:=HlW.out;omega,fun h=>by have:=(hzb _ h).1;omega⟩
 refine range_l (T:=T) (Z:=Z) rfl (enters_of Tryz.func110 (by kernel_rfl) rfl) hse (fun _=>rfl) (fun x hx=>⟨by have:=(HT.out x hx).1;have:=HlW.out;have:=HB.out.1.size;omega,fun hy=>(HY2.out x hy).2.1 hx⟩) (fun x hx=>⟨(HS2.out.zb x hx).1,fun hy=>(HY2.out x hy).2.2 hx⟩) (fun x hx=>(HY2.out x hx).1)
  (fun pre Z' W'=>WS w l Y yb [] Z' W'∧J pre Z' W')
  (fun cc pre Z' W'=>cc= .ret∧WS w l Y yb [] Z' W'∧Jx pre Z' W')
  ?abI ?abX ⟨HS2.out,HJ2.out⟩ (fun x=> { tmps:=#[yF l,pv bt,pv bs,pv yb,.string x.1,ev x.2,pv b,pv b,pv b,.pointer v,.agg #[.string eB,.string eB,.bool false],.func (.func 110) #[] #[pv B,pv (B+1)],.string x.1,ev x.2,undef,undef,undef,undef,undef],defers:=[] }) ?assign ?body ?done ?stop
 case abI=>
  rintro pre Z' W' W'' ⟨hs,hj⟩ tt
  exact⟨hs.tch tt (fun x hx=>⟨fun hy=>by have:=HS2.out.lt HYw.out (.inl hy);omega,fun e=>by have:=HS2.out.lt HYw.out (.inr (.inl e));omega,fun hd=>by cases hd⟩),HaJ.out.1 _ _ _ _ hj (tt.mono (fun x _ hx=>⟨by have:=HlW.out;have:=HB.out.1.size;omega,hx.2⟩))⟩
 case abX=>
  rintro cc pre Z' W' W'' ⟨hcc,hs,hj⟩ tt
  exact⟨hcc,hs.tch tt (fun x hx=>⟨fun hy=>by have:=HS2.out.lt HYw.out (.inl hy);omega,fun e=>by have:=HS2.out.lt HYw.out (.inr (.inl e));omega,fun hd=>by cases hd⟩),HaJ.out.2 _ _ _ _ hj (tt.mono (fun x _ hx=>⟨by have:=HlW.out;have:=HB.out.1.size;omega,hx.2⟩))⟩
 case assign=>
  intro l' x Wx K hK
  clear HJ2 HS2 HR hse HY2 Hroot
  gi_wp2
  exact hK
 case body=>
  rintro l' pre x Z' Wb hpre ⟨hs,hj⟩
  have hyc:Wb.cell? ⟨yb,0,none⟩=some (yF l):=by rw[blk_cell hs.yc];rfl
  obtain⟨fn,tmps,assign,body,hy,hR⟩:=YieldAt.inRound l' (HY.out (n - 1 - 1 - 1) _ x Z' Wb hpre hj)
  have Hs:Hid (WS w l Y yb [] Z' Wb):=hs
  clear hj hs hpre HJ2 HS2 HR hse HY2 Hroot
  gi_wp2_with fail
  refine⟨fun h=>(by cases h),hR.mono ?_⟩
  rintro e W3 ⟨Z2,hz2,t3,(⟨rfl,hJ3⟩|⟨rfl,hx3⟩)⟩
  ·have HL:Hid (Lft T Z' Wb W3 (fun Z' W'=>WS w l Y yb [] Z' W'∧J (pre++[x]) Z' W')):=⟨Z2,hz2,t3,Hs.out.round HYw.out HT.out hz2 t3,hJ3⟩
   clear hR hy hyc hJ3 hz2 t3
   gi_wp2_with fail
   exact HL.out
  ·have HL:Hid (Lft T Z' Wb W3 (fun Z' W'=>WS w l Y yb [] Z' W'∧Jx (pre++[x]) Z' W')):=⟨Z2,hz2,t3,Hs.out.round HYw.out HT.out hz2 t3,hx3⟩
   clear hR hy hyc hx3 hz2 t3
   gi_wp2_with fail
   obtain⟨Z3,g1,g2,g3,g4⟩:=HL.out
   exact⟨Z3,g1,g2,rfl,g3,g4⟩
 case done=>
  rintro D Z' W' hD hzD ⟨hs,hj⟩ hK
  have HS3:Hid (WS w l Y yb [D] Z' W'):=hs.mark D (by have:=HlW.out;have:=HB.out.1.size;omega) hzD hK (by simp)
  have HJ3:Hid (J (l0) Z' W'):=hj
  clear hs hj hK hD hzD HJ2 HS2 HR hse HY2 Hroot
  gi_wp2_with fail
  refine leaves_marks [D] _ (fun d hd=>(HS3.out.md d hd).2.2) HS3.out.nod (fun W' tt=>?_)
  refine⟨_,results_none rfl _ _ _,⟨_,rfl⟩,Z',.inl (HaJ.out.1 _ _ _ _ HJ3.out (tt.mono (fun d _ hd=>⟨(HS3.out.md d hd).1,(HS3.out.md d hd).2.1⟩)))⟩
 case stop=>
  rintro D cc pre Z' W' hD hzD hpre ⟨rfl,hs,hx⟩ hK
  have HS3:Hid (WS w l Y yb [D] Z' W'):=hs.mark D (by have:=HlW.out;have:=HB.out.1.size;omega) hzD hK (by simp)
  have Hx3:Hid (Jx pre Z' W'):=hx
  have Hpr:Hid (pre<+:l0):=hpre
  clear hs hx hK hD hzD hpre HJ2 HS2 HR hse HY2 Hroot
  gi_wp2_with fail
  refine leaves_marks [D] _ (fun d hd=>(HS3.out.md d hd).2.2) HS3.out.nod (fun W' tt=>?_)
  refine⟨_,results_none rfl _ _ _,⟨_,rfl⟩,Z',.inr ⟨_,Hpr.out,HaJ.out.2 _ _ _ _ Hx3.out (tt.mono (fun d _ hd=>⟨(HS3.out.md d hd).1,(HS3.out.md d hd).2.1⟩))⟩⟩
theorem over_any (b:Nat) (f o:ByteArray) (d:Bool) (w:World):Calls Tryz.prog 98 #[pv b,spV f o d] w fun x w'=>x= .returned (.func (.func 104) #[] #[pv w.heap.size,pv (w.heap.size+1)])∧w'=(w.alloc (.cells #[pv b] 135)).alloc (.cells #[.string f,.string o,.bool d] 157):=by
 go_enter Tryz.func98,Tryz.ntmps98
 go_wp2_with fail
 go_ret
 exact⟨by simp,rfl⟩
theorem range_any (b:Nat) (f o:ByteArray) (w:World):Calls Tryz.prog 78 #[pv b,.string f,.string o] w fun x w'=>x= .returned (.func (.func 104) #[] #[pv w.heap.size,pv (w.heap.size+1)])∧w'=(w.alloc (.cells #[pv b] 135)).alloc (.cells #[.string f,.string o,.bool false] 157):=by
 have q:=over_any b f o false w
 go_enter Tryz.func78,Tryz.ntmps78
 go_wp2_with fail
 refine q.mono ?_
 rintro x w' ⟨rfl,rfl⟩
 clear q
 go_wp2_with fail
 go_ret
 exact⟨rfl,rfl⟩
end Go.Proofs.YtppokgdofgigfaaGreat.R
namespace Go.Proofs.YtppokgdofgigfaaGreat.R
open Go.RowKit Go Go.Sort Go.Maps
def bk (s:List UInt8):ByteArray:=⟨s.toArray⟩
theorem bk_data (S:ByteArray):bk S.data.toList=S:=by
 obtain⟨⟨d⟩⟩:=S
 rfl
theorem bk_inj {a b:List UInt8} (h:bk a=bk b):a=b:=by
 unfold bk at h
 injection h with h
 injection h
def newV (p:VV→Bool) (zs:List VV):Option VV:=match zs.reverse.find? p with
 |some z=>if z.1.th then some z else none
 |none=>none
theorem find_of {p:VV→Bool} {zs:List VV} {k:Nat} {z:VV} (h1:zs[k]? =some z) (h2:p z=true) (h3: ∀(j:Nat) (u:VV),k<j→zs[j]? =some u→p u=false):zs.reverse.find? p=some z:=by
 have hk:=(List.getElem?_eq_some_iff.1 h1).1
 have e:zs=zs.take k++z::zs.drop (k+1):=by
  have:=List.drop_eq_getElem_cons hk
  rw[(List.getElem?_eq_some_iff.1 h1).2] at this
  rw[←this,List.take_append_drop]
 have hn:(zs.drop (k+1)).reverse.find? p=none:=by
  rw[List.find?_eq_none]
  intro u hu
  rw[List.mem_reverse,List.mem_iff_getElem?] at hu
  obtain⟨j,hj⟩:=hu
  rw[List.getElem?_drop] at hj
  rw[h3 _ u (by omega) hj];simp
 rw[e,List.reverse_append,List.reverse_cons,List.find?_append,List.find?_append,hn]
 simp[h2]
theorem find_none {p:VV→Bool} {zs:List VV} (h: ∀z∈zs,p z=false):zs.reverse.find? p=none:=by
 rw[List.find?_eq_none]
 intro u hu
 rw[h u (List.mem_reverse.1 hu)];simp
theorem nw_out {p:VV→Bool} {zs:List VV} {x:Ending} (h:NwOut p zs x): ∃(a:Int) (th:Bool) (o:Option Addr) (n c:Nat) (b:Bool),x= .returned (.tuple #[.agg #[.int .i64 a,.bool th,.slice o n c],.bool b])∧(th=false→newV p zs=none)∧(th=true→ ∃z∈zs,newV p zs=some z∧z.2.1=o∧z.1.n=n∧z.2.2=c):=by
 rcases h with⟨h1,rfl⟩|⟨k,z,h1,h2,h3,rfl⟩
 ·refine⟨_,_,_,_,_,_,rfl,fun _=>?_,fun e=>by cases e⟩
  unfold newV
  rw[find_none h1]
 ·refine⟨_,_,_,_,_,_,rfl,fun e=>?_,fun e=>⟨z,List.mem_of_getElem? h1,?_,rfl,rfl,rfl⟩⟩
  ·unfold newV
   rw[find_of h1 h2 h3]
   simp[e]
  ·unfold newV
   rw[find_of h1 h2 h3]
   simp[e]
theorem len_le: ∀(K:List ByteArray) (l:List It),l.Pairwise (fun a b=>a.1≠b.1)→(∀e∈l,e.1∈K)→l.length≤K.length
 |[],l,_,h=>by
  cases l with
  |nil=>exact Nat.le_refl _
  |cons a l=>exact absurd (h a (by simp)) (by simp)
 |k::K,l,hp,h=>by
  have ih:=len_le K (l.filter (fun e=>decide (e.1≠k))) (hp.sublist (List.filter_sublist)) (fun e he=>by
   obtain⟨h1,h2⟩:=List.mem_filter.1 he
   rcases List.mem_cons.1 (h e h1) with h3|h3
   ·simp[h3] at h2
   ·exact h3)
  have one: ∀(l:List It),l.Pairwise (fun a b=>a.1≠b.1)→l.length≤(l.filter (fun e=>decide (e.1≠k))).length+1:=fun l=>by
   induction l with
   |nil=>intro _;exact Nat.zero_le _
   |cons a l ih=>
    intro hp
    obtain⟨h1,h2⟩:=List.pairwise_cons.1 hp
    rw[List.filter_cons]
    by_cases e:a.1=k
    ·have hall:l.filter (fun e=>decide (e.1≠k))=l:=List.filter_eq_self.2 (fun b hb=>by
      have:=h1 b hb
      rw[e] at this
      simpa using fun e2=>this e2.symm)
     rw[if_neg (by simp[e]),hall]
     exact Nat.le_refl _
    ·have:=ih h2
     rw[if_pos (by simp[e])]
     simp only[List.length_cons]
     omega
  have:=one l hp
  simp only[List.length_cons]
  omega
theorem sorted_ne {l:List It} (h:Sorted l):l.Pairwise (fun a b=>a.1≠b.1):=h.imp (fun {a b} hab e=>by
 unfold KL at hab
 rw[e,kc_self] at hab
 omega)
structure IO (E:List En) (C:Nat→Ch) (p:VV→Bool) (left:List UInt8→Bool) (l:List It):Prop where
 a: ∀it∈l, ∃e∈E,e.k=1∧left e.s=false∧it.1=bk e.s∧ ∃z∈(C e.b).2.2,newV p (C e.b).2.2=some z∧it.2=(z.2.1,z.1.n,z.2.2)
 b: ∀e∈E,e.k=1→left e.s=false→ ∀z,newV p (C e.b).2.2=some z→(bk e.s,(z.2.1,z.1.n,z.2.2))∈l
section
variable {E:List En} {C:Nat→Ch} {p:VV→Bool} {left:List UInt8→Bool} {l:List It} {KS:List ByteArray}
theorem IO.len (h:IO E C p left l) (hs:Sorted l) (hE: ∀e∈E,e.k=1→bk e.s∈KS) (hK:KS.length<10):l.length<10:=
 Nat.lt_of_le_of_lt (len_le KS l (sorted_ne hs) (fun it hit=>by
  obtain⟨e,he,hk,_,e1,_⟩:=h.a it hit
  rw[e1];exact hE e he hk)) hK
theorem IO.fresh (h:IO E C p left l) {s:List UInt8} (hl:left s=true): ∀it∈l,it.1≠bk s:=fun it hit e=>by
 obtain⟨e2,_,_,h3,h4,_⟩:=h.a it hit
 rw[h4] at e
 rw[bk_inj e,hl] at h3
 cases h3
theorem IO.put (h:IO E C p left l) (hek:E.Pairwise (fun e f=> ¬(e.k=f.k∧e.s=f.s))) {e:En} (he:e∈E) (hk:e.k=1) {left':List UInt8→Bool} (hl: ∀s,left' s=(left s && !decide (s=e.s))) {z:VV} (hz:z∈(C e.b).2.2) (hn:newV p (C e.b).2.2=some z) {l':List It} {x y:List It} (e1:l=x++y) (e2:l'=x++(bk e.s,(z.2.1,z.1.n,z.2.2))::y):IO E C p left' l':=by
 have hsub: ∀it,it∈l' ↔ it=(bk e.s,(z.2.1,z.1.n,z.2.2))∨it∈l:=fun it=>by
  rw[e1,e2];simp only[List.mem_append,List.mem_cons];constructor
  ·rintro(h|h|h)
   ·exact .inr (.inl h)
   ·exact .inl h
   ·exact .inr (.inr h)
  ·rintro(h|h|h)
   ·exact .inr (.inl h)
   ·exact .inl h
   ·exact .inr (.inr h)
 refine⟨fun it hit=>?_,fun e' he' hk' hl' z' hz'=>?_⟩
 ·rcases(hsub it).1 hit with rfl|hit
  ·exact⟨e,he,hk,by rw[hl];simp,rfl,z,hz,hn,rfl⟩
  ·obtain⟨e3,h1,h2,h3,h4⟩:=h.a it hit
   exact⟨e3,h1,h2,by rw[hl,h3];rfl,h4⟩
 ·rw[hl] at hl'
  refine(hsub _).2 ?_
  by_cases es:e'.s=e.s
  ·have eb:e'.b=e.b:=by
    have h1:=lkE_of_mem hek he'
    rw[hk',es, ←hk,lkE_of_mem hek he] at h1
    injection h1 with h1
    exact h1.symm
   rw[eb,hn] at hz'
   injection hz' with hz'
   left
   rw[es,hz']
  ·right
   have:left e'.s=false:=by
    cases hh:left e'.s with
    |false=>rfl
    |true=>rw[hh] at hl';simp[es] at hl'
   exact h.b e' he' hk' this z' hz'
theorem IO.skip (h:IO E C p left l) (hek:E.Pairwise (fun e f=> ¬(e.k=f.k∧e.s=f.s))) {e:En} (he:e∈E) (hk:e.k=1) {left':List UInt8→Bool} (hl: ∀s,left' s=(left s && !decide (s=e.s))) (hn:newV p (C e.b).2.2=none):IO E C p left' l:=by
 refine⟨fun it hit=>?_,fun e' he' hk' hl' z' hz'=>?_⟩
 ·obtain⟨e3,h1,h2,h3,h4⟩:=h.a it hit
  exact⟨e3,h1,h2,by rw[hl,h3];rfl,h4⟩
 ·rw[hl] at hl'
  by_cases es:e'.s=e.s
  ·have eb:e'.b=e.b:=by
    have h1:=lkE_of_mem hek he'
    rw[hk',es, ←hk,lkE_of_mem hek he] at h1
    injection h1 with h1
    exact h1.symm
   rw[eb,hn] at hz'
   cases hz'
  ·have:left e'.s=false:=by
    cases hh:left e'.s with
    |false=>rfl
    |true=>rw[hh] at hl';simp[es] at hl'
   exact h.b e' he' hk' this z' hz'
end
theorem ranges_cel {w w':World} {k:TypeId} {R:Value→Option (DataW Unit×List MemPlace)} {b r n cnt N:Nat} {D:DataW Unit} {left:Lit→Bool} (h:w.ranges Tryz.prog k R b r n D left cnt) (t:Tch (fun i=>N≤i∧Cel w i) w w'):w'.ranges Tryz.prog k R b r n D left cnt:=by
 have h1:=h.owns.lt
 have h2:=h.lt
 obtain⟨es,clock,since,seen,c0,hb,F,hs,hD,hr,rest⟩:=h
 exact⟨es,clock,since,seen,c0,(t.block b h1 (fun e=>by obtain⟨_,cs,ty,e⟩:=e;rw[hb] at e;cases e)).trans hb,F,hs,hD,(t.block r h2 (fun e=>by obtain⟨_,cs,ty,e⟩:=e;rw[hr] at e;cases e)).trans hr,rest⟩
theorem ranges_it {w:World} {k:TypeId} {R:Value→Option (DataW Unit×List MemPlace)} {b r n cnt:Nat} {D:DataW Unit} {left:Lit→Bool} (h:w.ranges Tryz.prog k R b r n D left cnt): ∀j,Cel w j→ ¬j=r:=fun j hj e=>by
 obtain⟨es,clock,since,seen,c0,hb,F,hs,hD,hr,rest⟩:=h
 obtain⟨cs,ty,hc⟩:=hj
 rw[e,hr] at hc
 cases hc
theorem inOrder_w (w:World) (hb mb tb:Nat) (T:List (Int×Nat)) (E:List En) (C:Nat→Ch) (σ:Nat→Option Nat) (q:Nat) (h:HW w hb mb tb T E C σ q) (hq:q≤2000) (KS:List ByteArray) (hKS:KS.length<10) (hKE: ∀e∈E,e.k=1→bk e.s∈KS) (p:VV→Bool) (fn:Nat) (first caps:Array Value) (hH: ∀e∈E,e.k=1→Holds w (C e.b).2.2 p fn first caps):
  Calls Tryz.prog 77 #[.pointer (some ⟨hb,0,none⟩),.int .i64 1,.func (.func fn) first caps] w fun x w'=> ∃l,x= .returned (pv w.heap.size)∧TW w.heap.size w' w.heap.size l∧Tch (fun _=>False) w w'∧IO E C p (fun _=>false) l:=by
 have q0:=new_t w
 have HH:Hid (HW w hb mb tb T E C σ q):=h
 have HHo:Hid (∀e∈E,e.k=1→Holds w (C e.b).2.2 p fn first caps):=hH
 have HKE:Hid (∀e∈E,e.k=1→bk e.s∈KS):=hKE
 have HKS:Hid (KS.length<10):=hKS
 have Hq:Hid (q≤2000):=hq
 obtain⟨N,hN⟩: ∃N,N=w.heap.size:=⟨_,rfl⟩
 cases hlk:lkT T 1 with
 |none=>
  have HE0:Hid (∀e∈E,e.k≠1):=fun e he hk=>by
   obtain⟨l,hl⟩:=h.et e he
   exact lkT_none hlk _ hl hk
  have HG:Hid (∀W,Tch (fun _=>False) w W→(Instr.lookup 86 (.map (some tb)) (.int .i64 1) false).run Tryz.prog W= .ok (.map none) W∧W.cell? ⟨hb,1,none⟩=some (.map (some tb))):=fun W t=>by
   have:=(h.no t).look (k:=1) (by omega) (by omega)
   rw[hlk] at this
   exact⟨this,(h.no t).c1⟩
  have hrn: ∀W:World,(Instr.range 109 (.map none)).run Tryz.prog W= .ok (.pointer (some ⟨W.heap.size,0,none⟩)) (W.alloc (.mapIter none 0 #[] 0)):=fun W=>run_range_nilMap W 109 9 110 Tryz.underlying109
  clear h hH hKE hKS hlk HHo HKE HKS HH hq
  go_enter Tryz.func77,Tryz.ntmps77
  go_wp2_with fail
  refine q0.mono ?_
  clear q0
  rintro x w1 ⟨rfl,htw,t1⟩
  obtain⟨g1,g2⟩:=HG.out w1 t1
  have H1:Hid (TW w.heap.size w1 w.heap.size []):=htw
  have T1:Hid (Tch (fun _=>False) w w1):=t1
  have hnx:(Instr.next (.pointer (some ⟨w1.heap.size,0,none⟩)) false 0).run Tryz.prog (w1.alloc (.mapIter none 0 #[] 0))= .ok (.tuple #[.bool false]) (w1.alloc (.mapIter none 0 #[] 0)):=run_next_nilMap w1 0 0 0 #[]
  have H2:Hid (TW w.heap.size (w1.alloc (.mapIter none 0 #[] 0)) w.heap.size []):=H1.out.no (Tch.alloc _ _ _)
  have T2:Hid (Tch (fun _=>False) w (w1.alloc (.mapIter none 0 #[] 0))):=T1.out.allocR _
  clear htw t1 HG H1 T1
  go_wp2_with fail
  go_loopw [11] (fun _ wr=>wr=w1.alloc (.mapIter none 0 #[] 0)) (fun _ _=>0)
  case atStart=>exact rfl
  case round=>
   subst hrel
   go_wp2_with fail
   go_ret
   exact⟨[],rfl,H2.out,T2.out,⟨(fun it hit=>by cases hit),fun e he hk=>absurd hk (HE0.out e he)⟩⟩
 |some lt=>
  have hkl:=lkT_mem hlk
  have HG:Hid (∀W,Tch (fun _=>False) w W→(Instr.lookup 86 (.map (some tb)) (.int .i64 1) false).run Tryz.prog W= .ok (.map (some lt)) W∧W.cell? ⟨hb,1,none⟩=some (.map (some tb))):=fun W t=>by
   have:=(h.no t).look (k:=1) (by omega) (by omega)
   rw[hlk] at this
   exact⟨this,(h.no t).c1⟩
  have HI:Hid (∀W,Tch (fun _=>False) w W→ ∃D,W.ownsMap Tryz.prog 9 ptrElem lt q D∧ ∀s zd,D.atKey (.string s) zd=atB (lkE E 1 s) zd):=fun W t=>((h.no t).inn _ hkl).2
  have HNw:Hid (N=w.heap.size):=hN
  rw[←hN] at q0 ⊢
  clear h hH hKE hKS hlk hq hkl hN
  go_enter Tryz.func77,Tryz.ntmps77
  go_wp2_with fail
  refine q0.mono ?_
  clear q0
  rintro x w1 ⟨rfl,htw,t1⟩
  obtain⟨g1,g2⟩:=HG.out w1 t1
  obtain⟨D,hD,hk⟩:=HI.out w1 t1
  have H1:Hid (TW N w1 N []):=htw
  have T1:Hid (Tch (fun _=>False) w w1):=t1
  have Hk:Hid (∀s zd,D.atKey (.string s) zd=atB (lkE E 1 s) zd):=hk
  clear htw t1 HG HI hk
  go_wp2_with (first
   |(at_range;refine wpList_range_own _ rfl _ 109 rfl 9 110 law_str Tryz.underlying109 ptrElem lt q _ rfl hD ?_;intro w2 hrg2 hg2 hs2)
   |go_in)
  try go_frame
  have hIO:IO E C p (fun s=>Maps.has D (.string s)) []:=⟨(fun it hit=>by cases hit),fun e he hk1 hl=>by
   exfalso
   have hat2: ∀zd,D.atKey (.string e.s) zd=encB e.b:=fun zd=>by rw[Hk.out, ←hk1,lkE_of_mem HH.out.ek he];rfl
   rw[Maps.has_true_of_atKey hat2] at hl
   cases hl⟩
  obtain⟨r,hr⟩: ∃r,r=w1.heap.size:=⟨_,rfl⟩
  have Hr:Hid (w.heap.size≤r):=by have:=T1.out.size;show _≤_;omega
  rw[←hr] at hrg2 ⊢
  have H2:Hid (TW N w2 N []):=H1.out.no (tch_range hg2)
  have T2:Hid (Tch (fun _=>False) w w2):=T1.out.trans' (tch_range hg2)
  have HIO:Hid (IO E C p (fun s=>Maps.has D (.string s)) []):=hIO
  clear hIO hg2 hs2 H1 T1 g1 g2 hD hr
  go_loopw [11] (fun _ wr=> ∃(left:Lit→Bool) (ct:Nat) (l:List It),wr.ranges Tryz.prog 9 ptrElem lt r q D left ct∧Hid (TW N wr N l)∧Hid (Tch (fun _=>False) w wr)∧Hid (IO E C p (fun s=>left (.string s)) l)) (fun _ wr=>wr.rangeLeft lt r)
  case atStart=>exact⟨_,_,[],hrg2,H2,T2,HIO⟩
  case round=>
   obtain⟨left,ct,l,hrg,HW,HT,HI⟩:=hrel
   clear H2 T2 HIO hrg2
   go_wp2_with (first
    |(at_next;refine wpList_next_ranges _ rfl _ rfl 9 law_str ptrElem id id (fun key _ _=>⟨key,rfl⟩) (fun v _ _=>⟨v,rfl⟩) lt r q _ _ _ rfl hrg ?_ ?_)
    |go_in)
   ·intro _ hl0
    have HF:Hid (IO E C p (fun _=>false) l):=by
     have:=HI.out
     rw[show(fun s=>left (.string s))=(fun _=>false) from funext fun s=>hl0 _] at this
     exact this
    clear hrg hl0
    go_wp2_with fail
    go_ret
    exact⟨l,rfl,HW.out,HT.out,HF.out⟩
   ·intro x c kl yd yp w3 ct3 hkey hlx hv hat hrg3 hlt hg3 hs3 hen3
    obtain⟨S,rfl,rfl,hSl⟩:=WideMaps.string_of_keyOf Tryz.underlying9 hkey
    obtain⟨e,he0,heE,hek,hc⟩:=entE (y:=(yd,yp)) Hk.out hkey hv hat
    have hc':c= .pointer (some ⟨e.b,0,none⟩):=hc
    subst hc'
    clear hc
    have hes:e.s=S.data.toList:=by injection he0 with he0;exact he0.symm
    have T3:Hid (Tch (fun _=>False) w w3):=tch_next HT.out Hr.out hg3
    have W3:Hid (TW N w3 N l):=HW.out.cel (S:=fun i=>i=r) (Tch.of_grown hg3 (fun g e=>by cases e;rfl)) (ranges_it hrg)
    obtain⟨hcb,hcl⟩:=(HH.out.no T3.out).chs _ heE
    have hHo:=(HHo.out e heE hek).tch T3.out
    obtain⟨⟨co,cc,zs⟩,hCc⟩: ∃c,c=C e.b:=⟨_,rfl⟩
    have HC:Hid (C e.b=(co,cc,zs)):=hCc.symm
    rw[←hCc] at hcb hcl hHo
    simp only at hcb hcl hHo
    have ec:w3.cell? ⟨e.b,0,none⟩=some (.slice co zs.length cc):=by rw[blk_cell hcb.blk];rfl
    have qn:=newest_any co cc zs (by have:=Hq.out;omega) w3 (vrd_of hcb.row) p fn first caps hHo
    obtain⟨ln,hln⟩: ∃ln,ln=zs.length:=⟨_,rfl⟩
    rw[←hln] at ec qn
    have HE:Hid (e∈E):=heE
    have Hek:Hid (e.k=1):=hek
    have Hes:Hid (bk e.s=S):=by show _=_;rw[hes];exact bk_data S
    have Hlx:Hid (left (.string e.s)=true):=by show _=_;rw[hes];exact hlx
    have Hll:Hid (∀s,(left (.string s) && !(Lit.string s).sameKey (.string S.data.toList))=(left (.string s) && !decide (s=e.s))):=fun s=>by rw[same_str,hes]
    have Hrg3:Hid (w3.ranges Tryz.prog 9 ptrElem lt r q D (fun z=>left z && !z.sameKey (.string S.data.toList)) ct3):=hrg3
    have Hlt:Hid (ct3<ct):=hlt
    have Hrg:Hid (wr.ranges Tryz.prog 9 ptrElem lt r q D left ct):=hrg
    have HK10:Hid (l.length<10):=HI.out.len HW.out.so HKE.out HKS.out
    have HN3:Hid (N≤w3.heap.size):=by rw[HNw.out];exact T3.out.size
    clear hcb hcl hHo hCc hln heE hek hes he0 hlx hrg3 hlt hrg hv hat hkey hg3 hs3
    go_wp2_with fail
    refine qn.mono ?_
    clear qn ec
    rintro x w4 ⟨hnw,t4⟩
    obtain⟨va,vt,vo,vn,vc,vb,rfl,hn0,hn1⟩:=nw_out hnw
    obtain⟨w5,hw5⟩: ∃w5,w5=w4.alloc (.cells #[.int .i64 va,.bool vt,.slice vo vn vc] 69):=⟨_,rfl⟩
    have t5:Tch (fun _=>False) w3 w5:=by rw[hw5];exact t4.allocR _
    have W5:Hid (TW N w5 N l):=W3.out.no t5
    have T5:Hid (Tch (fun _=>False) w w5):=T3.out.trans' t5
    have Hrg5:Hid (w5.ranges Tryz.prog 9 ptrElem lt r q D (fun z=>left z && !z.sameKey (.string S.data.toList)) ct3):=ranges_no Hrg3.out t5
    have HN5:Hid (N≤w5.heap.size):=Nat.le_trans HN3.out t5.size
    have b5:w5.heap[w4.heap.size]? =some (.cells #[.int .i64 va,.bool vt,.slice vo vn vc] 69 (0,0)):=by rw[hw5];exact alloc_new _ _
    have x1:w5.cell? ⟨w4.heap.size,1,none⟩=some (.bool vt):=by rw[blk_cell b5];rfl
    have x2:w5.cell? ⟨w4.heap.size,2,none⟩=some (.slice vo vn vc):=by rw[blk_cell b5];rfl
    have Hw5:Hid (w5=_):=hw5
    clear hnw t4 t5 b5
    cases vt with
    |false=>
     have HI5:Hid (IO E C p (fun s=>left (.string s) && !(Lit.string s).sameKey (.string S.data.toList)) l):=HI.out.skip HH.out.ek HE.out Hek.out Hll.out (by rw[HC.out];exact hn0 rfl)
     clear hn0 hn1
     rw[hw5] at x1
     clear x2 hw5
     go_wp2_with fail
     have hw:=Hw5.out
     rw[←hw]
     clear hw
     go_roundw
     case rel=>exact⟨_,ct3,l,Hrg5.out,W5,T5,HI5⟩
     case measure=>rw[Hrg5.out.left_eq,Hrg.out.left_eq];exact Hlt.out
    |true=>
     obtain⟨z,hz,hnz,rfl,rfl,rfl⟩:=hn1 rfl
     have qp:=put_t N w5 N l S (z.2.1,z.1.n,z.2.2) W5.out HK10.out (fun it hit e2=>HI.out.fresh Hlx.out it hit (by rw[e2,Hes.out])) HN5.out
     have Hz:Hid (z∈(C e.b).2.2∧newV p (C e.b).2.2=some z):=by rw[HC.out];exact⟨hz,hnz⟩
     rw[hw5] at x1 x2
     clear hn0 hn1 hz hnz hw5
     go_wp2_with fail
     have hw:=Hw5.out
     rw[←hw]
     clear hw x1 x2
     refine qp.mono ?_
     clear qp
     rintro x w6 ⟨rfl,l',h6,⟨x6,y6,e6,f6⟩,t6⟩
     have HI6:Hid (IO E C p (fun s=>left (.string s) && !(Lit.string s).sameKey (.string S.data.toList)) l'):=HI.out.put HH.out.ek HE.out Hek.out Hll.out Hz.out.1 Hz.out.2 e6 (by rw[Hes.out];exact f6)
     have H6:Hid (TW N w6 N l'):=h6
     have T6:Hid (Tch (fun _=>False) w w6):=T5.out.trans t6 (fun i hi e=>by have:=e.1;have:=HNw.out;omega)
     have Hrg6:Hid (w6.ranges Tryz.prog 9 ptrElem lt r q D (fun z=>left z && !z.sameKey (.string S.data.toList)) ct3):=ranges_cel Hrg5.out t6
     clear h6 e6 f6 t6
     go_wp2_with fail
     go_roundw
     case rel=>exact⟨_,ct3,l',Hrg6.out,H6,T6,HI6⟩
     case measure=>rw[Hrg6.out.left_eq,Hrg.out.left_eq];exact Hlt.out
end Go.Proofs.YtppokgdofgigfaaGreat.R
