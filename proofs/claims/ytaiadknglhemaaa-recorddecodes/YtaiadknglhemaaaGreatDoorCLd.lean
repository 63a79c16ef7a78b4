import Derived.Test.YtaiadknglhemaaaGreatDoorRV2
import Derived.Test.YtaiadknglhemaaaGreatDoorRW4
import Derived.Test.YtaiadknglhemaaaGreatDoorCLoad
import Derived.Test.YtaiadknglhemaaaGreatDoorCName2
set_option maxHeartbeats 4000000
set_option maxRecDepth 100000
namespace Go.Proofs.YtaiadknglhemaaaGreatDoor.C
open Go.RowKit
theorem right_2 (r:Rc) (s:Sk) (F:Nat→Prop) (w:World) (_hg:HE w) (_h:RW w F r s):Calls Tryz.prog 192 #[.agg #[.int .i64 r.x,.int .i64 r.p]] w fun x w'=>EqT (rightC 2 r) w x w':=by
 have q1:=isNumber_any r.x
 have q2:=isNumber_any r.p
 obtain⟨d1,hd1⟩: ∃d,d=decide (rtN r.x):=⟨_,rfl⟩
 obtain⟨d2,hd2⟩: ∃d,d=decide (rtN r.p):=⟨_,rfl⟩
 have H1:Hid (d1=true ↔ rtN r.x):=by rw[hd1];exact decide_eq_true_iff
 have H2:Hid (d2=true ↔ rtN r.p):=by rw[hd2];exact decide_eq_true_iff
 rw[←hd1] at q1
 rw[←hd2] at q2
 clear hd1 hd2 _h _hg
 have HQ1:Hid _:=q1
 have HQ2:Hid _:=q2
 clear q1 q2
 cases d1
 ·go_enter Tryz.func192,Tryz.ntmps192
  go_wp2_with fail
  refine(HQ1.out _).mono ?_
  rintro x w1 ⟨rfl,rfl⟩
  go_wp2_with fail
  go_ret
  exact eqT_no (fun e=>by have:=H1.out.2 e.1;simp at this) (Tch.alloc _ _ _)
 ·cases d2
  ·go_enter Tryz.func192,Tryz.ntmps192
   go_wp2_with fail
   refine(HQ1.out _).mono ?_
   rintro x w1 ⟨rfl,rfl⟩
   go_wp2_with fail
   refine(HQ2.out _).mono ?_
   rintro x w1 ⟨rfl,rfl⟩
   go_wp2_with fail
   go_ret
   exact eqT_no (fun e=>by have:=H2.out.2 e.2.1;simp at this) (Tch.alloc _ _ _)
  ·by_cases hlt:r.p<r.x
   ·have hd:decide (r.p<r.x)=true:=decide_eq_true hlt
    go_enter Tryz.func192,Tryz.ntmps192
    go_wp2_with fail
    refine(HQ1.out _).mono ?_
    rintro x w1 ⟨rfl,rfl⟩
    go_wp2_with fail
    refine(HQ2.out _).mono ?_
    rintro x w1 ⟨rfl,rfl⟩
    go_wp2_with fail
    go_ret
    exact⟨true,rfl,⟨fun _=>⟨H1.out.1 (by trivial),H2.out.1 (by trivial),hlt⟩,fun _=>rfl⟩,Tch.alloc _ _ _⟩
   ·have hd:decide (r.p<r.x)=false:=decide_eq_false hlt
    have HN:Hid (¬r.p<r.x):=hlt
    clear hlt
    go_enter Tryz.func192,Tryz.ntmps192
    go_wp2_with fail
    refine(HQ1.out _).mono ?_
    rintro x w1 ⟨rfl,rfl⟩
    go_wp2_with fail
    refine(HQ2.out _).mono ?_
    rintro x w1 ⟨rfl,rfl⟩
    go_wp2_with fail
    go_ret
    exact eqT_no (fun e:rightC 2 r=>by have h1:=(show rtN r.x∧rtN r.p∧r.p<r.x from e).2.2;have h2:=HN.out;omega) (Tch.alloc _ _ _)
open Go
theorem right_parts {t:Tbl} (h:rightE t=0):numOk t.id=true∧numOk t.ver=true∧nmOk t.nm=true∧colsE t.cols=0∧keyOk t.cols t.key=true:=by
 unfold rightE at h
 split at h
 ·simp at h
 ·rename_i h1
  split at h
  ·simp at h
  ·rename_i h2
   split at h
   ·rename_i h3;exact absurd h h3
   ·rename_i h3
    split at h
    ·simp at h
    ·rename_i h4
     refine⟨?_,?_,by simpa using h2,Classical.byContradiction h3,by simpa using h4⟩
     ·cases e:numOk t.id
      ·exact absurd (Or.inl e) h1
      ·rfl
     ·cases e:numOk t.ver
      ·exact absurd (Or.inr e) h1
      ·rfl
theorem num_of {n:Int} (h:numOk n=true):1≤n∧n≤2147483647:=by
 simpa[numOk] using h
abbrev isNm (t u:Tbl):Bool:=decide (u.nm=t.nm)
def lastI (L:List Tbl):Int:=match L.getLast? with
 |none=>0
 |some t=>t.id
theorem lastI_snoc (L:List Tbl) (t:Tbl):lastI (L++[t])=t.id:=by simp[lastI]
def ldS (next:Int) (acc:List Tbl) (t:Tbl):Int:=if rightE t≠0 then rightE t else if t.id≤lastI acc∨next≤t.id then 1 else if acc.any (isNm t) then 51 else 0
def ldGo (next:Int) (acc:List Tbl):List Tbl→Int
 |[]=>0
 |t::l=>if ldS next acc t≠0 then ldS next acc t else ldGo next (acc++[t]) l
def ldE (L:List Tbl) (next:Int):Int:=if next<1∨2147483648<next then 1 else if 16<L.length then 53 else ldGo next [] L
theorem ldGo_step (next:Int) (l:List Tbl) (k:Nat) (hk:k<l.length):ldGo next (l.take k) (l.drop k)=if ldS next (l.take k) l[k]≠0 then ldS next (l.take k) l[k] else ldGo next (l.take (k+1)) (l.drop (k+1)):=by
 rw[List.drop_eq_getElem_cons hk,ldGo,List.take_append_getElem hk]
theorem ldGo_end (next:Int) (l:List Tbl):ldGo next (l.take l.length) (l.drop l.length)=0:=by simp[ldGo]
structure LG0 (L:List Tbl) (next:Int):Prop where
 right: ∀t∈L,rightE t=0
 ids: ∀t∈L,t.id<next
 last: ∀t∈L,t.id≤lastI L
 rise:L.Pairwise (fun a b=>a.id<b.id)
 nms:L.Pairwise (fun a b=>a.nm≠b.nm)
theorem LG0.nil (next:Int):LG0 [] next:=⟨fun t h=>by simp at h,fun t h=>by simp at h,fun t h=>by simp at h,List.Pairwise.nil,List.Pairwise.nil⟩
theorem LG0.snoc {L:List Tbl} {next:Int} (h:LG0 L next) {t:Tbl} (hs:ldS next L t=0):LG0 (L++[t]) next:=by
 unfold ldS at hs
 split at hs
 ·rename_i h1;exact absurd hs h1
 rename_i hr
 have hr:rightE t=0:=Classical.byContradiction hr
 split at hs
 ·simp at hs
 rename_i h1
 split at hs
 ·simp at hs
 rename_i h2
 have h2:L.any (isNm t)=false:=by simpa using h2
 refine⟨fun u hu=>?_,fun u hu=>?_,fun u hu=>?_,?_,?_⟩
 ·rcases List.mem_append.1 hu with hu|hu
  ·exact h.right u hu
  ·rw[List.mem_singleton.1 hu];exact hr
 ·rcases List.mem_append.1 hu with hu|hu
  ·exact h.ids u hu
  ·rw[List.mem_singleton.1 hu];omega
 ·rw[lastI_snoc]
  rcases List.mem_append.1 hu with hu|hu
  ·have:=h.last u hu;omega
  ·rw[List.mem_singleton.1 hu];omega
 ·rw[List.pairwise_append]
  refine⟨h.rise,List.pairwise_singleton _ _,fun a ha b hb=>?_⟩
  rw[List.mem_singleton.1 hb]
  have:=h.last a ha
  omega
 ·rw[List.pairwise_append]
  refine⟨h.nms,List.pairwise_singleton _ _,fun a ha b hb=>?_⟩
  rw[List.mem_singleton.1 hb]
  rw[List.any_eq_false] at h2
  simpa using h2 a ha
theorem ldS_right {next:Int} {acc:List Tbl} {t:Tbl} (h:rightE t≠0):ldS next acc t=rightE t:=if_pos h
theorem ldS_ok {next:Int} {acc:List Tbl} {t:Tbl} (h:ldS next acc t=0):rightE t=0:=by
 refine Classical.byContradiction fun e=>?_
 rw[ldS_right e] at h;exact e h
end Go.Proofs.YtaiadknglhemaaaGreatDoor.C
namespace Go.Proofs.YtaiadknglhemaaaGreatDoor.C
open Go.Lib
theorem ldGo_lg (next:Int): ∀(l acc:List Tbl),LG0 acc next→ldGo next acc l=0→LG0 (acc++l) next
 |[],acc,h,_=>by simpa using h
 |t::l,acc,h,hg=>by
  unfold ldGo at hg
  split at hg
  ·exact absurd hg (by assumption)
  ·rename_i h0
   have h0:ldS next acc t=0:=Classical.byContradiction h0
   have:=ldGo_lg next l (acc++[t]) (h.snoc h0) hg
   simpa using this
theorem lg_ldp {L:List Tbl} {next:Int} (h:LG0 L next) (hl:L.length≤16):LDp L next:=by
 refine⟨hl,fun i hi=>h.right _ (List.getElem_mem hi),fun i hi=>h.ids _ (List.getElem_mem hi),fun i j hi hj hij=>?_,fun i j hi hj hij=>?_⟩
 ·exact(List.pairwise_iff_getElem.1 h.rise) i j hi hj hij
 ·exact(List.pairwise_iff_getElem.1 h.nms) i j hi hj hij
theorem ldS_zero {next:Int} {acc:List Tbl} {t:Tbl} (h1:rightE t=0) (h2:lastI acc<t.id) (h3:t.id<next) (h4: ∀u∈acc,u.nm≠t.nm):ldS next acc t=0:=by
 unfold ldS
 rw[if_neg (fun h=>h h1),if_neg (by omega),if_neg]
 rw[Bool.not_eq_true,List.any_eq_false]
 intro u hu
 simpa using h4 u hu
theorem lastI_lt {acc:List Tbl} {n:Int} (h0:0<n) (h: ∀u∈acc,u.id<n):lastI acc<n:=by
 unfold lastI
 split
 ·exact h0
 ·rename_i t ht
  exact h t (List.mem_of_getLast? ht)
theorem ldp_go {L:List Tbl} {next:Int} (h:LDp L next): ∀k,k≤L.length→ldGo next (L.take (L.length - k)) (L.drop (L.length - k))=0
 |0,_=>by simp[ldGo]
 |k+1,hk=>by
  have hi:L.length - (k+1)<L.length:=by omega
  rw[ldGo_step next L _ hi]
  have hs:ldS next (L.take (L.length - (k+1))) L[L.length - (k+1)]=0:=by
   have hr:=h.right _ hi
   have hp:=(right_rt hr).id.1
   refine ldS_zero hr (lastI_lt (by omega) fun u hu=>?_) (h.ids _ hi) (fun u hu=>?_)
   ·obtain⟨i,hi',rfl⟩:=List.getElem_of_mem hu
    rw[List.getElem_take]
    rw[List.length_take] at hi'
    exact h.rise _ _ (by omega) hi (by omega)
   ·obtain⟨i,hi',rfl⟩:=List.getElem_of_mem hu
    rw[List.getElem_take]
    rw[List.length_take] at hi'
    exact h.nms _ _ (by omega) hi (by omega)
  rw[if_neg (fun h=>h hs)]
  have e:L.length - (k+1)+1=L.length - k:=by omega
  rw[e]
  exact ldp_go h k (by omega)
theorem ldE_iff (L:List Tbl) (next:Int):ldE L next=0 ↔ (1≤next∧next≤2147483648)∧LDp L next:=by
 constructor
 ·intro h
  unfold ldE at h
  split at h
  ·simp at h
  ·rename_i h1
   split at h
   ·simp at h
   ·rename_i h2
    refine⟨by omega,lg_ldp ?_ (by omega)⟩
    have:=ldGo_lg next L [] (LG0.nil next) h
    simpa using this
 ·rintro⟨h1,h2⟩
  have hl:=h2.len
  unfold ldE
  rw[if_neg (by omega),if_neg (by omega)]
  have:=ldp_go h2 L.length (Nat.le_refl _)
  simpa using this
end Go.Proofs.YtaiadknglhemaaaGreatDoor.C
namespace Go.Proofs.YtaiadknglhemaaaGreatDoor.C
open Go.RowKit Go
theorem wtl_any (b:Nat) (to:Option Addr) (tc:Nat) (P:List (Tbl×Value)) (F:Nat→Prop) (gv:Int) (t:Tbl) (ao:Option Addr) (c:Nat) (next:Int) (w:World) (hb:w.cell? ⟨b,0,none⟩=some (.slice to P.length tc)) (hb1:w.cell? ⟨b,1,none⟩=some (.int .i64 gv)) (hT:TL w F to P) (hl:P.length≤16)
  (ht:SL w ao (ccl t.cols)) (hc:t.cols.length≤c) (hcl:t.cols.length≤9223372036854775807) (h0:0≤gv) (h1:gv≤2147483648):
  Calls Tryz.prog 240 #[.pointer (some ⟨b,0,none⟩),tA t.id t.ver t.nm (.slice ao t.cols.length c) t.key,.int .i64 next] w fun x w'=>x= .returned (.int .i64 (if rightE t≠0 then rightE t else if t.id<gv+1∨next≤t.id then 1 else if 0≤posP (fun u=>decide (u.nm=t.nm)) P then 51 else 0))∧Tch (fun _=>False) w w':=by
 obtain⟨N,hN⟩: ∃N,N=w.heap.size:=⟨_,rfl⟩
 obtain⟨n,hn⟩: ∃n,n=t.cols.length:=⟨_,rfl⟩
 obtain⟨w0,hw0⟩: ∃w0,w0=w.alloc (.cells #[.int .i64 t.id,.int .i64 t.ver,.string t.nm,.slice ao n c,.int .i64 t.key] 29):=⟨_,rfl⟩
 have t0:Tch (fun _=>False) w w0:=by rw[hw0];exact Tch.alloc _ _ _
 have hX:w0.heap[N]? =some (.cells #[.int .i64 t.id,.int .i64 t.ver,.string t.nm,.slice ao n c,.int .i64 t.key] 29 (0,0)):=by rw[hw0,hN];exact alloc_new _ _
 have q1:=right_any t ao c w0 (ht.no t0) hc (by omega)
 obtain⟨R,hR⟩: ∃R,R=rightE t:=⟨_,rfl⟩
 obtain⟨r,hr⟩: ∃r,r=posP (fun u=>decide (u.nm=t.nm)) P:=⟨_,rfl⟩
 rw[←hn, ←hR] at q1
 obtain⟨E,hE⟩: ∃E,E=if R≠0 then R else if t.id<gv+1∨next≤t.id then 1 else if 0≤r then 51 else 0:=⟨_,rfl⟩
 have HE:Hid (E=if R≠0 then R else if t.id<gv+1∨next≤t.id then 1 else if 0≤r then 51 else 0):=hE
 have HB:Hid (∀W,Tch (fun _=>False) w0 W→(W.cell? ⟨N,0,none⟩=some (.int .i64 t.id)∧W.cell? ⟨N,1,none⟩=some (.int .i64 t.ver)∧W.cell? ⟨N,2,none⟩=some (.string t.nm)∧W.cell? ⟨N,3,none⟩=some (.slice ao n c)∧W.cell? ⟨N,4,none⟩=some (.int .i64 t.key))∧W.cell? ⟨b,1,none⟩=some (.int .i64 gv)):=fun W tW=>by
  have h2:W.heap[N]? =_:=(tW.block N (blk_lt hX) (fun h=>h)).trans hX
  exact⟨⟨by rw[blk_cell h2];rfl,by rw[blk_cell h2];rfl,by rw[blk_cell h2];rfl,by rw[blk_cell h2];rfl,by rw[blk_cell h2];rfl⟩,by rw[(t0.trans' tW).cell (p:=⟨b,1,none⟩) (cell_lt hb1) (fun h=>h)];exact hb1⟩
 have Hq2:Hid (∀W,Tch (fun _=>False) w0 W→Calls Tryz.prog 60 #[.pointer (some ⟨b,0,none⟩),.string t.nm] W fun x w'=>x= .returned (.int .i64 r)∧Tch (fun _=>False) W w'):=fun W tW=>by
  rw[hr]
  exact nm3_any b to tc P F t.nm W (by rw[(t0.trans' tW).cell (p:=⟨b,0,none⟩) (cell_lt hb) (fun h=>h)];exact hb) (hT.tch (t0.trans' tW) (fun _ _ h=>h.elim)) hl
 obtain⟨⟨c0,c1,c2,c3,c4⟩,_⟩:=HB.out w0 (Tch.refl _ _)
 rw[hw0,hN] at c0 c1 c2 c3 c4
 have Hw0:Hid _:=hw0
 have HN:Hid (N=w.heap.size):=hN
 have Ht0:Hid (Tch (fun _=>False) w w0):=t0
 rw[←hR, ←hr, ←hE, ←hn]
 clear hw0 hN hX t0 ht hT hb hb1 hr hn hcl hc hE hR
 go_enter Tryz.func240,Tryz.ntmps240
 go_wp2_with fail
 have hw0:=Hw0.out
 rw[←hw0]
 rw[←HN.out]
 clear hw0 c0 c1 c2 c3 c4
 refine q1.mono ?_
 rintro x w1 ⟨rfl,t1⟩
 clear q1
 obtain⟨⟨c0,c1,c2,c3,c4⟩,g1⟩:=HB.out w1 t1
 have Hnx:Hid (∀nq:Nat,Calls Tryz.prog 10 #[.pointer (some ⟨b,0,none⟩)] (w1.drewN nq) fun x w'=>x= .returned (.int .i64 (gv+1))∧w'=w1.drewN nq):=fun nq=>next_any b gv (w1.drewN nq) g1 h0 h1
 by_cases hR0:R=0
 ·subst hR0
  have hE:=HE.out
  rw[if_neg (by simp)] at hE
  by_cases hi1:t.id<gv+1
  ·rw[if_pos (Or.inl hi1)] at hE
   have HF:Hid (E=1):=hE
   clear hE HE
   go_wp2_with fail
   have hi3:t.id<gv+1:=by omega
   go_quiet ((go_at_call 10;exact Calls.quiet_of_same (Hnx.out _)))
   have HTq:Hid (Tch (fun _=>False) w0 (w1.drewN nq)):=t1.drewN _
   go_wp2_with fail
   go_ret
   exact⟨by rw[HF.out];rfl,Ht0.out.trans' HTq.out⟩
  ·by_cases hi2:next≤t.id
   ·rw[if_pos (Or.inr hi2)] at hE
    have HF:Hid (E=1):=hE
    clear hE HE
    go_wp2_with fail
    have hi3: ¬t.id<gv+1:=by omega
    have hi4:next≤t.id:=by omega
    go_quiet ((go_at_call 10;exact Calls.quiet_of_same (Hnx.out _)))
    have HTq:Hid (Tch (fun _=>False) w0 (w1.drewN nq)):=t1.drewN _
    go_wp2_with fail
    go_ret
    exact⟨by rw[HF.out];rfl,Ht0.out.trans' HTq.out⟩
   ·rw[if_neg (by omega)] at hE
    have HF:Hid _:=hE
    clear hE HE
    go_wp2_with fail
    have hi3: ¬t.id<gv+1:=by omega
    have hi4: ¬next≤t.id:=by omega
    go_quiet ((go_at_call 10;exact Calls.quiet_of_same (Hnx.out _)))
    have q2:=Hq2.out (w1.drewN nq) (t1.drewN _)
    have HTq:Hid (Tch (fun _=>False) w0 (w1.drewN nq)):=t1.drewN _
    obtain⟨⟨_,_,e2,_,_⟩,_⟩:=HB.out (w1.drewN nq) (t1.drewN _)
    clear c0 c1 c2 c3 c4 g1 t1
    go_wp2_with fail
    refine q2.mono ?_
    rintro x w2 ⟨rfl,t2⟩
    clear q2 e2
    by_cases hr0:0≤r
    ·go_wp2_with fail
     go_ret
     exact⟨by rw[HF.out,if_pos hr0];rfl,(Ht0.out.trans' HTq.out).trans' t2⟩
    ·go_wp2_with fail
     go_ret
     exact⟨by rw[HF.out,if_neg (by omega)];rfl,(Ht0.out.trans' HTq.out).trans' t2⟩
 ·have hE:=HE.out
  rw[if_pos hR0] at hE
  have HF:Hid (E=R):=hE
  have hb4:(R !=0)=true:=by simpa using hR0
  clear hE HE hR0
  go_wp2_with fail
  go_ret
  exact⟨by rw[HF.out];rfl,Ht0.out.trans' t1⟩
def LoadAny (L:List Tbl) (base:Nat) (next:Int) (x:Ending) (w':World):Prop:=(ldE L next=0→ ∃d P tv,x= .returned (.tuple #[.pointer (some ⟨d,0,none⟩),.int .i64 0])∧CO w' base d L (next - 1) P tv)∧(ldE L next≠0→x= .returned (.tuple #[.pointer none,.int .i64 (ldE L next)]))
theorem ldE_go {L:List Tbl} {next:Int} (h1:1≤next) (h2:next≤2147483648) (h3:L.length≤16):ldE L next=ldGo next (L.take 0) (L.drop 0):=by
 unfold ldE
 rw[if_neg (by omega),if_neg (by omega)]
 rfl
theorem load_any (l:List (Tbl×Value)) (lo:Option Addr) (lc:Nat) (F:Nat→Prop) (next:Int) (w:World) (hT:TL w F lo l) (hcl: ∀i (hi:i<l.length),l[i].1.cols.length≤9223372036854775807):
  Calls Tryz.prog 237 #[.slice lo l.length lc,.int .i64 next] w fun x w'=>LoadAny (l.map Prod.fst) w.heap.size next x w'∧Tch (fun _=>False) w w':=by
 by_cases hx1:next<1∨2147483648<next
 ·have HE:Hid (ldE (l.map Prod.fst) next=1):=if_pos hx1
  have HF:Hid (LoadAny (l.map Prod.fst) w.heap.size next (.returned (.tuple #[.pointer none,.int .i64 1])) w):=⟨fun e=>by rw[HE.out] at e;simp at e,fun _=>by rw[HE.out]⟩
  clear HE hT hcl
  rcases hx1 with h|h
  ·go_enter Tryz.func237,Tryz.ntmps237
   go_wp2_with fail
   go_ret2
   exact⟨HF.out,Tch.refl _ _⟩
  ·have h': ¬next<1:=by omega
   go_enter Tryz.func237,Tryz.ntmps237
   go_wp2_with fail
   go_ret2
   exact⟨HF.out,Tch.refl _ _⟩
 have h1:1≤next:=by omega
 have h2:next≤2147483648:=by omega
 by_cases hx3:16<l.length
 ·have HE:Hid (ldE (l.map Prod.fst) next=53):=by
   show _=_
   unfold ldE
   rw[if_neg hx1,if_pos (by simpa using hx3)]
  have HF:Hid (LoadAny (l.map Prod.fst) w.heap.size next (.returned (.tuple #[.pointer none,.int .i64 53])) w):=⟨fun e=>by rw[HE.out] at e;simp at e,fun _=>by rw[HE.out]⟩
  have hx4: ¬next<1:=by omega
  have hx5: ¬(2147483648:Int)<next:=by omega
  have hx6:(16:Int)<l.length:=by omega
  clear HE hT hcl hx1 h1 h2 hx3
  go_enter Tryz.func237,Tryz.ntmps237
  go_wp2_with fail
  go_ret2
  exact⟨HF.out,Tch.refl _ _⟩
 clear hx1
 obtain⟨n,hn⟩: ∃n,n=l.length:=⟨_,rfl⟩
 obtain⟨N,hN⟩: ∃N,N=w.heap.size:=⟨_,rfl⟩
 have q1:=new_any w
 obtain⟨w1,hw1⟩: ∃w1,w1=w.alloc (.cells #[.slice none 0 0,.int .i64 0] 60):=⟨_,rfl⟩
 rw[←hw1, ←hN] at q1
 have t1:Tch (fun _=>False) w w1:=by rw[hw1];exact Tch.alloc _ _ _
 have hb1:w1.heap[N]? =some (.cells #[.slice none 0 0,.int .i64 0] 60 (0,0)):=by rw[hw1,hN];exact alloc_new _ _
 have HCO1:Hid (CO w1 N N [] 0 [] (.slice none 0 0)):=⟨hb1,Nat.le_refl _,rfl,⟨World.ownsRow_nil _ _ _ _,fun i hi=>by simp at hi,fun i hi=>by simp at hi,fun i j hi=>by simp at hi⟩,by simp[Value.ownBlock],fun i hi=>by simp at hi⟩
 have Ht1:Hid (Tch (fun _=>False) w w1):=t1
 have HN:Hid (N=w.heap.size):=hN
 have Hn:Hid (n=l.length):=hn
 have Hcl:Hid _:=hcl
 have Hgo:Hid (ldE (l.map Prod.fst) next=ldGo next ((l.map Prod.fst).take 0) ((l.map Prod.fst).drop 0)):=ldE_go h1 h2 (by simpa using hx3)
 have HT:Hid (TL w F lo l):=hT
 have hn16: ¬(16:Int)<n:=by omega
 have hx1: ¬next<1:=by omega
 have hx2: ¬(2147483648:Int)<next:=by omega
 have hnI:n≤16:=by omega
 rw[←hn]
 clear hT hcl hN hn t1 hb1 hw1 hx3
 go_enter Tryz.func237,Tryz.ntmps237
 go_wp2_with fail
 refine q1.mono ?_
 rintro y w1' ⟨rfl,hw1'⟩
 obtain rfl:=hw1'.symm
 clear q1 hw1'
 go_wp2_with fail
 go_loopw [24] (fun iv wr=> ∃(k:Nat) (P:List (Tbl×Value)) (tv:Value) (gv:Int),iv= .int .i64 k∧k≤n∧Hid (CO wr N N ((l.take k).map Prod.fst) gv P tv∧(0≤gv∧gv≤2147483648)∧gv=lastI ((l.map Prod.fst).take k)∧LG0 ((l.map Prod.fst).take k) next∧ldE (l.map Prod.fst) next=ldGo next ((l.map Prod.fst).take k) ((l.map Prod.fst).drop k))∧Hid (Tch (fun i=>N≤i) w1 wr)) (fun iv _=>n - (intOf iv).toNat)
 case atStart=>exact⟨0,[],_,0,rfl,by omega,⟨HCO1.out,⟨by omega,by omega⟩,rfl,LG0.nil next,Hgo.out⟩,Tch.refl _ _⟩
 case round=>
  clear HCO1
  obtain⟨k,P,tv,gv,rfl,hk,HC,HTr⟩:=hrel
  obtain⟨wV,hwV⟩: ∃wV,wV=wr:=⟨_,rfl⟩
  subst hwV
  by_cases hlt:(k:Int)<n
  ·have hkl:k<l.length:=by have:=Hn.out;omega
   have hTw:Tch (fun i=>N≤i) w wV:=(Ht1.out.mono (fun _ _ h=>h.elim)).trans' HTr.out
   have hTL:=HT.out.tch (S:=fun _=>False) (W':=w) (Tch.refl _ _) (fun _ _ h=>h.elim)
   have hTV:TL wV F lo l:=HT.out.tch (hTw.mono (T:=fun _=>False) (fun i hi h=>by have h3:N≤i:=h;have:=HN.out;omega)) (fun _ _ h=>h.elim)
   obtain⟨g,o,rfl,c0,c1,c2,c3,c4⟩:=hTV.at k hkl
   obtain⟨co,cc,hck⟩:=hTV.col k hkl
   obtain⟨t,ht⟩: ∃t,t=l[k].1:=⟨_,rfl⟩
   have hck2:l[k].2= .slice co t.cols.length cc:=by rw[ht];exact hck.eq
   rw[hck2] at c3
   rw[←ht] at c0 c1 c2 c4
   obtain⟨m,hm⟩: ∃m,m=t.cols.length:=⟨_,rfl⟩
   rw[←hm] at c3
   obtain⟨to,tc,rfl⟩:=row_slice HC.out.1.to.own
   obtain⟨w2,hw2⟩: ∃w2,w2=wV.alloc (.cells #[.int .i64 t.id,.int .i64 t.ver,.string t.nm,.slice co m cc,.int .i64 t.key] 29):=⟨_,rfl⟩
   obtain⟨M,hM⟩: ∃M,M=wV.heap.size:=⟨_,rfl⟩
   have t2:Tch (fun _=>False) wV w2:=by rw[hw2];exact Tch.alloc _ _ _
   have hb2:w2.heap[M]? =some (.cells #[.int .i64 t.id,.int .i64 t.ver,.string t.nm,.slice co m cc,.int .i64 t.key] 29 (0,0)):=by rw[hw2,hM];exact alloc_new _ _
   have hPl:P.length=k:=by
    have h3:=congrArg List.length HC.out.1.eq
    rw[List.length_map,List.length_map,List.length_take] at h3
    omega
   have hPi: ∀i (hi:i<P.length),P[i].1=(l[i]'(by omega)).1:=fun i hi=>by
    have h3:(P.map Prod.fst)[i]? =((l.take k).map Prod.fst)[i]? :=by rw[HC.out.1.eq]
    rw[List.getElem?_map,List.getElem?_map,List.getElem?_eq_getElem hi,List.getElem?_take,if_pos (by omega),List.getElem?_eq_getElem (by omega)] at h3
    simpa using h3
   have hCO2:=HC.out.1.tch t2 (fun _ _ _ h=>h)
   have hck3:SL w2 co (ccl t.cols):=by rw[ht];exact hck.sl.no t2
   have hcap:t.cols.length≤cc:=by rw[ht];exact hck.cap
   have hno:co=none→t.cols=[]∧cc=0:=by rw[ht];exact hck.no
   have hkL:k<(l.map Prod.fst).length:=by simpa using hkl
   have htk:(l.map Prod.fst)[k]=t:=by rw[ht];simp
   have hpa:(0≤posP (fun u=>decide (u.nm=t.nm)) P) ↔ ((l.map Prod.fst).take k).any (isNm t)=true:=by
    have h3:=posP_any (fun u=>decide (u.nm=t.nm)) P
    rw[HC.out.1.eq,List.map_take] at h3
    rw[show isNm t=fun u=>decide (u.nm=t.nm) from rfl, ←h3]
    simp
   have hS:(if rightE t≠0 then rightE t else if t.id<gv+1∨next≤t.id then 1 else if 0≤posP (fun u=>decide (u.nm=t.nm)) P then 51 else 0)=ldS next ((l.map Prod.fst).take k) t:=by
    unfold ldS
    rw[←HC.out.2.2.1]
    have e1:(t.id<gv+1∨next≤t.id)=(t.id≤gv∨next≤t.id):=by apply propext;constructor<;>(intro h;omega)
    exact ite_congr rfl (fun _=>rfl) (fun _=>ite_congr e1 (fun _=>rfl) (fun _=>ite_congr (propext hpa) (fun _=>rfl) (fun _=>rfl)))
   have q2:=wtl_any N to tc P _ gv t co cc next w2 (by rw[blk_cell hCO2.blk];rfl) (by rw[blk_cell hCO2.blk];rfl) hCO2.to.toTL (by omega) hck3 hcap (by rw[ht];exact Hcl.out k hkl) HC.out.2.1.1 HC.out.2.1.2
   rw[hS] at q2
   obtain⟨E,hEE⟩: ∃E,E=ldS next ((l.map Prod.fst).take k) t:=⟨_,rfl⟩
   rw[←hEE] at q2
   have HEE:Hid (E=ldS next ((l.map Prod.fst).take k) t):=hEE
   have HgoK:Hid (ldE (l.map Prod.fst) next=if E≠0 then E else ldGo next ((l.map Prod.fst).take (k+1)) ((l.map Prod.fst).drop (k+1))):=by
    show _=_
    rw[HC.out.2.2.2.2,ldGo_step next _ k hkL,htk,hEE]
   have HLG:Hid (E=0→LG0 ((l.map Prod.fst).take (k+1)) next∧t.id=lastI ((l.map Prod.fst).take (k+1))):=fun e=>by
    have h3:=HC.out.2.2.2.1.snoc (t:=t) (hEE.symm.trans e)
    rw[List.take_succ_eq_append_getElem hkL,htk]
    exact⟨h3,(lastI_snoc _ _).symm⟩
   have h8:E=0→t.cols.length≤8:=fun e=>(right_len (ldS_ok (hEE.symm.trans e))).2
   have hidb:E=0→0≤t.id∧t.id≤2147483648:=fun e=>by
    have:=num_of (right_parts (ldS_ok (hEE.symm.trans e))).1
    omega
   rw[←hm] at q2
   have Hq3:Hid (E=0→ ∀W,Tch (fun _=>False) w2 W→Calls Tryz.prog 61 #[.pointer (some ⟨N,0,none⟩),tA t.id t.ver t.nm (.slice co m cc) t.key] W fun x w'=>x= .returned (.tuple #[])∧(∃P' tv',CO w' N N (((l.take k).map Prod.fst)++[t]) t.id P' tv'∧P'.length=P.length+1∧ ∀g,BL tv' P' g→BL (.slice to P.length tc) P g∨W.heap.size≤g)∧Tch (fun i=>i=N∨(Value.slice to P.length tc).ownBlock=some i) W w'):=fun he W tW=>by
    have q:=add_any N N ((l.take k).map Prod.fst) gv P (.slice to P.length tc) t co cc W (hCO2.tch tW (fun _ _ _ h=>h)) ⟨hck3.no tW,hno,hcap⟩ (h8 he) (by omega) (by have:=hTw.size;have:=(t2.trans' tW).size;have:=HN.out;omega)
    rw[←hm] at q
    exact q
   have Hcell:Hid (∀W,Tch (fun _=>False) w2 W→W.cell? ⟨M,0,none⟩=some (.int .i64 t.id)∧W.cell? ⟨M,1,none⟩=some (.int .i64 t.ver)∧W.cell? ⟨M,2,none⟩=some (.string t.nm)∧W.cell? ⟨M,3,none⟩=some (.slice co m cc)∧W.cell? ⟨M,4,none⟩=some (.int .i64 t.key)):=fun W tW=>by
    have h3:W.heap[M]? =_:=(tW.block M (blk_lt hb2) (fun h=>h)).trans hb2
    exact⟨by rw[blk_cell h3];rfl,by rw[blk_cell h3];rfl,by rw[blk_cell h3];rfl,by rw[blk_cell h3];rfl,by rw[blk_cell h3];rfl⟩
   have Hstep:Hid (E=0→ ∀W W' P' tv',Tch (fun _=>False) w2 W→CO W' N N (((l.take k).map Prod.fst)++[t]) t.id P' tv'→Tch (fun i=>i=N∨(Value.slice to P.length tc).ownBlock=some i) W W'→(CO W' N N ((l.take (k+1)).map Prod.fst) t.id P' tv'∧(0≤t.id∧t.id≤2147483648)∧t.id=lastI ((l.map Prod.fst).take (k+1))∧LG0 ((l.map Prod.fst).take (k+1)) next∧ldE (l.map Prod.fst) next=ldGo next ((l.map Prod.fst).take (k+1)) ((l.map Prod.fst).drop (k+1)))∧Tch (fun i=>N≤i) w1 W'):=fun he W W' P' tv' tW hc tw=>by
    refine⟨⟨?_,hidb he,(HLG.out he).2,(HLG.out he).1,?_⟩,?_⟩
    ·rw[List.take_succ_eq_append_getElem hkl,List.map_append]
     have e:[l[k]].map Prod.fst=[t]:=by rw[ht];rfl
     rw[e];exact hc
    ·rw[HgoK.out,if_neg (by simp[he])]
    ·refine(HTr.out.trans' ((t2.trans' tW).mono (fun _ _ h=>h.elim))).trans' (tw.mono (fun i _ h=>?_))
     rcases h with h|h
     ·show N≤i;omega
     ·exact(HC.out.1.to.own.lt i h).1
   have Ht2:Hid (Tch (fun _=>False) wV w2):=t2
   obtain⟨b0,b1,b2,b3,b4⟩:=Hcell.out w2 (Tch.refl _ _)
   rw[hw2,hM] at b0 b1 b2 b3 b4
   have Hw2:Hid _:=hw2
   have HM:Hid (M=wV.heap.size):=hM
   clear hw2 hM t2 hb2 hPl hPi hCO2 hck3 hcap hno h8 hidb hm ht hck hck2 hTL hTV hTw hS hpa htk hkL hEE HC
   go_wp2_with fail
   have hw2:=Hw2.out
   rw[←hw2]
   rw[←HM.out]
   clear hw2 c0 c1 c2 c3 c4 b0 b1 b2 b3 b4
   refine q2.mono ?_
   rintro y w3 ⟨rfl,t3⟩
   clear q2
   obtain⟨b0,b1,b2,b3,b4⟩:=Hcell.out w3 t3
   by_cases hE0:E=0
   ·subst hE0
    have q3:=Hq3.out (by simp) w3 t3
    go_wp2_with fail
    refine q3.mono ?_
    rintro y w4 ⟨rfl,⟨P',tv',hc4,_,_⟩,t4⟩
    clear q3 b0 b1 b2 b3 b4
    obtain⟨s1,s2⟩:=Hstep.out (by simp) w3 w4 P' tv' t3 hc4 t4
    have S1:Hid _:=s1
    have S2:Hid (Tch (fun i=>N≤i) w1 w4):=s2
    clear s1 s2 hc4 t4 t3
    go_wp2_with fail
    exact⟨⟨k+1,P',tv',t.id,by simp,by omega,S1,S2⟩,by simp[intOf];omega⟩
   ·have HF:Hid (LoadAny (l.map Prod.fst) w.heap.size next (.returned (.tuple #[.pointer none,.int .i64 E])) w3∧Tch (fun _=>False) w w3):=by
     have hge:=HgoK.out
     rw[if_pos hE0] at hge
     refine⟨⟨fun e=>absurd (hge.symm.trans e) hE0,fun _=>by rw[hge]⟩,?_⟩
     refine((Ht1.out.trans HTr.out (fun i hi h=>?_)).trans' Ht2.out).trans' t3
     have h3:N≤i:=h
     have:=HN.out;omega
    have hb4:(E !=0)=true:=by simpa using hE0
    clear hE0 HTr Hstep Hq3
    go_wp2_with fail
    go_ret2
    exact HF.out
  ·obtain rfl:k=n:=by omega
   have hfin:CO wV N N (l.map Prod.fst) gv P tv:=by
    have h3:=HC.out.1
    rw[List.take_of_length_le (by have:=Hn.out;omega)] at h3
    exact h3
   have b1:wV.cell? ⟨N,1,none⟩=some (.int .i64 gv):=by rw[blk_cell hfin.blk];rfl
   have f1:=blk_frozen hfin.blk 1
   have HFin:Hid (LoadAny (l.map Prod.fst) w.heap.size next (.returned (.tuple #[.pointer (some ⟨N,0,none⟩),.int .i64 0])) (wV.setCell ⟨N,1,none⟩ (.int .i64 (next - 1)))∧Tch (fun _=>False) w (wV.setCell ⟨N,1,none⟩ (.int .i64 (next - 1)))):=by
    have tS:Tch (fun i=>i=N) wV (wV.setCell ⟨N,1,none⟩ (.int .i64 (next - 1))):=Tch.setCell _ _ _ _ rfl
    have hz:ldE (l.map Prod.fst) next=0:=by rw[HC.out.2.2.2.2,show k=(l.map Prod.fst).length by have:=Hn.out;simp;omega];exact ldGo_end _ _
    refine⟨⟨fun _=>⟨N,P,tv,rfl,by rw[blk_set hfin.blk];rfl,by have:=HN.out;omega,hfin.eq,?_,hfin.nb⟩,fun e=>absurd hz e⟩,?_⟩
    ·rw[←HN.out]
     exact hfin.to.tch2 tS (fun g e e2=>hfin.nb.1 (by rw[←e2];exact e)) (fun i hi g e e2=>hfin.nb.2 i hi (by rw[←e2];exact e))
    ·refine(Ht1.out.trans HTr.out (fun i hi h=>?_)).trans tS (fun i hi h=>?_)
     ·have h3:N≤i:=h
      have:=HN.out;omega
     ·have h3:i=N:=h
      have:=HN.out;omega
   clear hfin HC HTr
   go_wp2_with fail
   go_ret2
   exact HFin.out
end Go.Proofs.YtaiadknglhemaaaGreatDoor.C
