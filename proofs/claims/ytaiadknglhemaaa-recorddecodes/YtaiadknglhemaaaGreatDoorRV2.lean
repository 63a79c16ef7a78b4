import Derived.Test.YtaiadknglhemaaaGreatDoorRV0
import Derived.Test.YtaiadknglhemaaaGreatDoorCLoad
set_option maxHeartbeats 2000000
namespace Go.Proofs.YtaiadknglhemaaaGreatDoor.C
open Go.RowKit
theorem nm_right (s:ByteArray):rightE ⟨1,1,s,[⟨⟨#[107]⟩,1,false⟩],0⟩=if nmOk s=true then 0 else 50:=by
 have h1:numOk 1=true:=by decide
 have h2:colsE [⟨⟨#[107]⟩,1,false⟩]=0:=by decide
 have h3:keyOk [⟨⟨#[107]⟩,1,false⟩] 0=true:=by decide
 unfold rightE
 simp only[h1,h2,h3]
 by_cases h:nmOk s=true
 ·rw[h];simp
 ·simp only[Bool.not_eq_true] at h
  rw[h];simp
def orOk (s:ByteArray) (n:Int):Prop:=(s.size=0∧n=0)∨(nmOk s=true∧1≤n∧n≤819208192)
instance (s:ByteArray) (n:Int):Decidable (orOk s n):=by unfold orOk;infer_instance
theorem isName_r (s:ByteArray) (w:World):Calls Tryz.prog 220 #[.string s] w fun x w'=>x= .returned (.bool (decide (nmOk s=true)))∧Tch (fun _=>False) w w':=by
 obtain⟨d,hd⟩: ∃d,d=nmOk s:=⟨_,rfl⟩
 have hq:=nm_right s
 rw[←hd] at hq ⊢
 have q: ∀W g c,(∀j u,(ccl [⟨⟨#[107]⟩,1,false⟩])[j]? =some u→W.cell? ⟨g,0+j,none⟩=some u)→1≤c→Calls Tryz.prog 26 #[tA 1 1 s (.slice (some ⟨g,0,none⟩) 1 c) 0] W fun x w'=>x= .returned (.int .i64 (if d=true then 0 else 50))∧Tch (fun _=>False) W w':=fun W g c hA hc=>by
  have:=right_any ⟨1,1,s,[⟨⟨#[107]⟩,1,false⟩],0⟩ (some ⟨g,0,none⟩) c W (fun _=>⟨g,0,rfl,hA⟩) hc (by simp)
  rw[hq] at this
  exact this
 have HQ:Hid _:=q
 have HC:Hid (∀o, ∀j u,(ccl [⟨⟨#[107]⟩,1,false⟩])[j]? =some u→((w.alloc (.cells #[.string ⟨#[107]⟩,.int .i64 1,.bool false] 43)).alloc o).cell? ⟨w.heap.size,0+j,none⟩=some u):=fun o j u hu=>by
  have h1:=blk_at (alloc_new w (.cells (ccl [⟨⟨#[107]⟩,1,false⟩]).toArray 43)) j u hu
  rw[World.cell?_alloc_lt _ _ _ (by simp)]
  exact h1
 clear q hq hd
 cases d
 all_goals
  go_enter Tryz.func220,Tryz.ntmps220
  go_wp2_with fail
  refine(HQ.out _ _ _ (HC.out _) (by omega)).mono ?_
  rintro x w1 ⟨rfl,t1⟩
  go_wp2_with fail
  go_ret
  exact⟨rfl,((Tch.alloc _ _ _).allocR _).trans' t1⟩
theorem isOrigin_r (s:ByteArray) (n:Int) (w:World):Calls Tryz.prog 219 #[.string s,.int .i64 n] w fun x w'=>x= .returned (.bool (decide (orOk s n)))∧Tch (fun _=>False) w w':=by
 by_cases hs:s.size=0
 ·have e:s=⟨#[]⟩:=by
   obtain⟨⟨l⟩⟩:=s
   have:l.length=0:=hs
   rw[List.length_eq_zero_iff.1 this]
  have hno:nmOk s=false:=by rw[e];rfl
  have e1:s.toList.isEmpty=true:=by rw[emp];simpa using hs
  have HP:Hid (orOk s n ↔ n=0):=⟨fun h=>by
   rcases h with h|h
   ·exact h.2
   ·rw[hno] at h;simp at h,fun h=>Or.inl ⟨hs,h⟩⟩
  clear hs e hno
  go_enter Tryz.func219,Tryz.ntmps219
  go_wp2_with fail
  go_ret
  exact⟨vret_bool (bd (by rw[HP.out];simp)),Tch.refl _ _⟩
 ·have e1:s.toList.isEmpty=false:=by rw[emp];simpa using hs
  have HP:Hid (orOk s n ↔ nmOk s=true∧1≤n∧n≤819208192):=⟨fun h=>by
   rcases h with h|h
   ·exact absurd h.1 hs
   ·exact h,fun h=>Or.inr h⟩
  have q:=isName_r s w
  obtain⟨d,hd⟩: ∃d,d=nmOk s:=⟨_,rfl⟩
  rw[←hd] at q HP
  clear hs hd
  cases d
  ·go_enter Tryz.func219,Tryz.ntmps219
   go_wp2_with fail
   refine q.mono ?_
   rintro x w1 ⟨rfl,t1⟩
   go_wp2_with fail
   go_ret
   exact⟨vret_bool (bd (by rw[HP.out];simp)),t1⟩
  ·by_cases h1:1≤n
   ·by_cases h2:n≤819208192
    all_goals
     go_enter Tryz.func219,Tryz.ntmps219
     go_wp2_with fail
     refine q.mono ?_
     rintro x w1 ⟨rfl,t1⟩
     go_wp2_with fail
     go_ret
     exact⟨vret_bool (bd (by rw[HP.out];simp;omega)),t1⟩
   ·go_enter Tryz.func219,Tryz.ntmps219
    go_wp2_with fail
    refine q.mono ?_
    rintro x w1 ⟨rfl,t1⟩
    go_wp2_with fail
    go_ret
    exact⟨vret_bool (bd (by rw[HP.out];simp;omega)),t1⟩
theorem right_1 (r:Rc) (s:Sk) (F:Nat→Prop) (w:World) (_hg:HE w) (_h:RW w F r s):Calls Tryz.prog 185 #[.agg #[.int .i64 r.x]] w fun x w'=>EqT (rightC 1 r) w x w':=by
 have HK:Hid (∀W,Tch (fun _=>False) (w.alloc (.cells #[.int .i64 r.x] 128)) W→W.cell? ⟨w.heap.size,0,none⟩=some (.int .i64 r.x)):=fun W t=>(t.cell (p:=⟨_,_,none⟩) (by simp) (fun h=>h)).trans (by simp)
 have Q1:Hid (∀W,Tch (fun _=>False) w W→Calls Tryz.prog 188 #[.int .i64 r.x] W fun x w'=>x= .returned (.bool (decide (rtN r.x)))∧Tch (fun _=>False) W w'):=fun W t=>(isNumber_any r.x W).mono (fun x w1 h=>⟨h.1,by rw[h.2];exact Tch.refl _ _⟩)
 obtain⟨d1,hd1⟩: ∃d,d=decide (rtN r.x):=⟨_,rfl⟩
 have H1:Hid (d1=true ↔ rtN r.x):=by rw[hd1];exact decide_eq_true_iff
 rw[←hd1] at Q1
 clear hd1
 cases d1
 ·go_enter Tryz.func185,Tryz.ntmps185
  go_wp2_with fail
  refine(Q1.out _ (Tch.alloc _ _ _)).mono ?_
  rintro x w1 ⟨rfl,t1⟩
  have T1:Tch (fun _=>False) w w1:=(Tch.alloc _ _ _).trans' t1
  go_wp2_with fail
  go_ret
  exact eqT_no (fun e=>by have:=H1.out.2 e;simp at this) T1
 ·go_enter Tryz.func185,Tryz.ntmps185
  go_wp2_with fail
  refine(Q1.out _ (Tch.alloc _ _ _)).mono ?_
  rintro x w1 ⟨rfl,t1⟩
  have T1:Tch (fun _=>False) w w1:=(Tch.alloc _ _ _).trans' t1
  go_wp2_with fail
  go_ret
  exact⟨true,rfl,⟨fun _=>H1.out.1 (by trivial),fun _=>rfl⟩,T1⟩
theorem right_3 (r:Rc) (s:Sk) (F:Nat→Prop) (w:World) (hg:HE w) (h:RW w F r s):Calls Tryz.prog 195 #[.agg #[.int .i64 r.x,.int .i64 r.t,.slice s.no r.n.length s.nc]] w fun x w'=>EqT (rightC 3 r) w x w':=by
 have HK:Hid (∀W,Tch (fun _=>False) (w.alloc (.cells #[.int .i64 r.x,.int .i64 r.t,.slice s.no r.n.length s.nc] 132)) W→W.cell? ⟨w.heap.size,0,none⟩=some (.int .i64 r.x)∧W.cell? ⟨w.heap.size,1,none⟩=some (.int .i64 r.t)∧W.cell? ⟨w.heap.size,2,none⟩=some (.slice s.no r.n.length s.nc)):=fun W t=>⟨(t.cell (p:=⟨_,_,none⟩) (by simp) (fun h=>h)).trans (by simp),(t.cell (p:=⟨_,_,none⟩) (by simp) (fun h=>h)).trans (by simp),(t.cell (p:=⟨_,_,none⟩) (by simp) (fun h=>h)).trans (by simp)⟩
 have Q1:Hid (∀W,Tch (fun _=>False) w W→Calls Tryz.prog 188 #[.int .i64 r.x] W fun x w'=>x= .returned (.bool (decide (rtN r.x)))∧Tch (fun _=>False) W w'):=fun W t=>(isNumber_any r.x W).mono (fun x w1 h=>⟨h.1,by rw[h.2];exact Tch.refl _ _⟩)
 obtain⟨d1,hd1⟩: ∃d,d=decide (rtN r.x):=⟨_,rfl⟩
 have H1:Hid (d1=true ↔ rtN r.x):=by rw[hd1];exact decide_eq_true_iff
 rw[←hd1] at Q1
 clear hd1
 have Q2:Hid (∀W,Tch (fun _=>False) w W→Calls Tryz.prog 188 #[.int .i64 r.t] W fun x w'=>x= .returned (.bool (decide (rtN r.t)))∧Tch (fun _=>False) W w'):=fun W t=>(isNumber_any r.t W).mono (fun x w1 h=>⟨h.1,by rw[h.2];exact Tch.refl _ _⟩)
 obtain⟨d2,hd2⟩: ∃d,d=decide (rtN r.t):=⟨_,rfl⟩
 have H2:Hid (d2=true ↔ rtN r.t):=by rw[hd2];exact decide_eq_true_iff
 rw[←hd2] at Q2
 clear hd2
 have Q3:Hid (∀W,Tch (fun _=>False) w W→Calls Tryz.prog 198 #[.slice s.no r.n.length s.nc] W fun x w'=>x= .returned (.bool (decide (rtRow r.n)))∧Tch (fun _=>False) W w'):=fun W t=>isRow_any r.n s.no s.nc W (hg.tch t (fun h=>h)) ((h.no t).n) h.ni h.nl
 obtain⟨d3,hd3⟩: ∃d,d=decide (rtRow r.n):=⟨_,rfl⟩
 have H3:Hid (d3=true ↔ rtRow r.n):=by rw[hd3];exact decide_eq_true_iff
 rw[←hd3] at Q3
 clear hd3
 clear h hg
 cases d1
 ·go_enter Tryz.func195,Tryz.ntmps195
  go_wp2_with fail
  refine(Q1.out _ (Tch.alloc _ _ _)).mono ?_
  rintro x w1 ⟨rfl,t1⟩
  have T1:Tch (fun _=>False) w w1:=(Tch.alloc _ _ _).trans' t1
  obtain⟨y0,y1,y2⟩:=HK.out w1 (t1)
  go_wp2_with fail
  go_ret
  exact eqT_no (fun e=>by have:=H1.out.2 e.1;simp at this) T1
 ·skip
  cases d2
  ·go_enter Tryz.func195,Tryz.ntmps195
   go_wp2_with fail
   refine(Q1.out _ (Tch.alloc _ _ _)).mono ?_
   rintro x w1 ⟨rfl,t1⟩
   have T1:Tch (fun _=>False) w w1:=(Tch.alloc _ _ _).trans' t1
   obtain⟨y0,y1,y2⟩:=HK.out w1 (t1)
   go_wp2_with fail
   refine(Q2.out _ T1).mono ?_
   rintro x w2 ⟨rfl,t2⟩
   have T2:Tch (fun _=>False) w w2:=T1.trans' t2
   obtain⟨y0,y1,y2⟩:=HK.out w2 (t1.trans' t2)
   go_wp2_with fail
   go_ret
   exact eqT_no (fun e=>by have:=H2.out.2 e.2.1;simp at this) T2
  ·skip
   cases d3
   ·go_enter Tryz.func195,Tryz.ntmps195
    go_wp2_with fail
    refine(Q1.out _ (Tch.alloc _ _ _)).mono ?_
    rintro x w1 ⟨rfl,t1⟩
    have T1:Tch (fun _=>False) w w1:=(Tch.alloc _ _ _).trans' t1
    obtain⟨y0,y1,y2⟩:=HK.out w1 (t1)
    go_wp2_with fail
    refine(Q2.out _ T1).mono ?_
    rintro x w2 ⟨rfl,t2⟩
    have T2:Tch (fun _=>False) w w2:=T1.trans' t2
    obtain⟨y0,y1,y2⟩:=HK.out w2 (t1.trans' t2)
    go_wp2_with fail
    refine(Q3.out _ T2).mono ?_
    rintro x w3 ⟨rfl,t3⟩
    have T3:Tch (fun _=>False) w w3:=T2.trans' t3
    go_wp2_with fail
    go_ret
    exact eqT_no (fun e=>by have:=H3.out.2 e.2.2;simp at this) T3
   ·go_enter Tryz.func195,Tryz.ntmps195
    go_wp2_with fail
    refine(Q1.out _ (Tch.alloc _ _ _)).mono ?_
    rintro x w1 ⟨rfl,t1⟩
    have T1:Tch (fun _=>False) w w1:=(Tch.alloc _ _ _).trans' t1
    obtain⟨y0,y1,y2⟩:=HK.out w1 (t1)
    go_wp2_with fail
    refine(Q2.out _ T1).mono ?_
    rintro x w2 ⟨rfl,t2⟩
    have T2:Tch (fun _=>False) w w2:=T1.trans' t2
    obtain⟨y0,y1,y2⟩:=HK.out w2 (t1.trans' t2)
    go_wp2_with fail
    refine(Q3.out _ T2).mono ?_
    rintro x w3 ⟨rfl,t3⟩
    have T3:Tch (fun _=>False) w w3:=T2.trans' t3
    go_wp2_with fail
    go_ret
    exact⟨true,rfl,⟨fun _=>⟨H1.out.1 (by trivial),H2.out.1 (by trivial),H3.out.1 (by trivial)⟩,fun _=>rfl⟩,T3⟩
theorem right_4 (r:Rc) (s:Sk) (F:Nat→Prop) (w:World) (hg:HE w) (h:RW w F r s):Calls Tryz.prog 210 #[.agg #[.int .i64 r.x,.int .i64 r.t,.slice s.oo r.o.length s.oc,.slice s.no r.n.length s.nc]] w fun x w'=>EqT (rightC 4 r) w x w':=by
 have HK:Hid (∀W,Tch (fun _=>False) (w.alloc (.cells #[.int .i64 r.x,.int .i64 r.t,.slice s.oo r.o.length s.oc,.slice s.no r.n.length s.nc] 134)) W→W.cell? ⟨w.heap.size,0,none⟩=some (.int .i64 r.x)∧W.cell? ⟨w.heap.size,1,none⟩=some (.int .i64 r.t)∧W.cell? ⟨w.heap.size,2,none⟩=some (.slice s.oo r.o.length s.oc)∧W.cell? ⟨w.heap.size,3,none⟩=some (.slice s.no r.n.length s.nc)):=fun W t=>⟨(t.cell (p:=⟨_,_,none⟩) (by simp) (fun h=>h)).trans (by simp),(t.cell (p:=⟨_,_,none⟩) (by simp) (fun h=>h)).trans (by simp),(t.cell (p:=⟨_,_,none⟩) (by simp) (fun h=>h)).trans (by simp),(t.cell (p:=⟨_,_,none⟩) (by simp) (fun h=>h)).trans (by simp)⟩
 have Q1:Hid (∀W,Tch (fun _=>False) w W→Calls Tryz.prog 188 #[.int .i64 r.x] W fun x w'=>x= .returned (.bool (decide (rtN r.x)))∧Tch (fun _=>False) W w'):=fun W t=>(isNumber_any r.x W).mono (fun x w1 h=>⟨h.1,by rw[h.2];exact Tch.refl _ _⟩)
 obtain⟨d1,hd1⟩: ∃d,d=decide (rtN r.x):=⟨_,rfl⟩
 have H1:Hid (d1=true ↔ rtN r.x):=by rw[hd1];exact decide_eq_true_iff
 rw[←hd1] at Q1
 clear hd1
 have Q2:Hid (∀W,Tch (fun _=>False) w W→Calls Tryz.prog 188 #[.int .i64 r.t] W fun x w'=>x= .returned (.bool (decide (rtN r.t)))∧Tch (fun _=>False) W w'):=fun W t=>(isNumber_any r.t W).mono (fun x w1 h=>⟨h.1,by rw[h.2];exact Tch.refl _ _⟩)
 obtain⟨d2,hd2⟩: ∃d,d=decide (rtN r.t):=⟨_,rfl⟩
 have H2:Hid (d2=true ↔ rtN r.t):=by rw[hd2];exact decide_eq_true_iff
 rw[←hd2] at Q2
 clear hd2
 have Q3:Hid (∀W,Tch (fun _=>False) w W→Calls Tryz.prog 198 #[.slice s.oo r.o.length s.oc] W fun x w'=>x= .returned (.bool (decide (rtRow r.o)))∧Tch (fun _=>False) W w'):=fun W t=>isRow_any r.o s.oo s.oc W (hg.tch t (fun h=>h)) ((h.no t).o) h.oi h.ol
 obtain⟨d3,hd3⟩: ∃d,d=decide (rtRow r.o):=⟨_,rfl⟩
 have H3:Hid (d3=true ↔ rtRow r.o):=by rw[hd3];exact decide_eq_true_iff
 rw[←hd3] at Q3
 clear hd3
 have Q4:Hid (∀W,Tch (fun _=>False) w W→Calls Tryz.prog 198 #[.slice s.no r.n.length s.nc] W fun x w'=>x= .returned (.bool (decide (rtRow r.n)))∧Tch (fun _=>False) W w'):=fun W t=>isRow_any r.n s.no s.nc W (hg.tch t (fun h=>h)) ((h.no t).n) h.ni h.nl
 obtain⟨d4,hd4⟩: ∃d,d=decide (rtRow r.n):=⟨_,rfl⟩
 have H4:Hid (d4=true ↔ rtRow r.n):=by rw[hd4];exact decide_eq_true_iff
 rw[←hd4] at Q4
 clear hd4
 clear h hg
 cases d1
 ·go_enter Tryz.func210,Tryz.ntmps210
  go_wp2_with fail
  refine(Q1.out _ (Tch.alloc _ _ _)).mono ?_
  rintro x w1 ⟨rfl,t1⟩
  have T1:Tch (fun _=>False) w w1:=(Tch.alloc _ _ _).trans' t1
  obtain⟨y0,y1,y2,y3⟩:=HK.out w1 (t1)
  go_wp2_with fail
  go_ret
  exact eqT_no (fun e=>by have:=H1.out.2 e.1;simp at this) T1
 ·skip
  cases d2
  ·go_enter Tryz.func210,Tryz.ntmps210
   go_wp2_with fail
   refine(Q1.out _ (Tch.alloc _ _ _)).mono ?_
   rintro x w1 ⟨rfl,t1⟩
   have T1:Tch (fun _=>False) w w1:=(Tch.alloc _ _ _).trans' t1
   obtain⟨y0,y1,y2,y3⟩:=HK.out w1 (t1)
   go_wp2_with fail
   refine(Q2.out _ T1).mono ?_
   rintro x w2 ⟨rfl,t2⟩
   have T2:Tch (fun _=>False) w w2:=T1.trans' t2
   obtain⟨y0,y1,y2,y3⟩:=HK.out w2 (t1.trans' t2)
   go_wp2_with fail
   go_ret
   exact eqT_no (fun e=>by have:=H2.out.2 e.2.1;simp at this) T2
  ·skip
   cases d3
   ·go_enter Tryz.func210,Tryz.ntmps210
    go_wp2_with fail
    refine(Q1.out _ (Tch.alloc _ _ _)).mono ?_
    rintro x w1 ⟨rfl,t1⟩
    have T1:Tch (fun _=>False) w w1:=(Tch.alloc _ _ _).trans' t1
    obtain⟨y0,y1,y2,y3⟩:=HK.out w1 (t1)
    go_wp2_with fail
    refine(Q2.out _ T1).mono ?_
    rintro x w2 ⟨rfl,t2⟩
    have T2:Tch (fun _=>False) w w2:=T1.trans' t2
    obtain⟨y0,y1,y2,y3⟩:=HK.out w2 (t1.trans' t2)
    go_wp2_with fail
    refine(Q3.out _ T2).mono ?_
    rintro x w3 ⟨rfl,t3⟩
    have T3:Tch (fun _=>False) w w3:=T2.trans' t3
    obtain⟨y0,y1,y2,y3⟩:=HK.out w3 ((t1.trans' t2).trans' t3)
    go_wp2_with fail
    go_ret
    exact eqT_no (fun e=>by have:=H3.out.2 e.2.2.1;simp at this) T3
   ·skip
    cases d4
    ·go_enter Tryz.func210,Tryz.ntmps210
     go_wp2_with fail
     refine(Q1.out _ (Tch.alloc _ _ _)).mono ?_
     rintro x w1 ⟨rfl,t1⟩
     have T1:Tch (fun _=>False) w w1:=(Tch.alloc _ _ _).trans' t1
     obtain⟨y0,y1,y2,y3⟩:=HK.out w1 (t1)
     go_wp2_with fail
     refine(Q2.out _ T1).mono ?_
     rintro x w2 ⟨rfl,t2⟩
     have T2:Tch (fun _=>False) w w2:=T1.trans' t2
     obtain⟨y0,y1,y2,y3⟩:=HK.out w2 (t1.trans' t2)
     go_wp2_with fail
     refine(Q3.out _ T2).mono ?_
     rintro x w3 ⟨rfl,t3⟩
     have T3:Tch (fun _=>False) w w3:=T2.trans' t3
     obtain⟨y0,y1,y2,y3⟩:=HK.out w3 ((t1.trans' t2).trans' t3)
     go_wp2_with fail
     refine(Q4.out _ T3).mono ?_
     rintro x w4 ⟨rfl,t4⟩
     have T4:Tch (fun _=>False) w w4:=T3.trans' t4
     go_wp2_with fail
     go_ret
     exact eqT_no (fun e=>by have:=H4.out.2 e.2.2.2;simp at this) T4
    ·go_enter Tryz.func210,Tryz.ntmps210
     go_wp2_with fail
     refine(Q1.out _ (Tch.alloc _ _ _)).mono ?_
     rintro x w1 ⟨rfl,t1⟩
     have T1:Tch (fun _=>False) w w1:=(Tch.alloc _ _ _).trans' t1
     obtain⟨y0,y1,y2,y3⟩:=HK.out w1 (t1)
     go_wp2_with fail
     refine(Q2.out _ T1).mono ?_
     rintro x w2 ⟨rfl,t2⟩
     have T2:Tch (fun _=>False) w w2:=T1.trans' t2
     obtain⟨y0,y1,y2,y3⟩:=HK.out w2 (t1.trans' t2)
     go_wp2_with fail
     refine(Q3.out _ T2).mono ?_
     rintro x w3 ⟨rfl,t3⟩
     have T3:Tch (fun _=>False) w w3:=T2.trans' t3
     obtain⟨y0,y1,y2,y3⟩:=HK.out w3 ((t1.trans' t2).trans' t3)
     go_wp2_with fail
     refine(Q4.out _ T3).mono ?_
     rintro x w4 ⟨rfl,t4⟩
     have T4:Tch (fun _=>False) w w4:=T3.trans' t4
     go_wp2_with fail
     go_ret
     exact⟨true,rfl,⟨fun _=>⟨H1.out.1 (by trivial),H2.out.1 (by trivial),H3.out.1 (by trivial),H4.out.1 (by trivial)⟩,fun _=>rfl⟩,T4⟩
theorem right_5 (r:Rc) (s:Sk) (F:Nat→Prop) (w:World) (hg:HE w) (h:RW w F r s):Calls Tryz.prog 213 #[.agg #[.int .i64 r.x,.int .i64 r.t,.slice s.oo r.o.length s.oc]] w fun x w'=>EqT (rightC 5 r) w x w':=by
 have HK:Hid (∀W,Tch (fun _=>False) (w.alloc (.cells #[.int .i64 r.x,.int .i64 r.t,.slice s.oo r.o.length s.oc] 135)) W→W.cell? ⟨w.heap.size,0,none⟩=some (.int .i64 r.x)∧W.cell? ⟨w.heap.size,1,none⟩=some (.int .i64 r.t)∧W.cell? ⟨w.heap.size,2,none⟩=some (.slice s.oo r.o.length s.oc)):=fun W t=>⟨(t.cell (p:=⟨_,_,none⟩) (by simp) (fun h=>h)).trans (by simp),(t.cell (p:=⟨_,_,none⟩) (by simp) (fun h=>h)).trans (by simp),(t.cell (p:=⟨_,_,none⟩) (by simp) (fun h=>h)).trans (by simp)⟩
 have Q1:Hid (∀W,Tch (fun _=>False) w W→Calls Tryz.prog 188 #[.int .i64 r.x] W fun x w'=>x= .returned (.bool (decide (rtN r.x)))∧Tch (fun _=>False) W w'):=fun W t=>(isNumber_any r.x W).mono (fun x w1 h=>⟨h.1,by rw[h.2];exact Tch.refl _ _⟩)
 obtain⟨d1,hd1⟩: ∃d,d=decide (rtN r.x):=⟨_,rfl⟩
 have H1:Hid (d1=true ↔ rtN r.x):=by rw[hd1];exact decide_eq_true_iff
 rw[←hd1] at Q1
 clear hd1
 have Q2:Hid (∀W,Tch (fun _=>False) w W→Calls Tryz.prog 188 #[.int .i64 r.t] W fun x w'=>x= .returned (.bool (decide (rtN r.t)))∧Tch (fun _=>False) W w'):=fun W t=>(isNumber_any r.t W).mono (fun x w1 h=>⟨h.1,by rw[h.2];exact Tch.refl _ _⟩)
 obtain⟨d2,hd2⟩: ∃d,d=decide (rtN r.t):=⟨_,rfl⟩
 have H2:Hid (d2=true ↔ rtN r.t):=by rw[hd2];exact decide_eq_true_iff
 rw[←hd2] at Q2
 clear hd2
 have Q3:Hid (∀W,Tch (fun _=>False) w W→Calls Tryz.prog 198 #[.slice s.oo r.o.length s.oc] W fun x w'=>x= .returned (.bool (decide (rtRow r.o)))∧Tch (fun _=>False) W w'):=fun W t=>isRow_any r.o s.oo s.oc W (hg.tch t (fun h=>h)) ((h.no t).o) h.oi h.ol
 obtain⟨d3,hd3⟩: ∃d,d=decide (rtRow r.o):=⟨_,rfl⟩
 have H3:Hid (d3=true ↔ rtRow r.o):=by rw[hd3];exact decide_eq_true_iff
 rw[←hd3] at Q3
 clear hd3
 clear h hg
 cases d1
 ·go_enter Tryz.func213,Tryz.ntmps213
  go_wp2_with fail
  refine(Q1.out _ (Tch.alloc _ _ _)).mono ?_
  rintro x w1 ⟨rfl,t1⟩
  have T1:Tch (fun _=>False) w w1:=(Tch.alloc _ _ _).trans' t1
  obtain⟨y0,y1,y2⟩:=HK.out w1 (t1)
  go_wp2_with fail
  go_ret
  exact eqT_no (fun e=>by have:=H1.out.2 e.1;simp at this) T1
 ·skip
  cases d2
  ·go_enter Tryz.func213,Tryz.ntmps213
   go_wp2_with fail
   refine(Q1.out _ (Tch.alloc _ _ _)).mono ?_
   rintro x w1 ⟨rfl,t1⟩
   have T1:Tch (fun _=>False) w w1:=(Tch.alloc _ _ _).trans' t1
   obtain⟨y0,y1,y2⟩:=HK.out w1 (t1)
   go_wp2_with fail
   refine(Q2.out _ T1).mono ?_
   rintro x w2 ⟨rfl,t2⟩
   have T2:Tch (fun _=>False) w w2:=T1.trans' t2
   obtain⟨y0,y1,y2⟩:=HK.out w2 (t1.trans' t2)
   go_wp2_with fail
   go_ret
   exact eqT_no (fun e=>by have:=H2.out.2 e.2.1;simp at this) T2
  ·skip
   cases d3
   ·go_enter Tryz.func213,Tryz.ntmps213
    go_wp2_with fail
    refine(Q1.out _ (Tch.alloc _ _ _)).mono ?_
    rintro x w1 ⟨rfl,t1⟩
    have T1:Tch (fun _=>False) w w1:=(Tch.alloc _ _ _).trans' t1
    obtain⟨y0,y1,y2⟩:=HK.out w1 (t1)
    go_wp2_with fail
    refine(Q2.out _ T1).mono ?_
    rintro x w2 ⟨rfl,t2⟩
    have T2:Tch (fun _=>False) w w2:=T1.trans' t2
    obtain⟨y0,y1,y2⟩:=HK.out w2 (t1.trans' t2)
    go_wp2_with fail
    refine(Q3.out _ T2).mono ?_
    rintro x w3 ⟨rfl,t3⟩
    have T3:Tch (fun _=>False) w w3:=T2.trans' t3
    go_wp2_with fail
    go_ret
    exact eqT_no (fun e=>by have:=H3.out.2 e.2.2;simp at this) T3
   ·go_enter Tryz.func213,Tryz.ntmps213
    go_wp2_with fail
    refine(Q1.out _ (Tch.alloc _ _ _)).mono ?_
    rintro x w1 ⟨rfl,t1⟩
    have T1:Tch (fun _=>False) w w1:=(Tch.alloc _ _ _).trans' t1
    obtain⟨y0,y1,y2⟩:=HK.out w1 (t1)
    go_wp2_with fail
    refine(Q2.out _ T1).mono ?_
    rintro x w2 ⟨rfl,t2⟩
    have T2:Tch (fun _=>False) w w2:=T1.trans' t2
    obtain⟨y0,y1,y2⟩:=HK.out w2 (t1.trans' t2)
    go_wp2_with fail
    refine(Q3.out _ T2).mono ?_
    rintro x w3 ⟨rfl,t3⟩
    have T3:Tch (fun _=>False) w w3:=T2.trans' t3
    go_wp2_with fail
    go_ret
    exact⟨true,rfl,⟨fun _=>⟨H1.out.1 (by trivial),H2.out.1 (by trivial),H3.out.1 (by trivial)⟩,fun _=>rfl⟩,T3⟩
theorem right_6 (r:Rc) (s:Sk) (F:Nat→Prop) (w:World) (_hg:HE w) (_h:RW w F r s):Calls Tryz.prog 216 #[.agg #[.int .i64 r.x,.string r.nm,.int .i64 r.org]] w fun x w'=>EqT (rightC 6 r) w x w':=by
 have HK:Hid (∀W,Tch (fun _=>False) (w.alloc (.cells #[.int .i64 r.x,.string r.nm,.int .i64 r.org] 137)) W→W.cell? ⟨w.heap.size,0,none⟩=some (.int .i64 r.x)∧W.cell? ⟨w.heap.size,1,none⟩=some (.string r.nm)∧W.cell? ⟨w.heap.size,2,none⟩=some (.int .i64 r.org)):=fun W t=>⟨(t.cell (p:=⟨_,_,none⟩) (by simp) (fun h=>h)).trans (by simp),(t.cell (p:=⟨_,_,none⟩) (by simp) (fun h=>h)).trans (by simp),(t.cell (p:=⟨_,_,none⟩) (by simp) (fun h=>h)).trans (by simp)⟩
 have Q1:Hid (∀W,Tch (fun _=>False) w W→Calls Tryz.prog 188 #[.int .i64 r.x] W fun x w'=>x= .returned (.bool (decide (rtN r.x)))∧Tch (fun _=>False) W w'):=fun W t=>(isNumber_any r.x W).mono (fun x w1 h=>⟨h.1,by rw[h.2];exact Tch.refl _ _⟩)
 obtain⟨d1,hd1⟩: ∃d,d=decide (rtN r.x):=⟨_,rfl⟩
 have H1:Hid (d1=true ↔ rtN r.x):=by rw[hd1];exact decide_eq_true_iff
 rw[←hd1] at Q1
 clear hd1
 have Q2:Hid (∀W,Tch (fun _=>False) w W→Calls Tryz.prog 219 #[.string r.nm,.int .i64 r.org] W fun x w'=>x= .returned (.bool (decide (orOk r.nm r.org)))∧Tch (fun _=>False) W w'):=fun W t=>isOrigin_r r.nm r.org W
 obtain⟨d2,hd2⟩: ∃d,d=decide (orOk r.nm r.org):=⟨_,rfl⟩
 have H2:Hid (d2=true ↔ orOk r.nm r.org):=by rw[hd2];exact decide_eq_true_iff
 rw[←hd2] at Q2
 clear hd2
 cases d1
 ·go_enter Tryz.func216,Tryz.ntmps216
  go_wp2_with fail
  refine(Q1.out _ (Tch.alloc _ _ _)).mono ?_
  rintro x w1 ⟨rfl,t1⟩
  have T1:Tch (fun _=>False) w w1:=(Tch.alloc _ _ _).trans' t1
  obtain⟨y0,y1,y2⟩:=HK.out w1 (t1)
  go_wp2_with fail
  go_ret
  exact eqT_no (fun e=>by have:=H1.out.2 e.1;simp at this) T1
 ·skip
  cases d2
  ·go_enter Tryz.func216,Tryz.ntmps216
   go_wp2_with fail
   refine(Q1.out _ (Tch.alloc _ _ _)).mono ?_
   rintro x w1 ⟨rfl,t1⟩
   have T1:Tch (fun _=>False) w w1:=(Tch.alloc _ _ _).trans' t1
   obtain⟨y0,y1,y2⟩:=HK.out w1 (t1)
   go_wp2_with fail
   refine(Q2.out _ T1).mono ?_
   rintro x w2 ⟨rfl,t2⟩
   have T2:Tch (fun _=>False) w w2:=T1.trans' t2
   go_wp2_with fail
   go_ret
   exact eqT_no (fun e=>by have:=H2.out.2 e.2;simp at this) T2
  ·go_enter Tryz.func216,Tryz.ntmps216
   go_wp2_with fail
   refine(Q1.out _ (Tch.alloc _ _ _)).mono ?_
   rintro x w1 ⟨rfl,t1⟩
   have T1:Tch (fun _=>False) w w1:=(Tch.alloc _ _ _).trans' t1
   obtain⟨y0,y1,y2⟩:=HK.out w1 (t1)
   go_wp2_with fail
   refine(Q2.out _ T1).mono ?_
   rintro x w2 ⟨rfl,t2⟩
   have T2:Tch (fun _=>False) w w2:=T1.trans' t2
   go_wp2_with fail
   go_ret
   exact⟨true,rfl,⟨fun _=>⟨H1.out.1 (by trivial),H2.out.1 (by trivial)⟩,fun _=>rfl⟩,T2⟩
theorem right_7 (r:Rc) (s:Sk) (F:Nat→Prop) (w:World) (_hg:HE w) (_h:RW w F r s):Calls Tryz.prog 221 #[.agg #[.int .i64 r.x,.string r.nm]] w fun x w'=>EqT (rightC 7 r) w x w':=by
 have HK:Hid (∀W,Tch (fun _=>False) (w.alloc (.cells #[.int .i64 r.x,.string r.nm] 139)) W→W.cell? ⟨w.heap.size,0,none⟩=some (.int .i64 r.x)∧W.cell? ⟨w.heap.size,1,none⟩=some (.string r.nm)):=fun W t=>⟨(t.cell (p:=⟨_,_,none⟩) (by simp) (fun h=>h)).trans (by simp),(t.cell (p:=⟨_,_,none⟩) (by simp) (fun h=>h)).trans (by simp)⟩
 have Q1:Hid (∀W,Tch (fun _=>False) w W→Calls Tryz.prog 188 #[.int .i64 r.x] W fun x w'=>x= .returned (.bool (decide (rtN r.x)))∧Tch (fun _=>False) W w'):=fun W t=>(isNumber_any r.x W).mono (fun x w1 h=>⟨h.1,by rw[h.2];exact Tch.refl _ _⟩)
 obtain⟨d1,hd1⟩: ∃d,d=decide (rtN r.x):=⟨_,rfl⟩
 have H1:Hid (d1=true ↔ rtN r.x):=by rw[hd1];exact decide_eq_true_iff
 rw[←hd1] at Q1
 clear hd1
 have Q2:Hid (∀W,Tch (fun _=>False) w W→Calls Tryz.prog 220 #[.string r.nm] W fun x w'=>x= .returned (.bool (decide (nmOk r.nm=true)))∧Tch (fun _=>False) W w'):=fun W t=>isName_r r.nm W
 obtain⟨d2,hd2⟩: ∃d,d=decide (nmOk r.nm=true):=⟨_,rfl⟩
 have H2:Hid (d2=true ↔ nmOk r.nm=true):=by rw[hd2];exact decide_eq_true_iff
 rw[←hd2] at Q2
 clear hd2
 cases d1
 ·go_enter Tryz.func221,Tryz.ntmps221
  go_wp2_with fail
  refine(Q1.out _ (Tch.alloc _ _ _)).mono ?_
  rintro x w1 ⟨rfl,t1⟩
  have T1:Tch (fun _=>False) w w1:=(Tch.alloc _ _ _).trans' t1
  obtain⟨y0,y1⟩:=HK.out w1 (t1)
  go_wp2_with fail
  go_ret
  exact eqT_no (fun e=>by have:=H1.out.2 e.1;simp at this) T1
 ·skip
  cases d2
  ·go_enter Tryz.func221,Tryz.ntmps221
   go_wp2_with fail
   refine(Q1.out _ (Tch.alloc _ _ _)).mono ?_
   rintro x w1 ⟨rfl,t1⟩
   have T1:Tch (fun _=>False) w w1:=(Tch.alloc _ _ _).trans' t1
   obtain⟨y0,y1⟩:=HK.out w1 (t1)
   go_wp2_with fail
   refine(Q2.out _ T1).mono ?_
   rintro x w2 ⟨rfl,t2⟩
   have T2:Tch (fun _=>False) w w2:=T1.trans' t2
   go_wp2_with fail
   go_ret
   exact eqT_no (fun e=>by have:=H2.out.2 e.2;simp at this) T2
  ·go_enter Tryz.func221,Tryz.ntmps221
   go_wp2_with fail
   refine(Q1.out _ (Tch.alloc _ _ _)).mono ?_
   rintro x w1 ⟨rfl,t1⟩
   have T1:Tch (fun _=>False) w w1:=(Tch.alloc _ _ _).trans' t1
   obtain⟨y0,y1⟩:=HK.out w1 (t1)
   go_wp2_with fail
   refine(Q2.out _ T1).mono ?_
   rintro x w2 ⟨rfl,t2⟩
   have T2:Tch (fun _=>False) w w2:=T1.trans' t2
   go_wp2_with fail
   go_ret
   exact⟨true,rfl,⟨fun _=>⟨H1.out.1 (by trivial),H2.out.1 (by trivial)⟩,fun _=>rfl⟩,T2⟩
theorem right_9 (r:Rc) (s:Sk) (F:Nat→Prop) (w:World) (_hg:HE w) (_h:RW w F r s):Calls Tryz.prog 231 #[.agg #[.int .i64 r.x,.int .i64 r.t]] w fun x w'=>EqT (rightC 9 r) w x w':=by
 have HK:Hid (∀W,Tch (fun _=>False) (w.alloc (.cells #[.int .i64 r.x,.int .i64 r.t] 143)) W→W.cell? ⟨w.heap.size,0,none⟩=some (.int .i64 r.x)∧W.cell? ⟨w.heap.size,1,none⟩=some (.int .i64 r.t)):=fun W t=>⟨(t.cell (p:=⟨_,_,none⟩) (by simp) (fun h=>h)).trans (by simp),(t.cell (p:=⟨_,_,none⟩) (by simp) (fun h=>h)).trans (by simp)⟩
 have Q1:Hid (∀W,Tch (fun _=>False) w W→Calls Tryz.prog 188 #[.int .i64 r.x] W fun x w'=>x= .returned (.bool (decide (rtN r.x)))∧Tch (fun _=>False) W w'):=fun W t=>(isNumber_any r.x W).mono (fun x w1 h=>⟨h.1,by rw[h.2];exact Tch.refl _ _⟩)
 obtain⟨d1,hd1⟩: ∃d,d=decide (rtN r.x):=⟨_,rfl⟩
 have H1:Hid (d1=true ↔ rtN r.x):=by rw[hd1];exact decide_eq_true_iff
 rw[←hd1] at Q1
 clear hd1
 have Q2:Hid (∀W,Tch (fun _=>False) w W→Calls Tryz.prog 188 #[.int .i64 r.t] W fun x w'=>x= .returned (.bool (decide (rtN r.t)))∧Tch (fun _=>False) W w'):=fun W t=>(isNumber_any r.t W).mono (fun x w1 h=>⟨h.1,by rw[h.2];exact Tch.refl _ _⟩)
 obtain⟨d2,hd2⟩: ∃d,d=decide (rtN r.t):=⟨_,rfl⟩
 have H2:Hid (d2=true ↔ rtN r.t):=by rw[hd2];exact decide_eq_true_iff
 rw[←hd2] at Q2
 clear hd2
 cases d1
 ·go_enter Tryz.func231,Tryz.ntmps231
  go_wp2_with fail
  refine(Q1.out _ (Tch.alloc _ _ _)).mono ?_
  rintro x w1 ⟨rfl,t1⟩
  have T1:Tch (fun _=>False) w w1:=(Tch.alloc _ _ _).trans' t1
  obtain⟨y0,y1⟩:=HK.out w1 (t1)
  go_wp2_with fail
  go_ret
  exact eqT_no (fun e=>by have:=H1.out.2 e.1;simp at this) T1
 ·skip
  cases d2
  ·go_enter Tryz.func231,Tryz.ntmps231
   go_wp2_with fail
   refine(Q1.out _ (Tch.alloc _ _ _)).mono ?_
   rintro x w1 ⟨rfl,t1⟩
   have T1:Tch (fun _=>False) w w1:=(Tch.alloc _ _ _).trans' t1
   obtain⟨y0,y1⟩:=HK.out w1 (t1)
   go_wp2_with fail
   refine(Q2.out _ T1).mono ?_
   rintro x w2 ⟨rfl,t2⟩
   have T2:Tch (fun _=>False) w w2:=T1.trans' t2
   go_wp2_with fail
   go_ret
   exact eqT_no (fun e=>by have:=H2.out.2 e.2;simp at this) T2
  ·go_enter Tryz.func231,Tryz.ntmps231
   go_wp2_with fail
   refine(Q1.out _ (Tch.alloc _ _ _)).mono ?_
   rintro x w1 ⟨rfl,t1⟩
   have T1:Tch (fun _=>False) w w1:=(Tch.alloc _ _ _).trans' t1
   obtain⟨y0,y1⟩:=HK.out w1 (t1)
   go_wp2_with fail
   refine(Q2.out _ T1).mono ?_
   rintro x w2 ⟨rfl,t2⟩
   have T2:Tch (fun _=>False) w w2:=T1.trans' t2
   go_wp2_with fail
   go_ret
   exact⟨true,rfl,⟨fun _=>⟨H1.out.1 (by trivial),H2.out.1 (by trivial)⟩,fun _=>rfl⟩,T2⟩
theorem right_8 (r:Rc) (s:Sk) (F:Nat→Prop) (w:World) (_hg:HE w) (h:RW w F r s):Calls Tryz.prog 224 #[.agg #[.int .i64 r.x,.int .i64 r.tb.id,.int .i64 r.tb.ver,.string r.tb.nm,.slice s.co r.tb.cols.length s.cc,.int .i64 r.tb.key]] w fun x w'=>EqT (rightC 8 r) w x w':=by
 have q1:=isNumber_any r.x
 have HQ2:Hid (∀W,Tch (fun _=>False) w W→Calls Tryz.prog 26 #[tA r.tb.id r.tb.ver r.tb.nm (.slice s.co r.tb.cols.length s.cc) r.tb.key] W fun x w'=>x= .returned (.int .i64 (rightE r.tb))∧Tch (fun _=>False) W w'):=fun W t=>right_any r.tb s.co s.cc W ((h.no t).tb.sl) h.tb.cap h.cl
 obtain⟨d1,hd1⟩: ∃d,d=decide (rtN r.x):=⟨_,rfl⟩
 have H1:Hid (d1=true ↔ rtN r.x):=by rw[hd1];exact decide_eq_true_iff
 rw[←hd1] at q1
 obtain⟨E,hE⟩: ∃E,E=rightE r.tb:=⟨_,rfl⟩
 have HE:Hid (E=rightE r.tb):=hE
 rw[←hE] at HQ2
 obtain⟨n,hn⟩: ∃n,n=r.tb.cols.length:=⟨_,rfl⟩
 rw[←hn] at HQ2 ⊢
 have HQ1:Hid _:=q1
 clear hd1 h _hg hE q1 hn
 cases d1
 ·go_enter Tryz.func224,Tryz.ntmps224
  go_wp2_with fail
  refine(HQ1.out _).mono ?_
  rintro x w1 ⟨rfl,rfl⟩
  go_wp2_with fail
  go_ret
  exact eqT_no (fun e=>by have:=H1.out.2 e.1;simp at this) (Tch.alloc _ _ _)
 ·by_cases hE0:E=0
  ·have hE1:(E==0)=true:=int_eq' hE0
   go_enter Tryz.func224,Tryz.ntmps224
   go_wp2_with fail
   refine(HQ1.out _).mono ?_
   rintro x w1 ⟨rfl,rfl⟩
   go_wp2_with fail
   refine(HQ2.out _ (Tch.alloc _ _ _)).mono ?_
   rintro x w1 ⟨rfl,t1⟩
   go_wp2_with fail
   go_ret
   exact⟨true,rfl,⟨fun _=>⟨H1.out.1 (by trivial),HE.out.symm.trans hE0⟩,fun _=>rfl⟩,(Tch.alloc _ _ _).trans' t1⟩
  ·have hE1:(E==0)=false:=int_ne hE0
   go_enter Tryz.func224,Tryz.ntmps224
   go_wp2_with fail
   refine(HQ1.out _).mono ?_
   rintro x w1 ⟨rfl,rfl⟩
   go_wp2_with fail
   refine(HQ2.out _ (Tch.alloc _ _ _)).mono ?_
   rintro x w1 ⟨rfl,t1⟩
   go_wp2_with fail
   go_ret
   exact eqT_no (fun e=>hE0 (HE.out.trans e.2)) ((Tch.alloc _ _ _).trans' t1)
end Go.Proofs.YtaiadknglhemaaaGreatDoor.C
