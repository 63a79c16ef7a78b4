import Derived.Test.YtnjiiebjdpipjaaTCmp
import Derived.Test.YtnjiiebjdpipjaaSTWk1
import Derived.Deep.LoopGhost
/- The iterator of a tree. -/
namespace Go.Proofs.Ytnjiiebjdpipjaa.S
open Go.RowKit Go Go.Shelf
attribute [local go_sem] Oper.semAt_some

theorem wlk_nil (f o : ByteArray) (d : Bool) : wlk f o d [] = [] := by cases d <;> rfl
set_option maxHeartbeats 4000000 in
set_option maxRecDepth 100000 in
/-- Nothing is under no node. -/
theorem walk1_nil (n bn bs : Nat) (w : World) (hbn : w.heap[bn]? = some (.cells #[.pointer none] 78 (0, 0))) :
    SeqL n Try.prog 92 #[pv bn, pv bs] eI (fun k => k = bn ∨ k = bs) [] w := by
  intro l J Jx T Z W hl hlW tW hT hZ aJ aJx hY h0
  obtain ⟨W0, hW0⟩ : ∃ W0, W0 = W.alloc (.cells #[yF l] 106) := ⟨_, rfl⟩
  have t0 : Tch (fun _ => False) W W0 := by rw [hW0]; exact Tch.alloc _ _ _
  have hb0 : W0.heap[bn]? = some (.cells #[.pointer none] 78 (0, 0)) := ((tW.trans' t0).block _ (blk_lt hbn) (fun h => h)).trans hbn
  have x0 : W0.cell? ⟨bn, 0, none⟩ = some (.pointer none) := by rw [blk_cell hb0]; rfl
  have HJ0 : Hid (J [] Z W0) := aJ _ _ _ _ h0 (t0.mono (fun _ _ h => h.elim))
  have HaJ : Hid (Abl l J) := aJ
  have HW0 : Hid (W0 = W.alloc (.cells #[yF l] 106)) := hW0
  refine callsIn_of_wp_marks Try.func92 rfl trivial ?_ rfl
  simp only [Try.ntmps92, List.size_toArray, List.length_cons, List.length_nil, Nat.reduceAdd, Nat.reduceSub, Array.replicate_succ, Array.replicate_zero, List.push_toArray, List.append_toArray, List.nil_append, List.cons_append]
  refine wpIn_wide.2 ?_
  rw [hW0] at x0
  clear hW0 hbn tW t0 h0 hb0 hZ aJ aJx hY hT hl hlW
  go_wp2_with fail
  refine leaves_marks [] _ (fun d hd => (by cases hd)) List.nodup_nil (fun W' tt => ?_)
  refine ⟨_, results_none rfl _ _ _, ⟨_, rfl⟩, Z, .inl ?_⟩
  have hj := HJ0.out
  rw [HW0.out] at hj
  exact HaJ.out _ _ _ _ hj (tt.mono (fun _ _ h => by cases h))

theorem TW.so {w : World} {b : Nat} {l : List It} {ht : Nat} {F : List Nat} (h : TW w b l ht F) : Sorted l := h.2.1
/-- The root of a tree, and the iterator of it. -/
theorem TW.root {w : World} {b : Nat} {l : List It} {ht : Nat} {F : List Nat} (h : TW w b l ht F) : ∃ v : Option Addr, w.heap[b]? = some (.cells #[.pointer v] 80 (0, 0)) ∧ b ∈ F ∧
    ∀ (n : Nat) (W2 : World) (B : Nat) (f o : ByteArray) (d : Bool), TW W2 b l ht F → W2.heap[b]? = some (.cells #[.pointer v] 80 (0, 0)) → W2.heap[B]? = some (.cells #[.pointer v] 78 (0, 0)) → W2.heap[B + 1]? = some (.cells #[.string f, .string o, .bool d] 90 (0, 0)) →
      ∃ Yk : Nat → Prop, (∀ k, Yk k → k ∈ F ∨ k = B ∨ k = B + 1) ∧ SeqL n Try.prog 92 #[pv B, pv (B + 1)] eI Yk (wlk f o d l) W2 := by
  obtain ⟨_, hs, ⟨rfl, rfl, rfl, hb⟩ | ⟨h, t, p, G, rfl, hb, hN, hok, h1, rfl, rfl⟩⟩ := h
  · refine ⟨none, hb, by simp, fun n W2 B f o d _ _ hB _ => ⟨_, fun k hk => .inr hk, ?_⟩⟩
    rw [wlk_nil]
    exact walk1_nil n B (B + 1) W2 hB
  · refine ⟨_, hb, by simp, fun n W2 B f o d h2 hb2 hB hB1 => ?_⟩
    obtain ⟨_, _, ⟨_, e, _⟩ | ⟨h', t', p', G', e1, hb', hN', hok', h1', e2, e3⟩⟩ := h2
    · omega
    · have eh : h = h' := by omega
      subst eh
      have ep : p = p' := by
        rw [hb2] at hb'
        injection hb' with hb'
        injection hb' with hb'
        have hb' := congrArg (fun a : Array Value => a.getD 0 undef) hb'
        injection hb' with hb'
        injection hb' with hb'
        injection hb'
      subst ep
      have e4 : G = G' := by injection e3
      subst e4
      rw [← e2]
      refine ⟨_, fun k hk => ?_, walk1_all h n t' p G B (B + 1) f o d W2 hN' hok' (by rw [e2]; exact hs) hB hB1⟩
      rcases hk with hk | hk
      · exact .inl (by simp [hk])
      · exact .inr hk

set_option maxHeartbeats 4000000 in
set_option maxRecDepth 100000 in
theorem over1_any (n : Nat) (w : World) (b : Nat) (l0 : List It) (ht : Nat) (F : List Nat) (bt bs : Nat) (f o : ByteArray) (d : Bool) (hTW : TW w b l0 ht F) (hbt : w.heap[bt]? = some (.cells #[pv b] 36 (0, 0))) (hbs : w.heap[bs]? = some (.cells #[.string f, .string o, .bool d] 90 (0, 0))) :
    SeqL n Try.prog 66 #[pv bt, pv bs] eI (fun k => k ∈ F ∨ k = bt ∨ k = bs) (wlk f o d l0) w := by
  intro l J Jx T Z W hl hlW tW hT hZ aJ aJx hY h0
  obtain ⟨Y, hYd⟩ : ∃ Y : Nat → Prop, Y = fun k => k ∈ F ∨ k = bt ∨ k = bs := ⟨_, rfl⟩
  rw [← hYd] at hT hZ
  have hYw : ∀ k, Y k → k < w.heap.size := fun k hk => by
    rw [hYd] at hk
    rcases hk with hk | rfl | rfl
    · exact hTW.lt k hk
    · exact blk_lt hbt
    · exact blk_lt hbs
  obtain ⟨v, hv, hbF, hroot⟩ := hTW.root
  have HR : Hid (∀ W1, Tch (fun k => ¬ Y k) w W1 → TW W1 b l0 ht F ∧ W1.heap[bt]? = some (.cells #[pv b] 36 (0, 0)) ∧ W1.heap[bs]? = some (.cells #[.string f, .string o, .bool d] 90 (0, 0)) ∧ W1.heap[b]? = some (.cells #[.pointer v] 80 (0, 0))) := fun W1 t1 => by
    have hG : ∀ k ∈ F, ¬ ¬ Y k := fun k hk hn => hn (by rw [hYd]; exact .inl hk)
    exact ⟨hTW.tch t1 hG, (t1.block _ (blk_lt hbt) (fun hn => hn (by rw [hYd]; exact .inr (.inl rfl)))).trans hbt, (t1.block _ (blk_lt hbs) (fun hn => hn (by rw [hYd]; exact .inr (.inr rfl)))).trans hbs, (t1.block _ (blk_lt hv) (hG b hbF)).trans hv⟩
  have Hroot : Hid (∀ (n : Nat) (W2 : World) (B : Nat), TW W2 b l0 ht F → W2.heap[b]? = some (.cells #[.pointer v] 80 (0, 0)) → W2.heap[B]? = some (.cells #[.pointer v] 78 (0, 0)) → W2.heap[B + 1]? = some (.cells #[.string f, .string o, .bool d] 90 (0, 0)) →
      ∃ Yk : Nat → Prop, (∀ k, Yk k → k ∈ F ∨ k = B ∨ k = B + 1) ∧ SeqL n Try.prog 92 #[pv B, pv (B + 1)] eI Yk (wlk f o d l0) W2) := fun n W2 B h1 h2 h3 h4 => hroot n W2 B f o d h1 h2 h3 h4
  obtain ⟨yb, hyb⟩ : ∃ yb, yb = W.heap.size := ⟨_, rfl⟩
  obtain ⟨W0, hW0⟩ : ∃ W0, W0 = W.alloc (.cells #[yF l] 106) := ⟨_, rfl⟩
  have t0 : Tch (fun _ => False) W W0 := by rw [hW0]; exact Tch.alloc _ _ _
  have HS0 : Hid (WS w l Y yb [] Z W0) := ⟨(tW.trans' t0).mono (fun _ _ h => h.elim), by omega, fun h => by have := (hZ _ h).1; omega, by rw [hW0, hyb]; exact alloc_new _ _, fun d hd => (by cases hd), List.nodup_nil, fun k hk => ⟨Nat.lt_of_lt_of_le (hZ k hk).1 t0.size, (hZ k hk).2⟩⟩
  have HJ0 : Hid (J [] Z W0) := aJ _ _ _ _ h0 (t0.mono (fun _ _ h => h.elim))
  obtain ⟨hT0, hbt0, hbs0, hv0⟩ := HR.out W0 HS0.out.tw
  have HaJ : Hid (Abl l J ∧ Abl l Jx) := ⟨aJ, aJx⟩
  have HY : Hid (∀ m pre x Z1 W1, pre ++ [x] <+: wlk f o d l0 → J pre Z1 W1 → YieldAt Fence.wide m Try.prog l (eI x) W1 (Rnd T Z1 W1 (J (pre ++ [x])) (Jx (pre ++ [x])))) := hY
  have HT : Hid (∀ k, T k → k ≤ l ∧ ¬ Y k) := hT
  have HYw : Hid (∀ k, Y k → k < w.heap.size) := hYw
  have HYd : Hid (Y = fun k => k ∈ F ∨ k = bt ∨ k = bs) := hYd
  have HlW : Hid (l < W0.heap.size) := Nat.lt_trans HS0.out.ylt (blk_lt HS0.out.yc)
  have x0 : W0.cell? ⟨bt, 0, none⟩ = some (pv b) := by rw [blk_cell hbt0]; rfl
  have x1 : W0.cell? ⟨bs, 0, none⟩ = some (.string f) := by rw [blk_cell hbs0]; rfl
  have x2 : W0.cell? ⟨bs, 1, none⟩ = some (.string o) := by rw [blk_cell hbs0]; rfl
  have x3 : W0.cell? ⟨bs, 2, none⟩ = some (.bool d) := by rw [blk_cell hbs0]; rfl
  have x4 : W0.cell? ⟨b, 0, none⟩ = some (.pointer v) := by rw [blk_cell hv0]; rfl
  obtain ⟨C, hC⟩ : ∃ C : List Value → World → Prop, C = fun s W2 => match s with
    | [] => Tch (fun _ => False) W0 W2
    | [x] => ∃ B, x = .func (.func 92) #[] #[pv B, pv (B + 1)] ∧ Tch (fun _ => False) W0 W2 ∧ W0.heap.size ≤ B ∧ W2.heap[B]? = some (.cells #[.pointer v] 78 (0, 0)) ∧ W2.heap[B + 1]? = some (.cells #[.string f, .string o, .bool d] 90 (0, 0))
    | _ => False := ⟨_, rfl⟩
  have hKC : ∀ s W2, C s W2 → W2.cell? ⟨bt, 0, none⟩ = some (pv b) ∧ W2.cell? ⟨bs, 0, none⟩ = some (.string f) ∧ W2.cell? ⟨bs, 1, none⟩ = some (.string o) ∧ W2.cell? ⟨bs, 2, none⟩ = some (.bool d) ∧ W2.cell? ⟨b, 0, none⟩ = some (.pointer v) := fun s W2 h => by
    have hh : Tch (fun _ => False) W0 W2 := by
      rw [hC] at h
      match s, h with
      | [], h => exact h
      | [_], ⟨_, _, h, _⟩ => exact h
    exact ⟨(hh.cell (blk_lt hbt0) (fun h => h)).trans x0, (hh.cell (blk_lt hbs0) (fun h => h)).trans x1, (hh.cell (blk_lt hbs0) (fun h => h)).trans x2, (hh.cell (blk_lt hbs0) (fun h => h)).trans x3, (hh.cell (blk_lt hv0) (fun h => h)).trans x4⟩
  have HCt : ∀ W2, C [] W2 → Calls Try.prog 67 #[.pointer v, spV f o d] W2 fun x w' => ∃ y, x = .returned y ∧ C [y] w' := fun W2 h => by
    rw [hC] at h
    refine (walk_any v f o d W2).mono ?_
    rintro x w' ⟨rfl, rfl⟩
    refine ⟨_, rfl, ?_⟩
    rw [hC]
    have hh : Tch (fun _ => False) W0 W2 := h
    refine ⟨W2.heap.size, rfl, (hh.allocR _).allocR _, hh.size, ?_, ?_⟩
    · rw [Below.heap_alloc _ _ _ (by simp)]; exact alloc_new _ _
    · have := alloc_new (W2.alloc (.cells #[.pointer v] 78)) (.cells #[.string f, .string o, .bool d] 90)
      rw [World.size_alloc] at this
      exact this
  have HCe : Hid (∀ y W2, C [y] W2 → ∃ B, y = .func (.func 92) #[] #[pv B, pv (B + 1)] ∧ Tch (fun _ => False) W0 W2 ∧ W0.heap.size ≤ B ∧ W2.heap[B]? = some (.cells #[.pointer v] 78 (0, 0)) ∧ W2.heap[B + 1]? = some (.cells #[.string f, .string o, .bool d] 90 (0, 0))) := fun y W2 h => by
    rw [hC] at h
    exact h
  have h0' : C [] W0.drew := by rw [hC]; exact (Tch.refl _ _).drew
  have HW0 : Hid (W0 = W.alloc (.cells #[yF l] 106)) := hW0
  have HYb : Hid (yb = W.heap.size) := hyb
  refine callsIn_of_wp_marks Try.func66 rfl trivial ?_ rfl
  simp only [Try.ntmps66, List.size_toArray, List.length_cons, List.length_nil, Nat.reduceAdd, Nat.reduceSub, Array.replicate_succ, Array.replicate_zero, List.push_toArray, List.append_toArray, List.nil_append, List.cons_append]
  refine wpIn_wide.2 ?_
  clear hC hW0 hyb hTW hbt hbs tW t0 h0 hT0 hbt0 hbs0 hv0 hZ aJ aJx hY hT hYw hYd hl hlW hv hbF hroot x0 x1 x2 x3 x4
  go_wp2_with fail
  have hw := HW0.out
  change W0 = W.alloc (Obj.cells #[Value.func (Fn.yield l) #[] #[]] 106) at hw
  rw [← hw]
  have hyb := HYb.out
  rw [← hyb]
  clear hw hyb HYb HW0
  refine wp_region_barv [5] C (by kernel_rfl) (by kernel_rfl) (by kernel_rfl) h0' ?_
  clear h0'
  refine barv_read (by go_simp) (by rfl) ?_
  apply Exists.intro
  refine ⟨fun s' Wy hW b K Q hK' => ?_, fun K hK' => ?_⟩
  · obtain ⟨v0, v1, v2, v3, v4⟩ := hKC _ Wy hW
    go_simp
    exact hK' Wy hW
  go_simp
  refine hK' _ ?_
  clear hK' K
  refine barv_read (by go_simp) (by rfl) ?_
  apply Exists.intro
  refine ⟨fun s' Wy hW b K Q hK' => ?_, fun K hK' => ?_⟩
  · obtain ⟨v0, v1, v2, v3, v4⟩ := hKC _ Wy hW
    go_simp
    exact hK' Wy hW
  go_simp
  refine hK' _ ?_
  clear hK' K
  refine barv_read (by go_simp) (by rfl) ?_
  apply Exists.intro
  refine ⟨fun s' Wy hW b K Q hK' => ?_, fun K hK' => ?_⟩
  · obtain ⟨v0, v1, v2, v3, v4⟩ := hKC _ Wy hW
    go_simp
    exact hK' Wy hW
  go_simp
  refine hK' _ ?_
  clear hK' K
  refine barv_read (by go_simp) (by rfl) ?_
  apply Exists.intro
  refine ⟨fun s' Wy hW b K Q hK' => ?_, fun K hK' => ?_⟩
  · obtain ⟨v0, v1, v2, v3, v4⟩ := hKC _ Wy hW
    go_simp
    exact hK' Wy hW
  go_simp
  refine hK' _ ?_
  clear hK' K
  refine barv_read (by go_simp) (by rfl) ?_
  apply Exists.intro
  refine ⟨fun s' Wy hW b K Q hK' => ?_, fun K hK' => ?_⟩
  · obtain ⟨v0, v1, v2, v3, v4⟩ := hKC _ Wy hW
    go_simp
    exact hK' Wy hW
  go_simp
  refine hK' _ ?_
  clear hK' K
  refine barv_turn (by go_simp) (by rfl) (fun Wy hW b K Q hK' => ?_) (fun y hy K hK' => ?_)
  · go_simp
    go_at_call 67
    refine (HCt Wy hW).mono ?_
    rintro x w' ⟨y, rfl, h1⟩
    exact hK' y w' h1
  obtain ⟨B, hBv⟩ : ∃ B, y = .func (.func 92) #[] #[pv B, pv (B + 1)] := by
    obtain ⟨Wy, hW⟩ := hy
    obtain ⟨B, hBv, _⟩ := HCe.out y Wy hW
    exact ⟨B, hBv⟩
  clear hy HCt hKC
  subst hBv
  go_simp
  refine hK' _ ?_
  clear hK' K
  refine barv_nil ?_
  intro W2 hW2
  have HB : Hid (Tch (fun _ => False) W0 W2 ∧ W0.heap.size ≤ B ∧ W2.heap[B]? = some (.cells #[.pointer v] 78 (0, 0)) ∧ W2.heap[B + 1]? = some (.cells #[.string f, .string o, .bool d] 90 (0, 0))) := by
    obtain ⟨B', e, h1, h2, h3, h4⟩ := HCe.out _ W2 hW2
    have e' : B = B' := by
      injection e with _ _ e
      have e := congrArg (fun a : Array Value => a.getD 0 undef) e
      injection e with e
      injection e with e
      injection e
    subst e'
    exact ⟨h1, h2, h3, h4⟩
  clear hW2 HCe
  go_wp2_with fail
  refine (wpIn_wide (n := n)).1 ?_
  have HS2 : Hid (WS w l Y yb [] Z W2) := HS0.out.new HB.out.1
  have HJ2 : Hid (J [] Z W2) := HaJ.out.1 _ _ _ _ HJ0.out (HB.out.1.mono (fun _ _ h => h.elim))
  have HZr : Hid (∀ y, Z y → y < W0.heap.size ∧ ¬ Y y) := HS0.out.zb
  clear HS0 HJ0
  obtain ⟨Yk, hYk, hse⟩ := Hroot.out (n - 1) W2 B (HR.out W2 HS2.out.tw).1 (HR.out W2 HS2.out.tw).2.2.2 HB.out.2.2.1 HB.out.2.2.2
  have HY2 : Hid (∀ k, Yk k → k < W2.heap.size ∧ ¬ T k ∧ ¬ Z k) := fun x hx => by
    have hw : W0.heap.size ≤ B := HB.out.2.1
    have hzb : ∀ y, Z y → y < W0.heap.size ∧ ¬ Y y := HZr.out
    rcases hYk x hx with hx | rfl | rfl
    · have hy : Y x := by have := HYd.out; rw [this]; exact .inl hx
      exact ⟨Nat.lt_of_lt_of_le (HYw.out x hy) HS2.out.tw.size, fun h => (HT.out x h).2 hy, fun h => (HS2.out.zb x h).2 hy⟩
    · exact ⟨blk_lt HB.out.2.2.1, fun h => by have := (HT.out _ h).1; have := HlW.out; omega, fun h => by have := (hzb _ h).1; omega⟩
    · exact ⟨blk_lt HB.out.2.2.2, fun h => by have := (HT.out _ h).1; have := HlW.out; omega, fun h => by have := (hzb _ h).1; omega⟩
  refine range_l (T := T) (Z := Z) rfl (enters_of Try.func92 (by kernel_rfl) rfl) hse (fun _ => rfl) (fun x hx => ⟨by have := (HT.out x hx).1; have := HlW.out; have := HB.out.1.size; omega, fun hy => (HY2.out x hy).2.1 hx⟩) (fun x hx => ⟨(HS2.out.zb x hx).1, fun hy => (HY2.out x hy).2.2 hx⟩) (fun x hx => (HY2.out x hx).1)
    (fun pre Z' W' => WS w l Y yb [] Z' W' ∧ J pre Z' W')
    (fun cc pre Z' W' => cc = .ret ∧ WS w l Y yb [] Z' W' ∧ Jx pre Z' W')
    ?abI ?abX ⟨HS2.out, HJ2.out⟩ (fun x => { tmps := #[yF l, pv bt, pv bs, pv yb, .string x.1, ev x.2, pv b, pv b, pv b, .pointer v, .agg #[.string f, .string o, .bool d], .func (.func 92) #[] #[pv B, pv (B + 1)], .string x.1, ev x.2, undef, undef, undef, undef, undef], defers := [] }) ?assign ?body ?done ?stop
  case abI =>
    rintro pre Z' W' W'' ⟨hs, hj⟩ tt
    exact ⟨hs.tch tt (fun x hx => ⟨fun hy => by have := HS2.out.lt HYw.out (.inl hy); omega, fun e => by have := HS2.out.lt HYw.out (.inr (.inl e)); omega, fun hd => by cases hd⟩), HaJ.out.1 _ _ _ _ hj (tt.mono (fun x _ hx => ⟨by have := HlW.out; have := HB.out.1.size; omega, hx.2⟩))⟩
  case abX =>
    rintro cc pre Z' W' W'' ⟨hcc, hs, hj⟩ tt
    exact ⟨hcc, hs.tch tt (fun x hx => ⟨fun hy => by have := HS2.out.lt HYw.out (.inl hy); omega, fun e => by have := HS2.out.lt HYw.out (.inr (.inl e)); omega, fun hd => by cases hd⟩), HaJ.out.2 _ _ _ _ hj (tt.mono (fun x _ hx => ⟨by have := HlW.out; have := HB.out.1.size; omega, hx.2⟩))⟩
  case assign =>
    intro l' x Wx K hK
    clear HJ2 HS2 HR hse HY2 Hroot
    gi_wp2
    exact hK
  case body =>
    rintro l' pre x Z' Wb hpre ⟨hs, hj⟩
    have hyc : Wb.cell? ⟨yb, 0, none⟩ = some (yF l) := by rw [blk_cell hs.yc]; rfl
    obtain ⟨fn, tmps, assign, body, hy, hR⟩ := YieldAt.inRound l' (HY.out (n - 1 - 1 - 1) _ x Z' Wb hpre hj)
    have Hs : Hid (WS w l Y yb [] Z' Wb) := hs
    clear hj hs hpre HJ2 HS2 HR hse HY2 Hroot
    gi_wp2_with fail
    refine ⟨fun h => (by cases h), hR.mono ?_⟩
    rintro e W3 ⟨Z2, hz2, t3, (⟨rfl, hJ3⟩ | ⟨rfl, hx3⟩)⟩
    · have HL : Hid (Lft T Z' Wb W3 (fun Z' W' => WS w l Y yb [] Z' W' ∧ J (pre ++ [x]) Z' W')) := ⟨Z2, hz2, t3, Hs.out.round HYw.out HT.out hz2 t3, hJ3⟩
      clear hR hy hyc hJ3 hz2 t3
      gi_wp2_with fail
      exact HL.out
    · have HL : Hid (Lft T Z' Wb W3 (fun Z' W' => WS w l Y yb [] Z' W' ∧ Jx (pre ++ [x]) Z' W')) := ⟨Z2, hz2, t3, Hs.out.round HYw.out HT.out hz2 t3, hx3⟩
      clear hR hy hyc hx3 hz2 t3
      gi_wp2_with fail
      obtain ⟨Z3, g1, g2, g3, g4⟩ := HL.out
      exact ⟨Z3, g1, g2, rfl, g3, g4⟩
  case done =>
    rintro D Z' W' hD hzD ⟨hs, hj⟩ hK
    have HS3 : Hid (WS w l Y yb [D] Z' W') := hs.mark D (by have := HlW.out; have := HB.out.1.size; omega) hzD hK (by simp)
    have HJ3 : Hid (J (wlk f o d l0) Z' W') := hj
    clear hs hj hK hD hzD HJ2 HS2 HR hse HY2 Hroot
    gi_wp2_with fail
    refine leaves_marks [D] _ (fun d hd => (HS3.out.md d hd).2.2) HS3.out.nod (fun W' tt => ?_)
    refine ⟨_, results_none rfl _ _ _, ⟨_, rfl⟩, Z', .inl (HaJ.out.1 _ _ _ _ HJ3.out (tt.mono (fun d _ hd => ⟨(HS3.out.md d hd).1, (HS3.out.md d hd).2.1⟩)))⟩
  case stop =>
    rintro D cc pre Z' W' hD hzD hpre ⟨rfl, hs, hx⟩ hK
    have HS3 : Hid (WS w l Y yb [D] Z' W') := hs.mark D (by have := HlW.out; have := HB.out.1.size; omega) hzD hK (by simp)
    have Hx3 : Hid (Jx pre Z' W') := hx
    have Hpr : Hid (pre <+: wlk f o d l0) := hpre
    clear hs hx hK hD hzD hpre HJ2 HS2 HR hse HY2 Hroot
    gi_wp2_with fail
    refine leaves_marks [D] _ (fun d hd => (HS3.out.md d hd).2.2) HS3.out.nod (fun W' tt => ?_)
    refine ⟨_, results_none rfl _ _ _, ⟨_, rfl⟩, Z', .inr ⟨_, Hpr.out, HaJ.out.2 _ _ _ _ Hx3.out (tt.mono (fun d _ hd => ⟨(HS3.out.md d hd).1, (HS3.out.md d hd).2.1⟩))⟩⟩
set_option maxHeartbeats 2000000 in
set_option maxRecDepth 100000 in
theorem over_any (b : Nat) (f o : ByteArray) (d : Bool) (w : World) : Calls Try.prog 40 #[pv b, spV f o d] w fun x w' => x = .returned (.func (.func 66) #[] #[pv w.heap.size, pv (w.heap.size + 1)]) ∧ w' = (w.alloc (.cells #[pv b] 36)).alloc (.cells #[.string f, .string o, .bool d] 90) := by
  go_enter Try.func40, Try.ntmps40
  go_wp2_with fail
  go_ret
  exact ⟨by simp, rfl⟩
set_option maxHeartbeats 2000000 in
set_option maxRecDepth 100000 in
theorem range_any (b : Nat) (f o : ByteArray) (w : World) : Calls Try.prog 19 #[pv b, .string f, .string o] w fun x w' => x = .returned (.func (.func 66) #[] #[pv w.heap.size, pv (w.heap.size + 1)]) ∧ w' = (w.alloc (.cells #[pv b] 36)).alloc (.cells #[.string f, .string o, .bool false] 90) := by
  have q := over_any b f o false w
  go_enter Try.func19, Try.ntmps19
  go_wp2_with fail
  refine q.mono ?_
  rintro x w' ⟨rfl, rfl⟩
  clear q
  go_wp2_with fail
  go_ret
  exact ⟨rfl, rfl⟩
end Go.Proofs.Ytnjiiebjdpipjaa.S
/- Keys in their order; items. -/
namespace Go.Proofs.Ytnjiiebjdpipjaa
open Go.RowKit Go

theorem cb_self : ∀ x : List UInt8, Lib.compareBytes x x = 0
  | [] => rfl
  | a :: x => by
    have h : ¬ a < a := UInt8.lt_irrefl a
    rw [Lib.compareBytes, if_neg h, if_neg h]; exact cb_self x
theorem cb_eq : ∀ {x y : List UInt8}, Lib.compareBytes x y = 0 → x = y
  | [], [], _ => rfl
  | [], _ :: _, h => by simp [Lib.compareBytes] at h
  | _ :: _, [], h => by simp [Lib.compareBytes] at h
  | a :: x, b :: y, h => by
    rw [Lib.compareBytes] at h
    split at h
    · cases h
    · split at h
      · cases h
      · rename_i h1 h2
        have e : a = b := UInt8.le_antisymm (UInt8.not_lt.1 h2) (UInt8.not_lt.1 h1)
        rw [e, cb_eq h]
theorem cb_flip : ∀ (x y : List UInt8), Lib.compareBytes y x = - Lib.compareBytes x y
  | [], [] => rfl
  | [], _ :: _ => rfl
  | _ :: _, [] => rfl
  | a :: x, b :: y => by
    have ih := cb_flip x y
    simp only [Lib.compareBytes]
    by_cases h1 : a < b
    · have h2 : ¬ b < a := fun h => UInt8.lt_irrefl a (UInt8.lt_trans h1 h)
      simp [h1, h2]
    · by_cases h2 : b < a
      · simp [h1, h2]
      · simp [h1, h2, ih]
theorem cb_trans : ∀ {x y z : List UInt8}, Lib.compareBytes x y < 0 → Lib.compareBytes y z < 0 → Lib.compareBytes x z < 0
  | [], [], _, h, _ => by simp [Lib.compareBytes] at h
  | _ :: _, [], _, h, _ => by simp [Lib.compareBytes] at h
  | _, _ :: _, [], _, h => by simp [Lib.compareBytes] at h
  | [], _ :: _, _ :: _, _, _ => by simp [Lib.compareBytes]
  | a :: x, b :: y, c :: z, h1, h2 => by
    simp only [Lib.compareBytes] at *
    by_cases ab : a < b
    · by_cases bc : b < c
      · simp [UInt8.lt_trans ab bc]
      · by_cases cb : c < b
        · simp [bc, cb] at h2
        · have e : b = c := UInt8.le_antisymm (UInt8.not_lt.1 cb) (UInt8.not_lt.1 bc)
          subst e; simp [ab]
    · by_cases ba : b < a
      · simp [ab, ba] at h1
      · have e : a = b := UInt8.le_antisymm (UInt8.not_lt.1 ba) (UInt8.not_lt.1 ab)
        subst e
        by_cases bc : a < c
        · simp [bc]
        · by_cases cb : c < a
          · simp [bc, cb] at h2
          · simp only [ab, bc, cb, if_false] at *
            exact cb_trans h1 h2
/-- What a key is against another one. -/
def kc (a b : ByteArray) : Int := Lib.compareBytes a.data.toList b.data.toList
theorem kc_self (a : ByteArray) : kc a a = 0 := cb_self _
theorem kc_eq {a b : ByteArray} (h : kc a b = 0) : a = b := by
  have := cb_eq h
  obtain ⟨⟨x⟩⟩ := a
  obtain ⟨⟨y⟩⟩ := b
  simp only at this
  rw [this]
theorem kc_flip (a b : ByteArray) : kc b a = - kc a b := cb_flip _ _
theorem kc_trans {a b c : ByteArray} (h1 : kc a b < 0) (h2 : kc b c < 0) : kc a c < 0 := cb_trans h1 h2
/-- What a tree has as values; its items. -/
abbrev GV := Int
abbrev ev (x : GV) : Value := .int .i64 x
abbrev It := ByteArray × GV
abbrev itV (e : It) : Value := .agg #[.string e.1, ev e.2]
/-- The one item stands ahead of the other. -/
def KL (a b : It) : Prop := kc a.1 b.1 < 0
abbrev Sorted (l : List It) : Prop := l.Pairwise KL
theorem KL.trans {a b c : It} (h1 : KL a b) (h2 : KL b c) : KL a c := kc_trans h1 h2
/-- Below a key; above it. -/
def Lo (k : ByteArray) (e : It) : Prop := kc e.1 k < 0
def Hi (k : ByteArray) (e : It) : Prop := 0 < kc e.1 k
theorem Lo.of {k : ByteArray} {e e' : It} (h : KL e e') (h' : Lo k e') : Lo k e := kc_trans h h'
theorem Hi.of {k : ByteArray} {e e' : It} (h : KL e e') (h' : Hi k e) : Hi k e' := by
  have h1 : kc k e.1 < 0 := by have := kc_flip e.1 k; unfold Hi at h'; omega
  have h2 := kc_trans h1 h
  have := kc_flip k e'.1
  unfold Hi
  omega
/-- The cells of items. -/
def icl (l : List It) : List Value := l.flatMap (fun e => [.string e.1, ev e.2])
theorem icl_len : ∀ l : List It, (icl l).length = l.length * 2
  | [] => rfl
  | a :: l => by
    have := icl_len l
    unfold icl at this ⊢
    simp only [List.flatMap_cons, List.length_append, List.length_cons, List.length_nil, this]; omega
theorem icl_app (a b : List It) : icl (a ++ b) = icl a ++ icl b := by simp [icl]
theorem icl_cons (e : It) (b : List It) : icl (e :: b) = [.string e.1, ev e.2] ++ icl b := by simp [icl]
theorem icl_get : ∀ (l : List It) (k : Nat) (hk : k < l.length), (icl l)[k * 2]? = some (.string l[k].1) ∧ (icl l)[k * 2 + 1]? = some (ev l[k].2)
  | [], k, hk => by simp at hk
  | a :: l, 0, _ => by simp [icl]
  | a :: l, k + 1, hk => by
    have := icl_get l k (by simpa using hk)
    rw [icl_cons]
    have e1 : (k + 1) * 2 = k * 2 + 2 := by omega
    simp only [List.getElem_cons_succ]
    rw [e1]
    refine ⟨?_, ?_⟩
    · rw [List.getElem?_append_right (by simp)]; simpa using this.1
    · rw [List.getElem?_append_right (by simp)]; simpa using this.2
theorem icl_one (l : List It) : ∀ u ∈ icl l, u.oneCell' = true := fun u hu => by
  unfold icl at hu
  rw [List.mem_flatMap] at hu
  obtain ⟨a, _, hu⟩ := hu
  simp only [List.mem_cons, List.not_mem_nil, or_false] at hu
  rcases hu with rfl | rfl <;> rfl
theorem icl_take (l : List It) (k : Nat) : (icl l).take (k * 2) = icl (l.take k) := by
  induction l generalizing k with
  | nil => simp [icl]
  | cons a l ih =>
    cases k with
    | zero => simp [icl]
    | succ k =>
      rw [List.take_succ_cons, icl_cons, icl_cons, ← ih k, show (k + 1) * 2 = k * 2 + 1 + 1 by omega]
      simp
theorem icl_drop (l : List It) (k : Nat) : (icl l).drop (k * 2) = icl (l.drop k) := by
  induction l generalizing k with
  | nil => simp [icl]
  | cons a l ih =>
    cases k with
    | zero => simp [icl]
    | succ k =>
      rw [List.drop_succ_cons, icl_cons, ← ih k, show (k + 1) * 2 = k * 2 + 1 + 1 by omega]
      simp
/-- Where a key stands among items, or would. -/
structure Found (l : List It) (k : ByteArray) (i : Nat) (th : Bool) : Prop where
  le : i ≤ l.length
  lo : ∀ e ∈ l.take i, Lo k e
  hi : th = false → ∀ e ∈ l.drop i, Hi k e
  at_ : th = true → ∃ it, l[i]? = some it ∧ it.1 = k
  behind : th = true → ∀ e ∈ l.drop (i + 1), Hi k e
end Go.Proofs.Ytnjiiebjdpipjaa
/- Floors, pick, numbered of the law. -/
namespace Go.Proofs.Ytnjiiebjdpipjaa
open Go.RowKit Go

theorem pow_small (h : Nat) (hh : h ≤ 8) : 8 ^ h ≤ 16777216 ∧ 16 ^ h ≤ 4294967296 := by
  have h1 : 8 ^ h ≤ 8 ^ 8 := Nat.pow_le_pow_right (by omega) hh
  have h2 : 16 ^ h ≤ 16 ^ 8 := Nat.pow_le_pow_right (by omega) hh
  exact ⟨by simpa using h1, by simpa using h2⟩
set_option maxHeartbeats 2000000 in
set_option maxRecDepth 100000 in
theorem floors_any (n ht : Nat) (w : World) (hht : ht ≤ 8) (hn : n < 1000000000000) (hf : (n = 0 ∧ ht = 0) ∨ (1 ≤ n ∧ 1 ≤ ht ∧ 2 * 8 ^ (ht - 1) ≤ n + 1 ∧ n + 1 ≤ 16 ^ ht)) : Calls Try.prog 11 #[.int .i64 n, .int .i64 ht] w fun x w' => x = .returned (.bool true) ∧ w' = w := by
  rcases hf with ⟨rfl, rfl⟩ | ⟨h1, h2, h3, h4⟩
  · go_enter Try.func11, Try.ntmps11
    go_wp2
    go_ret
    exact ⟨rfl, rfl⟩
  · have a1 : ¬ (n : Int) = 0 := by omega
    have a2 : ¬ (ht : Int) < 1 := by omega
    have a3 : ¬ (20 : Int) < ht := by omega
    have H3 : Hid (2 * 8 ^ (ht - 1) ≤ n + 1 ∧ n + 1 ≤ 16 ^ ht) := ⟨h3, h4⟩
    have HB : Hid (1 ≤ n ∧ 1 ≤ ht ∧ ht ≤ 8 ∧ n < 1000000000000) := ⟨h1, h2, hht, hn⟩
    clear h1 h2 h3 h4 hn hht
    go_enter Try.func11, Try.ntmps11
    go_wp2_with fail
    obtain ⟨h1, h2, hht, hn⟩ := HB.out
    have hhti : (ht : Int) ≤ 8 := by omega
    have hnI : (n : Int) < 1000000000000 := by omega
    clear hn
    go_loopw [5, 6, 7] (fun s5 s6 s7 wr => ∃ (i le mo : Nat), s5 = .int .i64 le ∧ s6 = .int .i64 mo ∧ s7 = .int .i64 i ∧ 1 ≤ i ∧ i ≤ ht ∧ wr = w ∧ Hid (le = 2 * 8 ^ (i - 1) ∧ mo = 16 ^ i)) (fun _ _ s7 _ => ht - (intOf s7).toNat)
    case atStart => exact ⟨1, 2, 16, rfl, rfl, rfl, by omega, by omega, rfl, (⟨by decide, by decide⟩ : (2 = 2 * 8 ^ (1 - 1) ∧ 16 = 16 ^ 1))⟩
    case round =>
      obtain ⟨i, le, mo, rfl, rfl, rfl, hi, hk, rfl, HH⟩ := hrel
      have hle : le ≤ 33554432 := by rw [HH.out.1]; have := pow_small (i - 1) (by omega); omega
      have hmo : mo ≤ 4294967296 * 16 := by
        rw [HH.out.2]
        have := pow_small (i - 1) (by omega)
        obtain ⟨j, rfl⟩ : ∃ j, i = j + 1 := ⟨i - 1, by omega⟩
        rw [Nat.add_sub_cancel] at this
        rw [Nat.pow_succ]
        omega
      by_cases hlt : (i : Int) < ht
      · have hm40 : (mo : Int) < 1099511627776 := by omega
        have hli : (le : Int) ≤ 33554432 := by omega
        have hmi : (mo : Int) ≤ 68719476736 := by omega
        have HN : Hid (le * 8 = 2 * 8 ^ (i + 1 - 1) ∧ mo * 16 = 16 ^ (i + 1)) := by
          obtain ⟨e1, e2⟩ := HH.out
          obtain ⟨j, rfl⟩ : ∃ j, i = j + 1 := ⟨i - 1, by omega⟩
          rw [Nat.add_sub_cancel] at e1
          refine ⟨?_, ?_⟩
          · rw [e1, Nat.add_sub_cancel, Nat.pow_succ]; omega
          · rw [e2, Nat.pow_succ 16 (j + 1)]
        go_wp2_with fail
        go_roundw
        case measure => simp [intOf]; omega
        case rel => exact ⟨i + 1, le * 8, mo * 16, by go_num, by go_num, by go_num, by omega, by omega, trivial, HN⟩
      · obtain rfl : i = ht := by omega
        have b1 : (le : Int) - 1 ≤ n := by have := H3.out.1; have := HH.out.1; omega
        have b2 : (n : Int) ≤ mo - 1 := by have := H3.out.2; have := HH.out.2; omega
        have hli : (le : Int) ≤ 33554432 := by omega
        have hmi : (mo : Int) ≤ 68719476736 := by omega
        go_wp2_with fail
        go_ret
        exact ⟨by simp, rfl⟩
end Go.Proofs.Ytnjiiebjdpipjaa
