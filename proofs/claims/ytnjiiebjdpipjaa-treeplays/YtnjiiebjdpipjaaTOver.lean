import Derived.Test.YtnjiiebjdpipjaaTWk1
/- The iterator of a tree. -/
namespace Go.Proofs.Ytnjiiebjdpipjaa
open Go.RowKit Go Go.Shelf
attribute [local go_sem] Oper.semAt_some

theorem wlk_nil (f o : ByteArray) (d : Bool) : wlk f o d [] = [] := by cases d <;> rfl
set_option maxHeartbeats 4000000 in
set_option maxRecDepth 100000 in
/-- Nothing is under no node. -/
theorem walk1_nil (n bn bs : Nat) (w : World) (hbn : w.heap[bn]? = some (.cells #[.pointer none] 62 (0, 0))) :
    SeqL n Try.prog 94 #[pv bn, pv bs] eI (fun k => k = bn ∨ k = bs) [] w := by
  intro l J Jx T Z W hl hlW tW hT hZ aJ aJx hY h0
  obtain ⟨W0, hW0⟩ : ∃ W0, W0 = W.alloc (.cells #[yF l] 108) := ⟨_, rfl⟩
  have t0 : Tch (fun _ => False) W W0 := by rw [hW0]; exact Tch.alloc _ _ _
  have hb0 : W0.heap[bn]? = some (.cells #[.pointer none] 62 (0, 0)) := ((tW.trans' t0).block _ (blk_lt hbn) (fun h => h)).trans hbn
  have x0 : W0.cell? ⟨bn, 0, none⟩ = some (.pointer none) := by rw [blk_cell hb0]; rfl
  have HJ0 : Hid (J [] Z W0) := aJ _ _ _ _ h0 (t0.mono (fun _ _ h => h.elim))
  have HaJ : Hid (Abl l J) := aJ
  have HW0 : Hid (W0 = W.alloc (.cells #[yF l] 108)) := hW0
  refine callsIn_of_wp_marks Try.func94 rfl trivial ?_ rfl
  simp only [Try.ntmps94, List.size_toArray, List.length_cons, List.length_nil, Nat.reduceAdd, Nat.reduceSub, Array.replicate_succ, Array.replicate_zero, List.push_toArray, List.append_toArray, List.nil_append, List.cons_append]
  refine wpIn_wide.2 ?_
  rw [hW0] at x0
  clear hW0 hbn tW t0 h0 hb0 hZ aJ aJx hY hT hl hlW
  go_wp2_with fail
  refine leaves_marks [] _ (fun d hd => (by cases hd)) List.nodup_nil (fun W' tt => ?_)
  refine ⟨_, results_none rfl _ _ _, ⟨_, rfl⟩, Z, .inl ?_⟩
  have hj := HJ0.out
  rw [HW0.out] at hj
  exact HaJ.out _ _ _ _ hj (tt.mono (fun _ _ h => by cases h))

theorem TW.so {w : World} {b : Nat} {l : List It} {ht : Nat} {F : List Nat} (h : TW w b l ht F) : Sorted l := h.2.1
/-- The root of a tree, and the iterator of it. -/
theorem TW.root {w : World} {b : Nat} {l : List It} {ht : Nat} {F : List Nat} (h : TW w b l ht F) : ∃ v : Option Addr, w.heap[b]? = some (.cells #[.pointer v] 64 (0, 0)) ∧ b ∈ F ∧
    ∀ (n : Nat) (W2 : World) (B : Nat) (f o : ByteArray) (d : Bool), TW W2 b l ht F → W2.heap[b]? = some (.cells #[.pointer v] 64 (0, 0)) → W2.heap[B]? = some (.cells #[.pointer v] 62 (0, 0)) → W2.heap[B + 1]? = some (.cells #[.string f, .string o, .bool d] 90 (0, 0)) →
      ∃ Yk : Nat → Prop, (∀ k, Yk k → k ∈ F ∨ k = B ∨ k = B + 1) ∧ SeqL n Try.prog 94 #[pv B, pv (B + 1)] eI Yk (wlk f o d l) W2 := by
  obtain ⟨_, hs, ⟨rfl, rfl, rfl, hb⟩ | ⟨h, t, p, G, rfl, hb, hN, hok, h1, rfl, rfl⟩⟩ := h
  · refine ⟨none, hb, by simp, fun n W2 B f o d _ _ hB _ => ⟨_, fun k hk => .inr hk, ?_⟩⟩
    rw [wlk_nil]
    exact walk1_nil n B (B + 1) W2 hB
  · refine ⟨_, hb, by simp, fun n W2 B f o d h2 hb2 hB hB1 => ?_⟩
    obtain ⟨_, _, ⟨_, e, _⟩ | ⟨h', t', p', G', e1, hb', hN', hok', h1', e2, e3⟩⟩ := h2
    · omega
    · have eh : h = h' := by omega
      subst eh
      have ep : p = p' := by
        rw [hb2] at hb'
        injection hb' with hb'
        injection hb' with hb'
        have hb' := congrArg (fun a : Array Value => a.getD 0 undef) hb'
        injection hb' with hb'
        injection hb' with hb'
        injection hb'
      subst ep
      have e4 : G = G' := by injection e3
      subst e4
      rw [← e2]
      refine ⟨_, fun k hk => ?_, walk1_all h n t' p G B (B + 1) f o d W2 hN' hok' (by rw [e2]; exact hs) hB hB1⟩
      rcases hk with hk | hk
      · exact .inl (by simp [hk])
      · exact .inr hk

set_option maxHeartbeats 4000000 in
set_option maxRecDepth 100000 in
theorem over1_any (n : Nat) (w : World) (b : Nat) (l0 : List It) (ht : Nat) (F : List Nat) (bt bs : Nat) (f o : ByteArray) (d : Bool) (hTW : TW w b l0 ht F) (hbt : w.heap[bt]? = some (.cells #[pv b] 23 (0, 0))) (hbs : w.heap[bs]? = some (.cells #[.string f, .string o, .bool d] 90 (0, 0))) :
    SeqL n Try.prog 72 #[pv bt, pv bs] eI (fun k => k ∈ F ∨ k = bt ∨ k = bs) (wlk f o d l0) w := by
  intro l J Jx T Z W hl hlW tW hT hZ aJ aJx hY h0
  obtain ⟨Y, hYd⟩ : ∃ Y : Nat → Prop, Y = fun k => k ∈ F ∨ k = bt ∨ k = bs := ⟨_, rfl⟩
  rw [← hYd] at hT hZ
  have hYw : ∀ k, Y k → k < w.heap.size := fun k hk => by
    rw [hYd] at hk
    rcases hk with hk | rfl | rfl
    · exact hTW.lt k hk
    · exact blk_lt hbt
    · exact blk_lt hbs
  obtain ⟨v, hv, hbF, hroot⟩ := hTW.root
  have HR : Hid (∀ W1, Tch (fun k => ¬ Y k) w W1 → TW W1 b l0 ht F ∧ W1.heap[bt]? = some (.cells #[pv b] 23 (0, 0)) ∧ W1.heap[bs]? = some (.cells #[.string f, .string o, .bool d] 90 (0, 0)) ∧ W1.heap[b]? = some (.cells #[.pointer v] 64 (0, 0))) := fun W1 t1 => by
    have hG : ∀ k ∈ F, ¬ ¬ Y k := fun k hk hn => hn (by rw [hYd]; exact .inl hk)
    exact ⟨hTW.tch t1 hG, (t1.block _ (blk_lt hbt) (fun hn => hn (by rw [hYd]; exact .inr (.inl rfl)))).trans hbt, (t1.block _ (blk_lt hbs) (fun hn => hn (by rw [hYd]; exact .inr (.inr rfl)))).trans hbs, (t1.block _ (blk_lt hv) (hG b hbF)).trans hv⟩
  have Hroot : Hid (∀ (n : Nat) (W2 : World) (B : Nat), TW W2 b l0 ht F → W2.heap[b]? = some (.cells #[.pointer v] 64 (0, 0)) → W2.heap[B]? = some (.cells #[.pointer v] 62 (0, 0)) → W2.heap[B + 1]? = some (.cells #[.string f, .string o, .bool d] 90 (0, 0)) →
      ∃ Yk : Nat → Prop, (∀ k, Yk k → k ∈ F ∨ k = B ∨ k = B + 1) ∧ SeqL n Try.prog 94 #[pv B, pv (B + 1)] eI Yk (wlk f o d l0) W2) := fun n W2 B h1 h2 h3 h4 => hroot n W2 B f o d h1 h2 h3 h4
  obtain ⟨yb, hyb⟩ : ∃ yb, yb = W.heap.size := ⟨_, rfl⟩
  obtain ⟨W0, hW0⟩ : ∃ W0, W0 = W.alloc (.cells #[yF l] 108) := ⟨_, rfl⟩
  have t0 : Tch (fun _ => False) W W0 := by rw [hW0]; exact Tch.alloc _ _ _
  have HS0 : Hid (WS w l Y yb [] Z W0) := ⟨(tW.trans' t0).mono (fun _ _ h => h.elim), by omega, fun h => by have := (hZ _ h).1; omega, by rw [hW0, hyb]; exact alloc_new _ _, fun d hd => (by cases hd), List.nodup_nil, fun k hk => ⟨Nat.lt_of_lt_of_le (hZ k hk).1 t0.size, (hZ k hk).2⟩⟩
  have HJ0 : Hid (J [] Z W0) := aJ _ _ _ _ h0 (t0.mono (fun _ _ h => h.elim))
  obtain ⟨hT0, hbt0, hbs0, hv0⟩ := HR.out W0 HS0.out.tw
  have HaJ : Hid (Abl l J ∧ Abl l Jx) := ⟨aJ, aJx⟩
  have HY : Hid (∀ m pre x Z1 W1, pre ++ [x] <+: wlk f o d l0 → J pre Z1 W1 → YieldAt Fence.wide m Try.prog l (eI x) W1 (Rnd T Z1 W1 (J (pre ++ [x])) (Jx (pre ++ [x])))) := hY
  have HT : Hid (∀ k, T k → k ≤ l ∧ ¬ Y k) := hT
  have HYw : Hid (∀ k, Y k → k < w.heap.size) := hYw
  have HYd : Hid (Y = fun k => k ∈ F ∨ k = bt ∨ k = bs) := hYd
  have HlW : Hid (l < W0.heap.size) := Nat.lt_trans HS0.out.ylt (blk_lt HS0.out.yc)
  have x0 : W0.cell? ⟨bt, 0, none⟩ = some (pv b) := by rw [blk_cell hbt0]; rfl
  have x1 : W0.cell? ⟨bs, 0, none⟩ = some (.string f) := by rw [blk_cell hbs0]; rfl
  have x2 : W0.cell? ⟨bs, 1, none⟩ = some (.string o) := by rw [blk_cell hbs0]; rfl
  have x3 : W0.cell? ⟨bs, 2, none⟩ = some (.bool d) := by rw [blk_cell hbs0]; rfl
  have x4 : W0.cell? ⟨b, 0, none⟩ = some (.pointer v) := by rw [blk_cell hv0]; rfl
  obtain ⟨C, hC⟩ : ∃ C : List Value → World → Prop, C = fun s W2 => match s with
    | [] => Tch (fun _ => False) W0 W2
    | [x] => ∃ B, x = .func (.func 94) #[] #[pv B, pv (B + 1)] ∧ Tch (fun _ => False) W0 W2 ∧ W0.heap.size ≤ B ∧ W2.heap[B]? = some (.cells #[.pointer v] 62 (0, 0)) ∧ W2.heap[B + 1]? = some (.cells #[.string f, .string o, .bool d] 90 (0, 0))
    | _ => False := ⟨_, rfl⟩
  have hKC : ∀ s W2, C s W2 → W2.cell? ⟨bt, 0, none⟩ = some (pv b) ∧ W2.cell? ⟨bs, 0, none⟩ = some (.string f) ∧ W2.cell? ⟨bs, 1, none⟩ = some (.string o) ∧ W2.cell? ⟨bs, 2, none⟩ = some (.bool d) ∧ W2.cell? ⟨b, 0, none⟩ = some (.pointer v) := fun s W2 h => by
    have hh : Tch (fun _ => False) W0 W2 := by
      rw [hC] at h
      match s, h with
      | [], h => exact h
      | [_], ⟨_, _, h, _⟩ => exact h
    exact ⟨(hh.cell (blk_lt hbt0) (fun h => h)).trans x0, (hh.cell (blk_lt hbs0) (fun h => h)).trans x1, (hh.cell (blk_lt hbs0) (fun h => h)).trans x2, (hh.cell (blk_lt hbs0) (fun h => h)).trans x3, (hh.cell (blk_lt hv0) (fun h => h)).trans x4⟩
  have HCt : ∀ W2, C [] W2 → Calls Try.prog 73 #[.pointer v, spV f o d] W2 fun x w' => ∃ y, x = .returned y ∧ C [y] w' := fun W2 h => by
    rw [hC] at h
    refine (walk_any v f o d W2).mono ?_
    rintro x w' ⟨rfl, rfl⟩
    refine ⟨_, rfl, ?_⟩
    rw [hC]
    have hh : Tch (fun _ => False) W0 W2 := h
    refine ⟨W2.heap.size, rfl, (hh.allocR _).allocR _, hh.size, ?_, ?_⟩
    · rw [Below.heap_alloc _ _ _ (by simp)]; exact alloc_new _ _
    · have := alloc_new (W2.alloc (.cells #[.pointer v] 62)) (.cells #[.string f, .string o, .bool d] 90)
      rw [World.size_alloc] at this
      exact this
  have HCe : Hid (∀ y W2, C [y] W2 → ∃ B, y = .func (.func 94) #[] #[pv B, pv (B + 1)] ∧ Tch (fun _ => False) W0 W2 ∧ W0.heap.size ≤ B ∧ W2.heap[B]? = some (.cells #[.pointer v] 62 (0, 0)) ∧ W2.heap[B + 1]? = some (.cells #[.string f, .string o, .bool d] 90 (0, 0))) := fun y W2 h => by
    rw [hC] at h
    exact h
  have h0' : C [] W0.drew := by rw [hC]; exact (Tch.refl _ _).drew
  have HW0 : Hid (W0 = W.alloc (.cells #[yF l] 108)) := hW0
  have HYb : Hid (yb = W.heap.size) := hyb
  refine callsIn_of_wp_marks Try.func72 rfl trivial ?_ rfl
  simp only [Try.ntmps72, List.size_toArray, List.length_cons, List.length_nil, Nat.reduceAdd, Nat.reduceSub, Array.replicate_succ, Array.replicate_zero, List.push_toArray, List.append_toArray, List.nil_append, List.cons_append]
  refine wpIn_wide.2 ?_
  clear hC hW0 hyb hTW hbt hbs tW t0 h0 hT0 hbt0 hbs0 hv0 hZ aJ aJx hY hT hYw hYd hl hlW hv hbF hroot x0 x1 x2 x3 x4
  go_wp2_with fail
  have hw := HW0.out
  change W0 = W.alloc (Obj.cells #[Value.func (Fn.yield l) #[] #[]] 108) at hw
  rw [← hw]
  have hyb := HYb.out
  rw [← hyb]
  clear hw hyb HYb HW0
  refine wp_region_barv [5] C (by kernel_rfl) (by kernel_rfl) (by kernel_rfl) h0' ?_
  clear h0'
  refine barv_read (by go_simp) (by rfl) ?_
  apply Exists.intro
  refine ⟨fun s' Wy hW b K Q hK' => ?_, fun K hK' => ?_⟩
  · obtain ⟨v0, v1, v2, v3, v4⟩ := hKC _ Wy hW
    go_simp
    exact hK' Wy hW
  go_simp
  refine hK' _ ?_
  clear hK' K
  refine barv_read (by go_simp) (by rfl) ?_
  apply Exists.intro
  refine ⟨fun s' Wy hW b K Q hK' => ?_, fun K hK' => ?_⟩
  · obtain ⟨v0, v1, v2, v3, v4⟩ := hKC _ Wy hW
    go_simp
    exact hK' Wy hW
  go_simp
  refine hK' _ ?_
  clear hK' K
  refine barv_read (by go_simp) (by rfl) ?_
  apply Exists.intro
  refine ⟨fun s' Wy hW b K Q hK' => ?_, fun K hK' => ?_⟩
  · obtain ⟨v0, v1, v2, v3, v4⟩ := hKC _ Wy hW
    go_simp
    exact hK' Wy hW
  go_simp
  refine hK' _ ?_
  clear hK' K
  refine barv_read (by go_simp) (by rfl) ?_
  apply Exists.intro
  refine ⟨fun s' Wy hW b K Q hK' => ?_, fun K hK' => ?_⟩
  · obtain ⟨v0, v1, v2, v3, v4⟩ := hKC _ Wy hW
    go_simp
    exact hK' Wy hW
  go_simp
  refine hK' _ ?_
  clear hK' K
  refine barv_read (by go_simp) (by rfl) ?_
  apply Exists.intro
  refine ⟨fun s' Wy hW b K Q hK' => ?_, fun K hK' => ?_⟩
  · obtain ⟨v0, v1, v2, v3, v4⟩ := hKC _ Wy hW
    go_simp
    exact hK' Wy hW
  go_simp
  refine hK' _ ?_
  clear hK' K
  refine barv_turn (by go_simp) (by rfl) (fun Wy hW b K Q hK' => ?_) (fun y hy K hK' => ?_)
  · go_simp
    go_at_call 73
    refine (HCt Wy hW).mono ?_
    rintro x w' ⟨y, rfl, h1⟩
    exact hK' y w' h1
  obtain ⟨B, hBv⟩ : ∃ B, y = .func (.func 94) #[] #[pv B, pv (B + 1)] := by
    obtain ⟨Wy, hW⟩ := hy
    obtain ⟨B, hBv, _⟩ := HCe.out y Wy hW
    exact ⟨B, hBv⟩
  clear hy HCt hKC
  subst hBv
  go_simp
  refine hK' _ ?_
  clear hK' K
  refine barv_nil ?_
  intro W2 hW2
  have HB : Hid (Tch (fun _ => False) W0 W2 ∧ W0.heap.size ≤ B ∧ W2.heap[B]? = some (.cells #[.pointer v] 62 (0, 0)) ∧ W2.heap[B + 1]? = some (.cells #[.string f, .string o, .bool d] 90 (0, 0))) := by
    obtain ⟨B', e, h1, h2, h3, h4⟩ := HCe.out _ W2 hW2
    have e' : B = B' := by
      injection e with _ _ e
      have e := congrArg (fun a : Array Value => a.getD 0 undef) e
      injection e with e
      injection e with e
      injection e
    subst e'
    exact ⟨h1, h2, h3, h4⟩
  clear hW2 HCe
  go_wp2_with fail
  refine (wpIn_wide (n := n)).1 ?_
  have HS2 : Hid (WS w l Y yb [] Z W2) := HS0.out.new HB.out.1
  have HJ2 : Hid (J [] Z W2) := HaJ.out.1 _ _ _ _ HJ0.out (HB.out.1.mono (fun _ _ h => h.elim))
  have HZr : Hid (∀ y, Z y → y < W0.heap.size ∧ ¬ Y y) := HS0.out.zb
  clear HS0 HJ0
  obtain ⟨Yk, hYk, hse⟩ := Hroot.out (n - 1) W2 B (HR.out W2 HS2.out.tw).1 (HR.out W2 HS2.out.tw).2.2.2 HB.out.2.2.1 HB.out.2.2.2
  have HY2 : Hid (∀ k, Yk k → k < W2.heap.size ∧ ¬ T k ∧ ¬ Z k) := fun x hx => by
    have hw : W0.heap.size ≤ B := HB.out.2.1
    have hzb : ∀ y, Z y → y < W0.heap.size ∧ ¬ Y y := HZr.out
    rcases hYk x hx with hx | rfl | rfl
    · have hy : Y x := by have := HYd.out; rw [this]; exact .inl hx
      exact ⟨Nat.lt_of_lt_of_le (HYw.out x hy) HS2.out.tw.size, fun h => (HT.out x h).2 hy, fun h => (HS2.out.zb x h).2 hy⟩
    · exact ⟨blk_lt HB.out.2.2.1, fun h => by have := (HT.out _ h).1; have := HlW.out; omega, fun h => by have := (hzb _ h).1; omega⟩
    · exact ⟨blk_lt HB.out.2.2.2, fun h => by have := (HT.out _ h).1; have := HlW.out; omega, fun h => by have := (hzb _ h).1; omega⟩
  refine range_l (T := T) (Z := Z) rfl (enters_of Try.func94 (by kernel_rfl) rfl) hse (fun _ => rfl) (fun x hx => ⟨by have := (HT.out x hx).1; have := HlW.out; have := HB.out.1.size; omega, fun hy => (HY2.out x hy).2.1 hx⟩) (fun x hx => ⟨(HS2.out.zb x hx).1, fun hy => (HY2.out x hy).2.2 hx⟩) (fun x hx => (HY2.out x hx).1)
    (fun pre Z' W' => WS w l Y yb [] Z' W' ∧ J pre Z' W')
    (fun cc pre Z' W' => cc = .ret ∧ WS w l Y yb [] Z' W' ∧ Jx pre Z' W')
    ?abI ?abX ⟨HS2.out, HJ2.out⟩ (fun x => { tmps := #[yF l, pv bt, pv bs, pv yb, .string x.1, ev x.2, pv b, pv b, pv b, .pointer v, .agg #[.string f, .string o, .bool d], .func (.func 94) #[] #[pv B, pv (B + 1)], .string x.1, ev x.2, undef, undef, undef, undef, undef], defers := [] }) ?assign ?body ?done ?stop
  case abI =>
    rintro pre Z' W' W'' ⟨hs, hj⟩ tt
    exact ⟨hs.tch tt (fun x hx => ⟨fun hy => by have := HS2.out.lt HYw.out (.inl hy); omega, fun e => by have := HS2.out.lt HYw.out (.inr (.inl e)); omega, fun hd => by cases hd⟩), HaJ.out.1 _ _ _ _ hj (tt.mono (fun x _ hx => ⟨by have := HlW.out; have := HB.out.1.size; omega, hx.2⟩))⟩
  case abX =>
    rintro cc pre Z' W' W'' ⟨hcc, hs, hj⟩ tt
    exact ⟨hcc, hs.tch tt (fun x hx => ⟨fun hy => by have := HS2.out.lt HYw.out (.inl hy); omega, fun e => by have := HS2.out.lt HYw.out (.inr (.inl e)); omega, fun hd => by cases hd⟩), HaJ.out.2 _ _ _ _ hj (tt.mono (fun x _ hx => ⟨by have := HlW.out; have := HB.out.1.size; omega, hx.2⟩))⟩
  case assign =>
    intro l' x Wx K hK
    clear HJ2 HS2 HR hse HY2 Hroot
    gi_wp2
    exact hK
  case body =>
    rintro l' pre x Z' Wb hpre ⟨hs, hj⟩
    have hyc : Wb.cell? ⟨yb, 0, none⟩ = some (yF l) := by rw [blk_cell hs.yc]; rfl
    obtain ⟨fn, tmps, assign, body, hy, hR⟩ := YieldAt.inRound l' (HY.out (n - 1 - 1 - 1) _ x Z' Wb hpre hj)
    have Hs : Hid (WS w l Y yb [] Z' Wb) := hs
    clear hj hs hpre HJ2 HS2 HR hse HY2 Hroot
    gi_wp2_with fail
    refine ⟨fun h => (by cases h), hR.mono ?_⟩
    rintro e W3 ⟨Z2, hz2, t3, (⟨rfl, hJ3⟩ | ⟨rfl, hx3⟩)⟩
    · have HL : Hid (Lft T Z' Wb W3 (fun Z' W' => WS w l Y yb [] Z' W' ∧ J (pre ++ [x]) Z' W')) := ⟨Z2, hz2, t3, Hs.out.round HYw.out HT.out hz2 t3, hJ3⟩
      clear hR hy hyc hJ3 hz2 t3
      gi_wp2_with fail
      exact HL.out
    · have HL : Hid (Lft T Z' Wb W3 (fun Z' W' => WS w l Y yb [] Z' W' ∧ Jx (pre ++ [x]) Z' W')) := ⟨Z2, hz2, t3, Hs.out.round HYw.out HT.out hz2 t3, hx3⟩
      clear hR hy hyc hx3 hz2 t3
      gi_wp2_with fail
      obtain ⟨Z3, g1, g2, g3, g4⟩ := HL.out
      exact ⟨Z3, g1, g2, rfl, g3, g4⟩
  case done =>
    rintro D Z' W' hD hzD ⟨hs, hj⟩ hK
    have HS3 : Hid (WS w l Y yb [D] Z' W') := hs.mark D (by have := HlW.out; have := HB.out.1.size; omega) hzD hK (by simp)
    have HJ3 : Hid (J (wlk f o d l0) Z' W') := hj
    clear hs hj hK hD hzD HJ2 HS2 HR hse HY2 Hroot
    gi_wp2_with fail
    refine leaves_marks [D] _ (fun d hd => (HS3.out.md d hd).2.2) HS3.out.nod (fun W' tt => ?_)
    refine ⟨_, results_none rfl _ _ _, ⟨_, rfl⟩, Z', .inl (HaJ.out.1 _ _ _ _ HJ3.out (tt.mono (fun d _ hd => ⟨(HS3.out.md d hd).1, (HS3.out.md d hd).2.1⟩)))⟩
  case stop =>
    rintro D cc pre Z' W' hD hzD hpre ⟨rfl, hs, hx⟩ hK
    have HS3 : Hid (WS w l Y yb [D] Z' W') := hs.mark D (by have := HlW.out; have := HB.out.1.size; omega) hzD hK (by simp)
    have Hx3 : Hid (Jx pre Z' W') := hx
    have Hpr : Hid (pre <+: wlk f o d l0) := hpre
    clear hs hx hK hD hzD hpre HJ2 HS2 HR hse HY2 Hroot
    gi_wp2_with fail
    refine leaves_marks [D] _ (fun d hd => (HS3.out.md d hd).2.2) HS3.out.nod (fun W' tt => ?_)
    refine ⟨_, results_none rfl _ _ _, ⟨_, rfl⟩, Z', .inr ⟨_, Hpr.out, HaJ.out.2 _ _ _ _ Hx3.out (tt.mono (fun d _ hd => ⟨(HS3.out.md d hd).1, (HS3.out.md d hd).2.1⟩))⟩⟩
set_option maxHeartbeats 2000000 in
set_option maxRecDepth 100000 in
theorem over_any (b : Nat) (f o : ByteArray) (d : Bool) (w : World) : Calls Try.prog 49 #[pv b, spV f o d] w fun x w' => x = .returned (.func (.func 72) #[] #[pv w.heap.size, pv (w.heap.size + 1)]) ∧ w' = (w.alloc (.cells #[pv b] 23)).alloc (.cells #[.string f, .string o, .bool d] 90) := by
  go_enter Try.func49, Try.ntmps49
  go_wp2_with fail
  go_ret
  exact ⟨by simp, rfl⟩
set_option maxHeartbeats 2000000 in
set_option maxRecDepth 100000 in
theorem range_any (b : Nat) (f o : ByteArray) (w : World) : Calls Try.prog 26 #[pv b, .string f, .string o] w fun x w' => x = .returned (.func (.func 72) #[] #[pv w.heap.size, pv (w.heap.size + 1)]) ∧ w' = (w.alloc (.cells #[pv b] 23)).alloc (.cells #[.string f, .string o, .bool false] 90) := by
  have q := over_any b f o false w
  go_enter Try.func26, Try.ntmps26
  go_wp2_with fail
  refine q.mono ?_
  rintro x w' ⟨rfl, rfl⟩
  clear q
  go_wp2_with fail
  go_ret
  exact ⟨rfl, rfl⟩
end Go.Proofs.Ytnjiiebjdpipjaa
