import Derived.Test.YtjbehnoococelaaMSt
/- awake. -/
namespace Go.Proofs.Ytjbehnoococelaa
open Go.RowKit Go Go.Sort Go.Maps

abbrev mg0 : Mg := ⟨1, [], []⟩
abbrev mg1 : Mg := ⟨2, [1], [⟨1, 1, []⟩]⟩
abbrev mg2 : Mg := ⟨3, [1, 2], [⟨1, 1, []⟩, ⟨2, 1, []⟩]⟩
abbrev aw3 : Mg := ⟨3, [2], [⟨1, 3, []⟩, ⟨2, 1, []⟩]⟩
abbrev awV : Ver := ⟨1, true, 1, rowC 5⟩
abbrev awL : HL := [((7, [107]), [awV])]
theorem aw_i1 : insE mg1 1 1 [] 1 (chL [] 7 [107]) = 0 := rfl
theorem aw_i2 : insE mg2 1 2 [1] 2 (chL awL 7 [107]) = 92 := rfl
theorem aw_g1 : getV mg2 1 1 [] 1 (chL awL 7 [107]) = some awV := rfl
theorem aw_g2 : getV mg2 1 2 [1] 2 (chL awL 7 [107]) = none := rfl
theorem aw_g3 : getV aw3 2 3 [2] 0 (chL awL 7 [107]) = some awV := rfl
theorem aw_b0 : mg0.begin = mg1 := rfl
theorem aw_b1 : mg1.begin = mg2 := rfl
theorem aw_f : mg2.fin 1 3 = aw3 := rfl
theorem aw_ap : appL [] 7 [107] awV = awL := rfl
set_option maxHeartbeats 8000000 in
set_option maxRecDepth 100000 in
theorem awake_any (w : World) : Calls Try.prog 4 #[] w fun x w' => x = .returned (.bool true) ∧ Tch (fun _ => False) w w' := by
  have qN := new_ok 1 w (by omega) (by omega)
  go_enter Try.func4, Try.ntmps4
  go_wp2_with fail
  refine qN.mono ?_
  rintro x w1 ⟨⟨mb, rfl, hmb, hM⟩, t1⟩
  clear qN
  have hM1 := hM (fun i => i < w.heap.size) (fun _ h => h)
  have qH := mnew_any mb mg0 w1 _ hM1
  clear hM hM1
  go_wp2_with fail
  refine qH.mono ?_
  rintro x w2 ⟨⟨hb, rfl, hhb, hS⟩, t2⟩
  clear qH
  have st2 : St w w2 hb mb mg0 [] 0 [] := St.first hS (t1.trans' t2)
  clear hS t1 t2 hmb hhb
  have qS := snap_s st2
  go_wp2_with fail
  refine qS.mono ?_
  rintro x w3 ⟨so, sc, nb, rfl, st3, t3, J1, I1⟩
  clear qS st2 t3
  simp only [List.nil_append, List.headD_nil, List.length_nil] at st3 ⊢
  have st4 := st3.alloc (.cells #[.int .i64 1, .int .i64 1, .slice so 0 sc] 27)
  obtain ⟨sb, hsb⟩ : ∃ sb, sb = w3.heap.size := ⟨_, rfl⟩
  obtain ⟨w4, hw4⟩ : ∃ w4, w4 = w3.alloc (.cells #[.int .i64 1, .int .i64 1, .slice so 0 sc] 27) := ⟨_, rfl⟩
  rw [← hw4, ← hsb] at st4
  obtain ⟨BX, hBX⟩ : ∃ BX, BX = nb ++ [(sb, Obj.cells #[.int .i64 1, .int .i64 1, .slice so 0 sc] 27 (0, 0))] := ⟨_, rfl⟩
  rw [← hBX] at st4
  have M1 : (sb, Obj.cells #[.int .i64 1, .int .i64 1, .slice so 0 sc] 27 (0, 0)) ∈ BX := by rw [hBX]; simp
  have N1 : ∀ p ∈ nb, p ∈ BX := fun p hp => by rw [hBX]; exact List.mem_append.2 (.inl hp)
  have J1' : ∀ a, so = some a → ∃ o, (a.block, o) ∈ BX := fun a ha => by obtain ⟨o, ho⟩ := J1 a ha; exact ⟨o, N1 _ ho⟩
  clear J1 hBX st3
  have qB : Calls Try.prog 7 #[.pointer (some ⟨mb, 0, none⟩)] w4 fun x w' => x = .returned (.tuple #[.int .i64 1, .int .i64 0]) ∧ St w w' hb mb mg1 [] 0 BX := begin_s st4 (by decide)
  rw [hw4] at qB
  have Hw4 : Hid _ := hw4
  clear hw4 st4
  go_wp2_with fail
  refine qB.mono ?_
  rw [← hsb]
  rintro x wA ⟨rfl, hst⟩
  clear qB Hw4 hsb
  have J1 := J1'
  go_wp2_with fail
  obtain ⟨C, hC⟩ : ∃ C : List Value → World → Prop, C = fun s W => match s with
    | [] => St w W hb mb mg1 [] 0 BX
    | [y] => St w W hb mb mg1 [] 0 BX ∧ ∃ g, y = .slice (some ⟨g, 0, none⟩) 1 1 ∧ RdR W (some ⟨g, 0, none⟩) 1 1 (rowC 5)
    | [_, x] => x = .int .i64 0 ∧ St w W hb mb mg1 awL (0 + 3) BX
    | _ => False := ⟨_, rfl⟩
  have hK : ∀ s W, C s W → W.cell? ⟨sb, 0, none⟩ = some (.int .i64 1) ∧ W.cell? ⟨sb, 1, none⟩ = some (.int .i64 1) ∧ W.cell? ⟨sb, 2, none⟩ = some (.slice so 0 sc) := fun s W hW => by
    rw [hC] at hW
    have hbb : W.heap[sb]? = some (.cells #[.int .i64 1, .int .i64 1, .slice so 0 sc] 27 (0, 0)) := by
      match s, hW with
      | [], hW => exact St.box hW M1
      | [_], hW => exact St.box hW.1 M1
      | [_, _], hW => exact St.box hW.2 M1
    exact ⟨by rw [blk_cell hbb]; rfl, by rw [blk_cell hbb]; rfl, by rw [blk_cell hbb]; rfl⟩
  have h0' : C [] wA.drew := by rw [hC]; exact hst.no (Tch.refl _ _).drew
  have c1 : ∀ W, C [] W → Calls Try.prog 13 #[.int .i64 5] W fun x W' => ∃ y, x = .returned y ∧ C [y] W' := fun W hW => by
    rw [hC] at hW ⊢
    refine (row_any 5 W).mono ?_
    rintro x W' ⟨rfl, rfl⟩
    exact ⟨_, rfl, St.no hW (Tch.alloc _ _ _), _, rfl, row_rd 5 W⟩
  have s1 : ∀ y W, C [y] W → ∃ g, y = .slice (some ⟨g, 0, none⟩) 1 1 := fun y W hW => by
    rw [hC] at hW
    obtain ⟨_, g, e, _⟩ := hW
    exact ⟨g, e⟩
  have c2 : ∀ y W, C [y] W → Calls Try.prog 11 #[.pointer (some ⟨hb, 0, none⟩), .agg #[.int .i64 1, .int .i64 1, .slice so 0 sc], .int .i64 1, .int .i64 7, .string ⟨#[107]⟩, y] W fun x W' => ∃ u, x = .returned u ∧ C [y, u] W' := fun y W hW => by
    rw [hC] at hW ⊢
    obtain ⟨h1, g, rfl, h2⟩ := hW
    have q := insert_s h1 (by omega) 7 (by omega) (by omega) ⟨#[107]⟩ (by decide) 1 1 [] so sc 1 (by omega) (by omega) (by simp) (I1 W (fun p hp => St.box h1 (N1 p hp))) J1 _ 1 1 _ h2
    rw [show (⟨#[107]⟩ : ByteArray).data.toList = [107] from rfl, aw_i1] at q
    refine Calls.mono q ?_
    rintro x W' ⟨rfl, h3⟩
    exact ⟨_, rfl, rfl, h3⟩
  have HF : Hid (∀ y u W, C [y, u] W → u = .int .i64 0 ∧ St w W hb mb mg1 awL (0 + 3) BX) := fun y u W hW => by
    rw [hC] at hW
    exact hW
  clear hC
  refine wp_region_ordv [3, 4] C 5 [0, 1, 2, 3, 4] (by kernel_rfl) (by kernel_rfl) h0' ?_
  clear h0'
  refine ordv_read rfl (by go_simp) (by rfl) ?_
  apply Exists.intro
  refine ⟨fun s' W hW b K Q hK' => ?_, fun K hK' => ?_⟩
  · obtain ⟨q0, q1, q2⟩ := hK _ W hW
    go_simp
    exact hK' W hW
  go_simp
  refine hK' _ ?_
  clear hK' K
  refine ordv_read rfl (by go_simp) (by rfl) ?_
  apply Exists.intro
  refine ⟨fun s' W hW b K Q hK' => ?_, fun K hK' => ?_⟩
  · obtain ⟨q0, q1, q2⟩ := hK _ W hW
    go_simp
    exact hK' W hW
  go_simp
  refine hK' _ ?_
  clear hK' K
  refine ordv_read rfl (by go_simp) (by rfl) ?_
  apply Exists.intro
  refine ⟨fun s' W hW b K Q hK' => ?_, fun K hK' => ?_⟩
  · obtain ⟨q0, q1, q2⟩ := hK _ W hW
    go_simp
    exact hK' W hW
  go_simp
  refine hK' _ ?_
  clear hK' K
  refine ordv_turn rfl (by go_simp) (by rfl) (fun W hW b K Q hK' => ?_) (fun u hu K hK' => ?_)
  · go_simp
    go_at_call 13
    refine (c1 W hW).mono ?_
    rintro x w' ⟨y, rfl, h1⟩
    exact hK' y w' h1
  obtain ⟨g9, rfl⟩ : ∃ g, u = .slice (some ⟨g, 0, none⟩) 1 1 := by
    obtain ⟨W', hW'⟩ := hu
    exact s1 u W' hW'
  clear hu c1 s1
  go_simp
  refine hK' _ ?_
  clear hK' K
  refine ordv_turn rfl (by go_simp) (by rfl) (fun W hW b K Q hK' => ?_) (fun u hu K hK' => ?_)
  · go_simp
    go_at_call 11
    refine (c2 _ W hW).mono ?_
    rintro x w' ⟨y, rfl, h1⟩
    exact hK' y w' h1
  obtain rfl : u = .int .i64 0 := by
    obtain ⟨W', hW'⟩ := hu
    exact (HF.out _ u W' hW').1
  clear hu c2
  go_simp
  refine hK' _ ?_
  clear hK' K
  refine ordv_nil ?_
  intro wB hwB
  have hstB := (HF.out _ _ wB hwB).2
  clear hK HF hwB C
  clear hst
  have qS := snap_s hstB
  go_wp2_with fail
  refine qS.mono ?_
  rintro x w5 ⟨so2, sc2, nb2, rfl, st5, t5, J2, I2⟩
  clear qS hstB t5
  simp only [List.headD_cons, List.length_cons, List.length_nil] at st5 ⊢
  have st6 := st5.alloc (.cells #[.int .i64 1, .int .i64 2, .slice so2 1 sc2] 27)
  obtain ⟨sb2, hsb2⟩ : ∃ sb2, sb2 = w5.heap.size := ⟨_, rfl⟩
  rw [← hsb2] at st6
  obtain ⟨BX2, hBX2⟩ : ∃ BX2, BX2 = BX ++ nb2 ++ [(sb2, Obj.cells #[.int .i64 1, .int .i64 2, .slice so2 1 sc2] 27 (0, 0))] := ⟨_, rfl⟩
  rw [← hBX2] at st6
  have M2 : (sb2, Obj.cells #[.int .i64 1, .int .i64 2, .slice so2 1 sc2] 27 (0, 0)) ∈ BX2 := by rw [hBX2]; simp
  have N2 : ∀ p ∈ nb2, p ∈ BX2 := fun p hp => by rw [hBX2]; simp [hp]
  have N12 : ∀ p ∈ BX, p ∈ BX2 := fun p hp => by rw [hBX2]; simp [hp]
  have J2' : ∀ a, so2 = some a → ∃ o, (a.block, o) ∈ BX2 := fun a ha => by obtain ⟨o, ho⟩ := J2 a ha; exact ⟨o, N2 _ ho⟩
  clear J2 hBX2 st5
  have qB : Calls Try.prog 7 #[.pointer (some ⟨mb, 0, none⟩)] (w5.alloc (.cells #[.int .i64 1, .int .i64 2, .slice so2 1 sc2] 27)) fun x w' => x = .returned (.tuple #[.int .i64 2, .int .i64 0]) ∧ St w w' hb mb mg2 awL 3 BX2 := begin_s st6 (by decide)
  go_wp2_with fail
  refine qB.mono ?_
  rw [← hsb2]
  rintro x w7 ⟨rfl, st7⟩
  clear qB st6 hsb2
  have J2 := J2'
  have r1 := st7.box (N12 _ M1)
  have a0 : w7.cell? ⟨sb, 0, none⟩ = some (.int .i64 1) := by rw [blk_cell r1]; rfl
  have a1 : w7.cell? ⟨sb, 1, none⟩ = some (.int .i64 1) := by rw [blk_cell r1]; rfl
  have a2 : w7.cell? ⟨sb, 2, none⟩ = some (.slice so 0 sc) := by rw [blk_cell r1]; rfl
  obtain ⟨F7, hs7⟩ := st7.hs
  have qG := get_f hs7 (by omega) 7 (by omega) (by omega) ⟨#[107]⟩ (by decide) 1 1 [] so sc 1 (by omega) (by omega) (by simp) (I1 w7 (fun p hp => st7.box (N12 _ (N1 _ hp))))
  rw [show (⟨#[107]⟩ : ByteArray).data.toList = [107] from rfl, aw_g1] at qG
  have ST7 : Hid (St w w7 hb mb mg2 awL 3 BX2) := st7
  clear r1 hs7 st7
  go_wp2_with fail
  refine qG.mono ?_
  rintro x w8 ⟨⟨ro8, rc8, rfl, ho8⟩, t8⟩
  have st8 := ST7.out.no t8
  obtain ⟨g8, cap8, cur8, e8, gg8, hg8, p81, p82, p83, p84⟩ := ho8.2.resolve_left (fun h => by cases h.2)
  cases e8
  have st8' := ST7.out.add t8 [(g8, .cells cur8 92 (0, 0))] (fun p hp => by obtain rfl := List.mem_singleton.1 hp; exact ⟨gg8, hg8⟩)
  obtain ⟨BX3, hBX3⟩ : ∃ BX3, BX3 = BX2 ++ [(g8, Obj.cells cur8 92 (0, 0))] := ⟨_, rfl⟩
  rw [← hBX3] at st8'
  have N23 : ∀ p ∈ BX2, p ∈ BX3 := fun p hp => by rw [hBX3]; simp [hp]
  have HR8 : Hid (∀ W : World, W.heap[g8]? = some (.cells cur8 92 (0, 0)) → RdR W (some ⟨g8, 0, none⟩) 1 rc8 (rowC 5)) := fun W hW => RdR.of_own (base := w7.heap.size) ⟨ho8.1, .inr ⟨g8, _, cur8, rfl, gg8, hW, p81, p82, p83, p84⟩⟩ (by simp [rowC, Value.oneCell']) (by omega)
  have M8 : (g8, Obj.cells cur8 92 (0, 0)) ∈ BX3 := by rw [hBX3]; simp
  clear ho8 t8 st8 hg8 p81 p82 p83 p84 gg8 qG a0 a1 a2 ST7 hBX3
  have r2 := st8'.box (N23 _ M2)
  have b0 : w8.cell? ⟨sb2, 0, none⟩ = some (.int .i64 1) := by rw [blk_cell r2]; rfl
  have b1 : w8.cell? ⟨sb2, 1, none⟩ = some (.int .i64 2) := by rw [blk_cell r2]; rfl
  have b2 : w8.cell? ⟨sb2, 2, none⟩ = some (.slice so2 1 sc2) := by rw [blk_cell r2]; rfl
  obtain ⟨F8, hs8⟩ := st8'.hs
  have qG := get_f hs8 (by omega) 7 (by omega) (by omega) ⟨#[107]⟩ (by decide) 1 2 [1] so2 sc2 2 (by omega) (by omega) (by simp) (I2 w8 (fun p hp => st8'.box (N23 _ (N2 _ hp))))
  rw [show (⟨#[107]⟩ : ByteArray).data.toList = [107] from rfl, aw_g2] at qG
  simp only [List.length_cons, List.length_nil, Nat.zero_add] at qG
  have ST8 : Hid (St w w8 hb mb mg2 awL 3 BX3) := st8'
  clear r2 hs8 st8'
  go_wp2_with fail
  refine qG.mono ?_
  rintro x wA ⟨rfl, t9⟩
  have hst := ST8.out.no t9
  clear t9 qG b0 b1 b2 ST8
  obtain ⟨BXo, hBXo⟩ : ∃ BXo, BXo = BX := ⟨_, rfl⟩
  obtain ⟨Mo2, No2, Jo2⟩ : ((sb2, Obj.cells #[.int .i64 1, .int .i64 2, .slice so2 1 sc2] 27 (0, 0)) ∈ BX3) ∧ (∀ p ∈ nb2, p ∈ BX3) ∧ (∀ a, so2 = some a → ∃ o, (a.block, o) ∈ BX3) := ⟨N23 _ M2, fun p hp => N23 _ (N2 p hp), fun a ha => by obtain ⟨o, ho⟩ := J2 a ha; exact ⟨o, N23 _ ho⟩⟩
  clear M1 N1 J1 J1' I1 N12 M2 N2 J2 J2' N23 hBXo BXo
  obtain ⟨M2, N2, J2⟩ := And.intro Mo2 (And.intro No2 Jo2)
  go_wp2_with fail
  obtain ⟨C, hC⟩ : ∃ C : List Value → World → Prop, C = fun s W => match s with
    | [] => St w W hb mb mg2 awL 3 BX3
    | [y] => St w W hb mb mg2 awL 3 BX3 ∧ ∃ g, y = .slice (some ⟨g, 0, none⟩) 1 1 ∧ RdR W (some ⟨g, 0, none⟩) 1 1 (rowC 6)
    | [_, x] => x = .int .i64 92 ∧ St w W hb mb mg2 awL (3 + 3) BX3
    | _ => False := ⟨_, rfl⟩
  have hK : ∀ s W, C s W → W.cell? ⟨sb2, 0, none⟩ = some (.int .i64 1) ∧ W.cell? ⟨sb2, 1, none⟩ = some (.int .i64 2) ∧ W.cell? ⟨sb2, 2, none⟩ = some (.slice so2 1 sc2) := fun s W hW => by
    rw [hC] at hW
    have hbb : W.heap[sb2]? = some (.cells #[.int .i64 1, .int .i64 2, .slice so2 1 sc2] 27 (0, 0)) := by
      match s, hW with
      | [], hW => exact St.box hW M2
      | [_], hW => exact St.box hW.1 M2
      | [_, _], hW => exact St.box hW.2 M2
    exact ⟨by rw [blk_cell hbb]; rfl, by rw [blk_cell hbb]; rfl, by rw [blk_cell hbb]; rfl⟩
  have h0' : C [] wA.drew := by rw [hC]; exact hst.no (Tch.refl _ _).drew
  have c1 : ∀ W, C [] W → Calls Try.prog 13 #[.int .i64 6] W fun x W' => ∃ y, x = .returned y ∧ C [y] W' := fun W hW => by
    rw [hC] at hW ⊢
    refine (row_any 6 W).mono ?_
    rintro x W' ⟨rfl, rfl⟩
    exact ⟨_, rfl, St.no hW (Tch.alloc _ _ _), _, rfl, row_rd 6 W⟩
  have s1 : ∀ y W, C [y] W → ∃ g, y = .slice (some ⟨g, 0, none⟩) 1 1 := fun y W hW => by
    rw [hC] at hW
    obtain ⟨_, g, e, _⟩ := hW
    exact ⟨g, e⟩
  have c2 : ∀ y W, C [y] W → Calls Try.prog 11 #[.pointer (some ⟨hb, 0, none⟩), .agg #[.int .i64 1, .int .i64 2, .slice so2 1 sc2], .int .i64 2, .int .i64 7, .string ⟨#[107]⟩, y] W fun x W' => ∃ u, x = .returned u ∧ C [y, u] W' := fun y W hW => by
    rw [hC] at hW ⊢
    obtain ⟨h1, g, rfl, h2⟩ := hW
    have q := insert_s h1 (by omega) 7 (by omega) (by omega) ⟨#[107]⟩ (by decide) 1 2 [1] so2 sc2 2 (by omega) (by omega) (by simp) (I2 W (fun p hp => St.box h1 (N2 p hp))) J2 _ 1 1 _ h2
    rw [show (⟨#[107]⟩ : ByteArray).data.toList = [107] from rfl, aw_i2] at q
    refine Calls.mono q ?_
    rintro x W' ⟨rfl, h3⟩
    exact ⟨_, rfl, rfl, h3⟩
  have HF : Hid (∀ y u W, C [y, u] W → u = .int .i64 92 ∧ St w W hb mb mg2 awL (3 + 3) BX3) := fun y u W hW => by
    rw [hC] at hW
    exact hW
  clear hC
  refine wp_region_ordv [3, 4] C 5 [0, 1, 2, 3, 4] (by kernel_rfl) (by kernel_rfl) h0' ?_
  clear h0'
  refine ordv_read rfl (by go_simp) (by rfl) ?_
  apply Exists.intro
  refine ⟨fun s' W hW b K Q hK' => ?_, fun K hK' => ?_⟩
  · obtain ⟨q0, q1, q2⟩ := hK _ W hW
    go_simp
    exact hK' W hW
  go_simp
  refine hK' _ ?_
  clear hK' K
  refine ordv_read rfl (by go_simp) (by rfl) ?_
  apply Exists.intro
  refine ⟨fun s' W hW b K Q hK' => ?_, fun K hK' => ?_⟩
  · obtain ⟨q0, q1, q2⟩ := hK _ W hW
    go_simp
    exact hK' W hW
  go_simp
  refine hK' _ ?_
  clear hK' K
  refine ordv_read rfl (by go_simp) (by rfl) ?_
  apply Exists.intro
  refine ⟨fun s' W hW b K Q hK' => ?_, fun K hK' => ?_⟩
  · obtain ⟨q0, q1, q2⟩ := hK _ W hW
    go_simp
    exact hK' W hW
  go_simp
  refine hK' _ ?_
  clear hK' K
  refine ordv_turn rfl (by go_simp) (by rfl) (fun W hW b K Q hK' => ?_) (fun u hu K hK' => ?_)
  · go_simp
    go_at_call 13
    refine (c1 W hW).mono ?_
    rintro x w' ⟨y, rfl, h1⟩
    exact hK' y w' h1
  obtain ⟨g9, rfl⟩ : ∃ g, u = .slice (some ⟨g, 0, none⟩) 1 1 := by
    obtain ⟨W', hW'⟩ := hu
    exact s1 u W' hW'
  clear hu c1 s1
  go_simp
  refine hK' _ ?_
  clear hK' K
  refine ordv_turn rfl (by go_simp) (by rfl) (fun W hW b K Q hK' => ?_) (fun u hu K hK' => ?_)
  · go_simp
    go_at_call 11
    refine (c2 _ W hW).mono ?_
    rintro x w' ⟨y, rfl, h1⟩
    exact hK' y w' h1
  obtain rfl : u = .int .i64 92 := by
    obtain ⟨W', hW'⟩ := hu
    exact (HF.out _ u W' hW').1
  clear hu c2
  go_simp
  refine hK' _ ?_
  clear hK' K
  refine ordv_nil ?_
  intro wB hwB
  have hstB := (HF.out _ _ wB hwB).2
  clear hK HF hwB C
  clear hst
  have qC : Calls Try.prog 19 #[.pointer (some ⟨mb, 0, none⟩), .int .i64 1] wB fun x w' => x = .returned (.int .i64 0) ∧ St w w' hb mb aw3 awL (3 + 3) BX3 := hstB.kept (X := fun x => x = .returned (.int .i64 0)) (fun _ hs _ _ => commit_h (t := ⟨1, 1, []⟩) hs rfl (by decide) (by omega) (by omega))
  clear hstB
  go_wp2_with fail
  refine qC.mono ?_
  rintro x wC ⟨rfl, stC⟩
  clear qC
  have qS := snap_s stC
  go_wp2_with fail
  refine qS.mono ?_
  rintro x wD ⟨so4, sc4, nb4, rfl, stD, tD, J4, I4⟩
  clear qS stC tD J4
  simp only [List.headD_cons, List.length_cons, List.length_nil] at stD ⊢
  obtain ⟨F9, hs9⟩ := stD.hs
  have qG : Calls Try.prog 17 #[.pointer (some ⟨hb, 0, none⟩), .agg #[.int .i64 2, .int .i64 3, .slice so4 1 sc4], .int .i64 0, .int .i64 7, .string ⟨#[107]⟩] wD fun x w' => GetOut wD (some awV) x w' := get_f hs9 (by omega) 7 (by omega) (by omega) ⟨#[107]⟩ (by decide) 2 3 [2] so4 sc4 0 (by omega) (by omega) (by simp) (I4 wD (fun p hp => stD.box (List.mem_append.2 (.inr hp))))
  have STD : Hid (St w wD hb mb aw3 awL (3 + 3) (BX3 ++ nb4)) := stD
  clear hs9 stD
  go_wp2_with fail
  refine qG.mono ?_
  rintro x wE ⟨⟨roE, rcE, rfl, hoE⟩, tE⟩
  have hE8 : wE.heap[g8]? = some (.cells cur8 92 (0, 0)) := (STD.out.no tE).box (List.mem_append.2 (.inl M8))
  have hrE : RdR wE roE 1 rcE (rowC 5) := RdR.of_own hoE (by simp [rowC, Value.oneCell']) (by omega)
  have hr8 := HR8.out wE hE8
  have TE : Hid (Tch (fun _ => False) w wE) := (STD.out.no tE).tch
  have q1 := row_any 5 wE
  clear qG hoE tE STD hE8 HR8 M8 I2 Mo2 No2 Jo2 M2 N2 J2 I4
  have HrE : Hid (RdR wE roE 1 rcE (rowC 5)) := hrE
  have Hr8 : Hid (RdR wE (some ⟨g8, 0, none⟩) 1 rc8 (rowC 5)) := hr8
  clear hrE hr8
  go_wp2_with fail
  refine q1.mono ?_
  rintro x wF ⟨rfl, hF⟩
  clear q1
  have tF : Tch (fun _ => False) wE wF := by rw [hF]; exact Tch.alloc _ _ _
  have q2 := same_any 5 (some ⟨g8, 0, none⟩) (some ⟨wE.heap.size, 0, none⟩) rc8 1 wF (Hr8.out.no tF) (by rw [hF]; exact row_rd 5 wE)
  have TF : Hid (Tch (fun _ => False) wE wF) := tF
  clear tF hF
  go_wp2_with fail
  refine q2.mono ?_
  rintro x wG ⟨rfl, tG⟩
  clear q2
  have TG : Hid (Tch (fun _ => False) wE wG) := TF.out.trans' tG
  clear tG
  have q3 := row_any 5 wG
  go_wp2_with fail
  refine q3.mono ?_
  rintro x wH ⟨rfl, hH⟩
  clear q3
  have tH : Tch (fun _ => False) wG wH := by rw [hH]; exact Tch.alloc _ _ _
  have q4 := same_any 5 roE (some ⟨wG.heap.size, 0, none⟩) rcE 1 wH (HrE.out.no (TG.out.trans' tH)) (by rw [hH]; exact row_rd 5 wG)
  have TH : Hid (Tch (fun _ => False) w wH) := TE.out.trans' (TG.out.trans' tH)
  clear tH hH
  go_wp2_with fail
  refine q4.mono ?_
  rintro x wI ⟨rfl, tI⟩
  clear q4
  have TI : Hid (Tch (fun _ => False) w wI) := TH.out.trans' tI
  clear tI
  go_wp2
  go_ret
  exact ⟨rfl, TI.out⟩
end Go.Proofs.Ytjbehnoococelaa
