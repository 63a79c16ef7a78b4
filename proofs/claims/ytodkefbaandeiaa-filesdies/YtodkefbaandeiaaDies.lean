/- FilesDies, walked. -/
import Derived.Test.YtodkefbaandeiaaFour
import Derived.Test.YtodkefbaandeiaaDies0
namespace Go.Proofs.Ytodkefbaandeiaa
open Go.RowKit Go.ChangeMaps

/-- The cells of a list of numbers. -/
def Ints (w : World) (ao : Option Addr) (len : Nat) : Prop := ∀ i, i < len → ∃ b off x, ao = some ⟨b, off, none⟩ ∧ w.cell? ⟨b, off + i, none⟩ = some (.int .i64 x) ∧ -9223372036854775808 ≤ x ∧ x ≤ 9223372036854775807
theorem Ints.tch {w w' : World} {ao : Option Addr} {len : Nat} (h : Ints w ao len) (t : Tch (fun _ => False) w w') : Ints w' ao len := fun i hi => by
  obtain ⟨b, off, x, h1, h2, h3⟩ := h i hi
  exact ⟨b, off, x, h1, (t.cell (p := ⟨b, off + i, none⟩) (cell_lt h2) (fun h => h)).trans h2, h3⟩

theorem four_m : (fourD 4).m = [(nA, ⟨[], 0⟩), (nB, ⟨[], 0⟩), (nC, ⟨[], 0⟩), ([100, 45, 51], ⟨[], 0⟩)] := rfl
theorem di_start (n m : Nat) (hn : 1 ≤ n) : DI n m 1 0 { fourD 4 with die := n, fail := m } := by
  refine ⟨?_, rfl, ?_, fun _ => rfl, fun _ => rfl⟩
  · show MI 1 (fourD 4).m
    rw [four_m]
    refine ⟨⟨_, rfl⟩, ⟨_, rfl⟩, ⟨_, rfl⟩, fun j _ _ => ?_, by decide, by decide, ?_⟩
    · simp [getL, nmI, nA, nB, nC]
    · unfold Apart; decide
  · show false = _
    simp; omega

theorem arm_neg (d : Dsk) (k : Int) (h : k < 0) : d.arm k = (1, d) := by simp [Dsk.arm, h]
theorem fail_neg (d : Dsk) (k : Int) (h : k < 0) : d.failSync k = (1, d) := by simp [Dsk.failSync, h]
theorem arm_four (p : Nat) : (fourD 4).arm (1 + (p : Int)) = (0, { fourD 4 with die := 1 + p }) := by
  unfold Dsk.arm
  rw [if_neg (by omega), if_neg (by decide), show (1 + (p : Int)).toNat = 1 + p by omega]
theorem fail_four (p q : Nat) : ({ fourD 4 with die := 1 + p } : Dsk).failSync (1 + (q : Int)) = (0, { fourD 4 with die := 1 + p, fail := 1 + q }) := by
  unfold Dsk.failSync
  rw [if_neg (by omega), if_neg (show ¬ (fourD 4).dead = true by decide), show (1 + (q : Int)).toNat = 1 + q by omega]

/-- The end. -/
theorem dead_ask {d : Dsk} (hd : d.dead = true) {x : Nm} (hx : okN x = true) : d.ask x = 2 := by simp [Dsk.ask, Dsk.refuse, hx, hd]
structure Lives (d : Dsk) (k : Nat) : Prop where
  dead : d.dead = false
  die : d.die = 0
  fail : d.fail = 0
  cap : d.cap = 100000
  used : d.used ≤ k
  fa : ∃ f, getL nA d.m = some f
  ap : Apart d.m
theorem Lives.ask {d : Dsk} {k : Nat} (h : Lives d k) : d.ask nA = 0 := by
  obtain ⟨f, hf⟩ := h.fa
  have : okN nA = true := rfl
  simp [Dsk.ask, Dsk.refuse, this, h.dead, hf]
theorem lives_append {d : Dsk} (h : Lives d 22) : (d.append nA [121]).1 = 0 ∧ Lives (d.append nA [121]).2 23 := by
  obtain ⟨f, hf⟩ := h.fa
  have hu := h.used
  have e : d.append nA [121] = (0, { d.set nA ⟨(d.file nA).bs ++ [121], (d.file nA).la⟩ with die := d.die - 1 }) := by
    unfold Dsk.append
    rw [if_neg (by simp [h.ask]), if_neg (by rw [h.cap]; simp only [List.length_cons, List.length_nil]; omega)]
    unfold Dsk.act
    rw [if_neg (by rw [h.die]; omega)]
  rw [e]
  refine ⟨rfl, h.dead, by show d.die - 1 = 0; rw [h.die], h.fail, h.cap, ?_, ⟨_, getL_setL_same hf⟩, h.ap.set _ _⟩
  have h1 := sumL_setL lenF nA (a := (⟨(d.file nA).bs ++ [121], (d.file nA).la⟩ : Fl)) h.ap hf
  have h2 : d.file nA = f := by simp [Dsk.file, hf]
  rw [h2] at h1
  have h3 : lenF (⟨f.bs ++ [121], f.la⟩ : Fl) = lenF f + 1 := by simp [lenF]
  show sumL lenF (setL nA _ d.m) ≤ 23
  rw [h2]
  unfold Dsk.used at hu
  omega
theorem lives_sync {d : Dsk} {k : Nat} (h : Lives d k) : (d.sync nA).1 = 0 ∧ Lives (d.sync nA).2 k ∧ (d.sync nA).2.pending nA = 0 := by
  obtain ⟨f, hf⟩ := h.fa
  have h2 : d.file nA = f := by simp [Dsk.file, hf]
  have e : d.sync nA = (0, { d.set nA ⟨f.bs, f.bs.length⟩ with fail := d.fail - 1, die := d.die - 1 }) := by
    unfold Dsk.sync
    rw [if_neg (by simp [h.ask]), if_neg (by rw [h.die]; omega), if_neg (by rw [h.fail]; omega), h2]
  rw [e]
  refine ⟨rfl, ⟨h.dead, by show d.die - 1 = 0; rw [h.die], by show d.fail - 1 = 0; rw [h.fail], h.cap, ?_, ⟨_, getL_setL_same hf⟩, h.ap.set _ _⟩, ?_⟩
  · have h1 := sumL_setL lenF nA (a := (⟨f.bs, f.bs.length⟩ : Fl)) h.ap hf
    have hu := h.used
    unfold Dsk.used at hu
    show sumL lenF (setL nA _ d.m) ≤ k
    have h3 : lenF (⟨f.bs, f.bs.length⟩ : Fl) = lenF f := rfl
    omega
  · have : Dsk.file { d.set nA ⟨f.bs, f.bs.length⟩ with fail := d.fail - 1, die := d.die - 1 } nA = ⟨f.bs, f.bs.length⟩ := by
      show (getL nA (setL nA _ d.m)).getD _ = _
      rw [getL_setL_same hf]; rfl
    unfold Dsk.pending
    rw [this]; simp
theorem di_torn {n m t : Nat} {d : Dsk} (h : DI n m 23 t d) : Lives (d.torn fun _ => 0) 22 := by
  obtain ⟨f, hf⟩ := h.mi.fa
  refine ⟨rfl, rfl, rfl, h.cap, ?_, ⟨_, by rw [torn_get, hf]; rfl⟩, ?_⟩
  · have h1 := torn_used d (fun _ => 0)
    have h2 := h.mi.used
    unfold Dsk.used at h1 h2 ⊢
    omega
  · show Apart (d.m.map _)
    unfold Apart
    rw [List.pairwise_map]
    exact h.mi.ap

theorem conv_one (n : Nat) (w : World) (h1 : n ≤ 255) : (convert 31 9 (.slice (some ⟨w.heap.size, 0, none⟩) 1 1)).run Try.prog (w.alloc (.cells #[.int .u8 (n : Int)] 5)) = .ok (.string ⟨#[UInt8.ofNat n]⟩) (w.alloc (.cells #[.int .u8 (n : Int)] 5)) := by
  have := run_convert_bytes_back (P := Try.prog) (w.alloc (.cells #[.int .u8 (n : Int)] 5)) 31 9 5 ⟨w.heap.size, 0, none⟩ 1 [UInt8.ofNat n] Try.underlying31 Try.underlying5 Try.underlying9 (fun j hj => by
    rcases j with _ | j
    · have e : ((UInt8.ofNat n).toNat : Int) = n := by simp; omega
      simp only [List.getElem_cons_zero]
      rw [e]; simp [Addr.add]
    · simp at hj)
  simpa using this
theorem nm_list (j : Nat) : ((⟨#[110]⟩ : ByteArray) ++ ⟨#[UInt8.ofNat (97 + (j + 1))]⟩).data.toList = nmI (j + 1) := by simp [nmI]
theorem create_nm (b : Nat) (d : Dsk) (F : Nat → Prop) (j : Nat) (w : World) (h : DF w b d F) (hn : d.m.length < maxLen) :
    Calls Try.prog 15 #[.pointer (some ⟨b, 0, none⟩), .string (⟨#[110]⟩ ++ ⟨#[UInt8.ofNat (97 + (j + 1))]⟩)] w fun x w' => x = .returned (.int .i64 (d.create (nmI (j + 1))).1) ∧ DF w' b (d.create (nmI (j + 1))).2 F ∧ Kept F w w' := by
  have := create_f b d F w (⟨#[110]⟩ ++ ⟨#[UInt8.ofNat (97 + (j + 1))]⟩) h hn
  rw [nm_list] at this
  exact this

set_option maxHeartbeats 16000000 in
set_option maxRecDepth 100000 in
theorem dies_any (n m : Int) (ao : Option Addr) (len cap : Nat) (w : World) (hn1 : -9223372036854775808 ≤ n) (hn2 : n ≤ 9223372036854775807) (hm1 : -9223372036854775808 ≤ m) (hm2 : m ≤ 9223372036854775807) (hK : Ints w ao len) :
    Calls Try.prog 3 #[.int .i64 n, .int .i64 m, .slice ao len cap] w fun x w' => x = .returned (.bool true) ∧ Tch (fun _ => False) w w' := by
  have HK : Hid (∀ W, Tch (fun _ => False) w W → Ints W ao len) := fun W t => hK.tch t
  clear hK
  go_enter Try.func3, Try.ntmps3
  go_wp2_with fail
  refine (four_any w).mono ?_
  rintro x w1 ⟨b, rfl, h1, t1⟩
  go_wp2_with fail
  refine (pick_any n 20 _ hn1 hn2 (by omega) (by omega)).mono ?_
  rintro x w2 ⟨rfl, hw2⟩
  subst hw2
  have hnr := pk_rng n 20 (by omega)
  obtain ⟨p, hp⟩ : ∃ p : Nat, pk n 20 = p := ⟨(pk n 20).toNat, by omega⟩
  rw [hp] at hnr ⊢
  have hp20 : p < 20 := by omega
  clear hp hnr
  go_wp2_with fail
  refine (pick_any m 9 _ hm1 hm2 (by omega) (by omega)).mono ?_
  rintro x w3 ⟨rfl, hw3⟩
  subst hw3
  have hmr := pk_rng m 9 (by omega)
  obtain ⟨q, hq⟩ : ∃ q : Nat, pk m 9 = q := ⟨(pk m 9).toNat, by omega⟩
  rw [hq] at hmr ⊢
  have hq9 : q < 9 := by omega
  clear hq hmr hn1 hn2 hm1 hm2
  go_wp2_with fail
  have ha := arm_f b (fourD 4) (fun i => i < w.heap.size) _ (1 + (p : Int)) h1 (by omega)
  rw [arm_four] at ha
  refine ha.mono ?_
  rintro x w4 ⟨rfl, h4, t4⟩
  have T4 : Tch (fun _ => False) w w4 := t1.trans t4 (fun i hi hn => hn hi)
  clear ha h1 t1 t4
  go_wp2_with fail
  have hb := failSync_f b _ (fun i => i < w.heap.size) _ (1 + (q : Int)) h4 (by omega)
  rw [fail_four] at hb
  refine hb.mono ?_
  rintro x w5 ⟨rfl, h5, t5⟩
  have T5 : Tch (fun _ => False) w w5 := T4.trans t5 (fun i hi hn => hn hi)
  clear hb h4 T4 t5
  go_wp2_with fail
  have hb := arm_f b _ (fun i => i < w.heap.size) _ (-1) h5 (by omega)
  rw [arm_neg _ _ (by omega)] at hb
  refine hb.mono ?_
  rintro x w6 ⟨rfl, h6, t6⟩
  have T6 : Tch (fun _ => False) w w6 := T5.trans t6 (fun i hi hn => hn hi)
  clear hb h5 T5 t6
  go_wp2_with fail
  have hb := failSync_f b _ (fun i => i < w.heap.size) _ (-5) h6 (by omega)
  rw [fail_neg _ _ (by omega)] at hb
  refine hb.mono ?_
  rintro x w7 ⟨rfl, h7, t7⟩
  have T7 : Tch (fun _ => False) w w7 := T6.trans t7 (fun i hi hn => hn hi)
  clear hb h6 T6 t7
  have D7 : Hid (DI (1 + p) (1 + q) 1 0 { fourD 4 with die := 1 + p, fail := 1 + q }) := di_start _ _ (by omega)
  obtain ⟨d7, hd7⟩ : ∃ d7, d7 = ({ fourD 4 with die := 1 + p, fail := 1 + q } : Dsk) := ⟨_, rfl⟩
  have h7' : DF w7 b d7 (fun i => i < w.heap.size) := by rw [hd7]; exact h7
  rw [← hd7] at D7
  clear h7 hd7
  go_wp2_with fail
  go_loopw [11, 10] (fun i s wr => ∃ (j t : Nat) (d : Dsk), i = .int .i64 ((j : Int) + 1) ∧ s = .int .i64 t ∧ j ≤ 22 ∧ t ≤ j ∧ DI (1 + p) (1 + q) (j + 1) t d ∧ DF wr b d (fun i => i < w.heap.size) ∧ Tch (fun _ => False) w wr) (fun i _ _ => 23 - (intOf i).toNat)
  case atStart => exact ⟨0, 0, d7, rfl, rfl, by omega, by omega, D7.out, h7', T7⟩
  case round =>
    obtain ⟨j, t, d, rfl, rfl, hj, ht, hI0, hD, hT⟩ := hrel
    have hI : Hid (DI (1 + p) (1 + q) (j + 1) t d) := hI0
    clear D7 h7' T7 hI0
    by_cases hlt : (j : Int) + 1 ≤ 22
    · have hml : d.m.length < maxLen := by have := hI.out.mi.len; unfold maxLen; omega
      by_cases hkl : (j : Int) + 1 ≤ len
      · obtain ⟨kb, off, y, rfl, hy, hy1, hy2⟩ := HK.out wr hT j (by omega)
        have hidx : (j : Int) < len := by omega
        go_wp2_with fail
        refine (pick_any y 5 _ hy1 hy2 (by omega) (by omega)).mono ?_
        rintro x w8 ⟨rfl, hw8⟩
        subst hw8
        have hr5 := pk_rng y 5 (by omega)
        obtain ⟨kd, hkd⟩ : ∃ kd, kd = pk y 5 := ⟨_, rfl⟩
        rw [← hkd] at hr5 ⊢
        have hk5 : kd = 0 ∨ kd = 1 ∨ kd = 2 ∨ kd = 3 ∨ kd = 4 := by omega
        clear hkd hr5 hy hy1 hy2
        rcases hk5 with rfl | rfl | rfl | rfl | rfl
        · go_wp2_with fail
          have hA := di_append hI.out (by omega)
          have hc : Calls _ _ _ _ (fun x w' => x = .returned (.int .i64 (d.append nA [120]).1) ∧ DF w' b (d.append nA [120]).2 (fun i => i < w.heap.size) ∧ Kept (fun i => i < w.heap.size) _ w') := append_f b d (fun i => i < w.heap.size) _ ⟨#[97]⟩ ⟨#[120]⟩ hD
          rcases hv : d.append nA [120] with ⟨r, d'⟩
          rw [hv] at hc hA
          obtain ⟨hr, hI'⟩ := hA
          simp only at hr
          have HI : Hid (_) := hI'
          have hdd := hI'.dead
          clear hv hI'
          by_cases hN : 1 + (p : Int) ≤ (j : Int) + 1
          · rw [if_pos (by omega)] at hr
            subst hr
            have hd2 : d'.dead = true := by rw [hdd]; simp; omega
            clear hdd
            go_wp2_with fail
            refine hc.mono ?_
            rintro x w8 ⟨rfl, h8, t8⟩
            have T8 : Tch (fun _ => False) w w8 := hT.trans t8 (fun i hi hn => hn hi)
            have hdd := dead_f b d' _ _ h8
            rw [hd2] at hdd
            clear hc t8 hT hD
            go_wp2_with fail
            refine hdd.mono ?_
            rintro x w9 ⟨rfl, hw9⟩
            subst hw9
            go_wp2
            go_roundw
            case rel => exact ⟨j + 1, t, d', by go_num, by go_num, by omega, by omega, HI.out, h8, T8⟩
            case measure => simp [intOf]; omega
          · rw [if_neg (by omega)] at hr
            subst hr
            have hd2 : d'.dead = false := by rw [hdd]; simp; omega
            clear hdd
            go_wp2_with fail
            refine hc.mono ?_
            rintro x w8 ⟨rfl, h8, t8⟩
            have T8 : Tch (fun _ => False) w w8 := hT.trans t8 (fun i hi hn => hn hi)
            have hdd := dead_f b d' _ _ h8
            rw [hd2] at hdd
            clear hc t8 hT hD
            go_wp2_with fail
            refine hdd.mono ?_
            rintro x w9 ⟨rfl, hw9⟩
            subst hw9
            go_wp2
            go_roundw
            case rel => exact ⟨j + 1, t, d', by go_num, by go_num, by omega, by omega, HI.out, h8, T8⟩
            case measure => simp [intOf]; omega
        · go_wp2_with fail
          have hA := di_sync hI.out
          have hc : Calls _ _ _ _ (fun x w' => x = .returned (.int .i64 (d.sync nA).1) ∧ DF w' b (d.sync nA).2 (fun i => i < w.heap.size) ∧ Kept (fun i => i < w.heap.size) _ w') := sync_f b d (fun i => i < w.heap.size) _ ⟨#[97]⟩ hD
          rcases hv : d.sync nA with ⟨r, d'⟩
          rw [hv] at hc hA
          obtain ⟨hr, hI'⟩ := hA
          simp only at hr
          have HI : Hid (_) := hI'
          have hdd := hI'.dead
          clear hv hI'
          by_cases hs : (t : Int) + 1 = 1 + (q : Int)
          · by_cases hN : 1 + (p : Int) ≤ (j : Int) + 1
            · rw [if_pos (by omega)] at hr
              subst hr
              have hd2 : d'.dead = true := by rw [hdd]; simp; omega
              clear hdd
              go_wp2_with fail
              refine hc.mono ?_
              rintro x w8 ⟨rfl, h8, t8⟩
              have T8 : Tch (fun _ => False) w w8 := hT.trans t8 (fun i hi hn => hn hi)
              have hdd := dead_f b d' _ _ h8
              rw [hd2] at hdd
              clear hc t8 hT hD
              go_wp2_with fail
              refine hdd.mono ?_
              rintro x w9 ⟨rfl, hw9⟩
              subst hw9
              go_wp2
              go_roundw
              case rel => exact ⟨j + 1, t + 1, d', by go_num, by go_num, by omega, by omega, HI.out, h8, T8⟩
              case measure => simp [intOf]; omega
            · rw [if_neg (by omega), if_pos (by omega)] at hr
              subst hr
              have hd2 : d'.dead = false := by rw [hdd]; simp; omega
              clear hdd
              go_wp2_with fail
              refine hc.mono ?_
              rintro x w8 ⟨rfl, h8, t8⟩
              have T8 : Tch (fun _ => False) w w8 := hT.trans t8 (fun i hi hn => hn hi)
              have hdd := dead_f b d' _ _ h8
              rw [hd2] at hdd
              clear hc t8 hT hD
              go_wp2_with fail
              refine hdd.mono ?_
              rintro x w9 ⟨rfl, hw9⟩
              subst hw9
              go_wp2
              go_roundw
              case rel => exact ⟨j + 1, t + 1, d', by go_num, by go_num, by omega, by omega, HI.out, h8, T8⟩
              case measure => simp [intOf]; omega
          · by_cases hN : 1 + (p : Int) ≤ (j : Int) + 1
            · rw [if_pos (by omega)] at hr
              subst hr
              have hd2 : d'.dead = true := by rw [hdd]; simp; omega
              clear hdd
              go_wp2_with fail
              refine hc.mono ?_
              rintro x w8 ⟨rfl, h8, t8⟩
              have T8 : Tch (fun _ => False) w w8 := hT.trans t8 (fun i hi hn => hn hi)
              have hdd := dead_f b d' _ _ h8
              rw [hd2] at hdd
              clear hc t8 hT hD
              go_wp2_with fail
              refine hdd.mono ?_
              rintro x w9 ⟨rfl, hw9⟩
              subst hw9
              go_wp2
              go_roundw
              case rel => exact ⟨j + 1, t + 1, d', by go_num, by go_num, by omega, by omega, HI.out, h8, T8⟩
              case measure => simp [intOf]; omega
            · rw [if_neg (by omega), if_neg (by omega)] at hr
              subst hr
              have hd2 : d'.dead = false := by rw [hdd]; simp; omega
              clear hdd
              go_wp2_with fail
              refine hc.mono ?_
              rintro x w8 ⟨rfl, h8, t8⟩
              have T8 : Tch (fun _ => False) w w8 := hT.trans t8 (fun i hi hn => hn hi)
              have hdd := dead_f b d' _ _ h8
              rw [hd2] at hdd
              clear hc t8 hT hD
              go_wp2_with fail
              refine hdd.mono ?_
              rintro x w9 ⟨rfl, hw9⟩
              subst hw9
              go_wp2
              go_roundw
              case rel => exact ⟨j + 1, t + 1, d', by go_num, by go_num, by omega, by omega, HI.out, h8, T8⟩
              case measure => simp [intOf]; omega
        · go_wp2_with fail
          have hA := di_trunc hI.out
          have hc : Calls _ _ _ _ (fun x w' => x = .returned (.int .i64 (d.trunc nB 0).1) ∧ DF w' b (d.trunc nB 0).2 (fun i => i < w.heap.size) ∧ Kept (fun i => i < w.heap.size) _ w') := trunc_f b d (fun i => i < w.heap.size) _ ⟨#[98, 46, 49]⟩ 0 hD
          rcases hv : d.trunc nB 0 with ⟨r, d'⟩
          rw [hv] at hc hA
          obtain ⟨hr, hI'⟩ := hA
          simp only at hr
          have HI : Hid (_) := hI'
          have hdd := hI'.dead
          clear hv hI'
          by_cases hN : 1 + (p : Int) ≤ (j : Int) + 1
          · rw [if_pos (by omega)] at hr
            subst hr
            have hd2 : d'.dead = true := by rw [hdd]; simp; omega
            clear hdd
            go_wp2_with fail
            refine hc.mono ?_
            rintro x w8 ⟨rfl, h8, t8⟩
            have T8 : Tch (fun _ => False) w w8 := hT.trans t8 (fun i hi hn => hn hi)
            have hdd := dead_f b d' _ _ h8
            rw [hd2] at hdd
            clear hc t8 hT hD
            go_wp2_with fail
            refine hdd.mono ?_
            rintro x w9 ⟨rfl, hw9⟩
            subst hw9
            go_wp2
            go_roundw
            case rel => exact ⟨j + 1, t, d', by go_num, by go_num, by omega, by omega, HI.out, h8, T8⟩
            case measure => simp [intOf]; omega
          · rw [if_neg (by omega)] at hr
            subst hr
            have hd2 : d'.dead = false := by rw [hdd]; simp; omega
            clear hdd
            go_wp2_with fail
            refine hc.mono ?_
            rintro x w8 ⟨rfl, h8, t8⟩
            have T8 : Tch (fun _ => False) w w8 := hT.trans t8 (fun i hi hn => hn hi)
            have hdd := dead_f b d' _ _ h8
            rw [hd2] at hdd
            clear hc t8 hT hD
            go_wp2_with fail
            refine hdd.mono ?_
            rintro x w9 ⟨rfl, hw9⟩
            subst hw9
            go_wp2
            go_roundw
            case rel => exact ⟨j + 1, t, d', by go_num, by go_num, by omega, by omega, HI.out, h8, T8⟩
            case measure => simp [intOf]; omega
        · go_wp2_with fail
          have hA := di_rename hI.out
          have hc : Calls _ _ _ _ (fun x w' => x = .returned (.int .i64 (d.rename nC nC).1) ∧ DF w' b (d.rename nC nC).2 (fun i => i < w.heap.size) ∧ Kept (fun i => i < w.heap.size) _ w') := rename_f b d (fun i => i < w.heap.size) _ ⟨#[99, 95, 50]⟩ ⟨#[99, 95, 50]⟩ hD
          rcases hv : d.rename nC nC with ⟨r, d'⟩
          rw [hv] at hc hA
          obtain ⟨hr, hI'⟩ := hA
          simp only at hr
          have HI : Hid (_) := hI'
          have hdd := hI'.dead
          clear hv hI'
          by_cases hN : 1 + (p : Int) ≤ (j : Int) + 1
          · rw [if_pos (by omega)] at hr
            subst hr
            have hd2 : d'.dead = true := by rw [hdd]; simp; omega
            clear hdd
            go_wp2_with fail
            refine hc.mono ?_
            rintro x w8 ⟨rfl, h8, t8⟩
            have T8 : Tch (fun _ => False) w w8 := hT.trans t8 (fun i hi hn => hn hi)
            have hdd := dead_f b d' _ _ h8
            rw [hd2] at hdd
            clear hc t8 hT hD
            go_wp2_with fail
            refine hdd.mono ?_
            rintro x w9 ⟨rfl, hw9⟩
            subst hw9
            go_wp2
            go_roundw
            case rel => exact ⟨j + 1, t, d', by go_num, by go_num, by omega, by omega, HI.out, h8, T8⟩
            case measure => simp [intOf]; omega
          · rw [if_neg (by omega)] at hr
            subst hr
            have hd2 : d'.dead = false := by rw [hdd]; simp; omega
            clear hdd
            go_wp2_with fail
            refine hc.mono ?_
            rintro x w8 ⟨rfl, h8, t8⟩
            have T8 : Tch (fun _ => False) w w8 := hT.trans t8 (fun i hi hn => hn hi)
            have hdd := dead_f b d' _ _ h8
            rw [hd2] at hdd
            clear hc t8 hT hD
            go_wp2_with fail
            refine hdd.mono ?_
            rintro x w9 ⟨rfl, hw9⟩
            subst hw9
            go_wp2
            go_roundw
            case rel => exact ⟨j + 1, t, d', by go_num, by go_num, by omega, by omega, HI.out, h8, T8⟩
            case measure => simp [intOf]; omega
        · have hcv := conv_one (97 + (j + 1)) w8 (by omega)
          rw [show ((97 + (j + 1) : Nat) : Int) = 97 + ((j : Int) + 1) by omega] at hcv
          have tA : Tch (fun _ => False) w8 (w8.alloc (.cells #[.int .u8 (97 + ((j : Int) + 1))] 5)) := Tch.alloc _ _ _
          have hTc := hT.trans' tA
          have hc0 := create_nm b d (fun i => i < w.heap.size) j _ (hD.no tA) hml
          obtain ⟨nb, hnb⟩ : ∃ nb : UInt8, nb = UInt8.ofNat (97 + (j + 1)) := ⟨_, rfl⟩
          rw [← hnb] at hcv hc0
          clear hnb
          go_wp2_with fail
          have hA := di_create hI.out (by omega) (by omega)
          have hc : Calls _ _ _ _ (fun x w' => x = .returned (.int .i64 (d.create (nmI (j + 1))).1) ∧ DF w' b (d.create (nmI (j + 1))).2 (fun i => i < w.heap.size) ∧ Kept (fun i => i < w.heap.size) _ w') := hc0
          rcases hv : d.create (nmI (j + 1)) with ⟨r, d'⟩
          rw [hv] at hc hA
          obtain ⟨hr, hI'⟩ := hA
          simp only at hr
          have HI : Hid (_) := hI'
          have hdd := hI'.dead
          clear hv hI'
          by_cases hN : 1 + (p : Int) ≤ (j : Int) + 1
          · rw [if_pos (by omega)] at hr
            subst hr
            have hd2 : d'.dead = true := by rw [hdd]; simp; omega
            clear hdd
            go_wp2_with fail
            refine hc.mono ?_
            rintro x w8 ⟨rfl, h8, t8⟩
            have T8 : Tch (fun _ => False) w w8 := hTc.trans t8 (fun i hi hn => hn hi)
            have hdd := dead_f b d' _ _ h8
            rw [hd2] at hdd
            clear hc t8 hT hD
            go_wp2_with fail
            refine hdd.mono ?_
            rintro x w9 ⟨rfl, hw9⟩
            subst hw9
            go_wp2
            go_roundw
            case rel => exact ⟨j + 1, t, d', by go_num, by go_num, by omega, by omega, HI.out, h8, T8⟩
            case measure => simp [intOf]; omega
          · rw [if_neg (by omega)] at hr
            subst hr
            have hd2 : d'.dead = false := by rw [hdd]; simp; omega
            clear hdd
            go_wp2_with fail
            refine hc.mono ?_
            rintro x w8 ⟨rfl, h8, t8⟩
            have T8 : Tch (fun _ => False) w w8 := hTc.trans t8 (fun i hi hn => hn hi)
            have hdd := dead_f b d' _ _ h8
            rw [hd2] at hdd
            clear hc t8 hT hD
            go_wp2_with fail
            refine hdd.mono ?_
            rintro x w9 ⟨rfl, hw9⟩
            subst hw9
            go_wp2
            go_roundw
            case rel => exact ⟨j + 1, t, d', by go_num, by go_num, by omega, by omega, HI.out, h8, T8⟩
            case measure => simp [intOf]; omega
      · go_wp2_with fail
        have hA := di_append hI.out (by omega)
        have hc : Calls _ _ _ _ (fun x w' => x = .returned (.int .i64 (d.append nA [120]).1) ∧ DF w' b (d.append nA [120]).2 (fun i => i < w.heap.size) ∧ Kept (fun i => i < w.heap.size) _ w') := append_f b d (fun i => i < w.heap.size) _ ⟨#[97]⟩ ⟨#[120]⟩ hD
        rcases hv : d.append nA [120] with ⟨r, d'⟩
        rw [hv] at hc hA
        obtain ⟨hr, hI'⟩ := hA
        simp only at hr
        have HI : Hid (_) := hI'
        have hdd := hI'.dead
        clear hv hI'
        by_cases hN : 1 + (p : Int) ≤ (j : Int) + 1
        · rw [if_pos (by omega)] at hr
          subst hr
          have hd2 : d'.dead = true := by rw [hdd]; simp; omega
          clear hdd
          go_wp2_with fail
          refine hc.mono ?_
          rintro x w8 ⟨rfl, h8, t8⟩
          have T8 : Tch (fun _ => False) w w8 := hT.trans t8 (fun i hi hn => hn hi)
          have hdd := dead_f b d' _ _ h8
          rw [hd2] at hdd
          clear hc t8 hT hD
          go_wp2_with fail
          refine hdd.mono ?_
          rintro x w9 ⟨rfl, hw9⟩
          subst hw9
          go_wp2
          go_roundw
          case rel => exact ⟨j + 1, t, d', by go_num, by go_num, by omega, by omega, HI.out, h8, T8⟩
          case measure => simp [intOf]; omega
        · rw [if_neg (by omega)] at hr
          subst hr
          have hd2 : d'.dead = false := by rw [hdd]; simp; omega
          clear hdd
          go_wp2_with fail
          refine hc.mono ?_
          rintro x w8 ⟨rfl, h8, t8⟩
          have T8 : Tch (fun _ => False) w w8 := hT.trans t8 (fun i hi hn => hn hi)
          have hdd := dead_f b d' _ _ h8
          rw [hd2] at hdd
          clear hc t8 hT hD
          go_wp2_with fail
          refine hdd.mono ?_
          rintro x w9 ⟨rfl, hw9⟩
          subst hw9
          go_wp2
          go_roundw
          case rel => exact ⟨j + 1, t, d', by go_num, by go_num, by omega, by omega, HI.out, h8, T8⟩
          case measure => simp [intOf]; omega
    · obtain rfl : j = 22 := by omega
      have hdead : d.dead = true := by rw [hI.out.dead]; simp; omega
      have k0 := size_f b d _ _ ⟨#[97]⟩ hD
      rw [show (d.size (ByteArray.mk #[97]).data.toList) = (0, 2) by simp [Dsk.size, dead_ask hdead (x := [97]) rfl]] at k0
      have k1 := read_f b d _ _ ⟨#[97]⟩ 0 0 hD (by omega)
      rw [show (d.read (ByteArray.mk #[97]).data.toList 0 0) = ([], 2) by simp [Dsk.read, dead_ask hdead (x := [97]) rfl]] at k1
      have k2 := create_f b d _ _ ⟨#[65]⟩ hD (by have := hI.out.mi.len; unfold maxLen; omega)
      rw [show (d.create (ByteArray.mk #[65]).data.toList) = (20, d) by simp [Dsk.create, Dsk.refuse, show okN [65] = false from rfl]] at k2
      have L0 : Hid (Lives (d.torn fun _ => 0) 22) := di_torn hI.out
      have HD : Hid (d.dead = true) := hdead
      clear hdead
      go_wp2_with fail
      refine k0.mono ?_
      rintro x w8 ⟨rfl, hw8⟩
      subst hw8
      go_wp2_with fail
      refine k1.mono ?_
      rintro x w9 ⟨rfl, hw9⟩
      subst hw9
      go_wp2_with fail
      refine k2.mono ?_
      rintro x w10 ⟨rfl, h10, t10⟩
      have T10 : Tch (fun _ => False) w w10 := hT.trans t10 (fun i hi hn => hn hi)
      clear k0 k1 k2 t10 hT hD
      have k3 := remove_f b d _ _ ⟨#[110, 111, 110, 101]⟩ h10
      rw [show (d.remove (ByteArray.mk #[110, 111, 110, 101]).data.toList) = (2, d) by simp [Dsk.remove, dead_ask HD.out (x := [110, 111, 110, 101]) rfl]] at k3
      go_wp2_with fail
      refine k3.mono ?_
      rintro x w11 ⟨rfl, h11, t11⟩
      have T11 : Tch (fun _ => False) w w11 := T10.trans t11 (fun i hi hn => hn hi)
      clear k3 t11 T10 h10
      have k4 := arm_f b d _ _ 1 h11 (by omega)
      rw [show d.arm 1 = (2, d) by simp [Dsk.arm, HD.out]] at k4
      go_wp2_with fail
      refine k4.mono ?_
      rintro x w12 ⟨rfl, h12, t12⟩
      have T12 : Tch (fun _ => False) w w12 := T11.trans t12 (fun i hi hn => hn hi)
      clear k4 t12 T11 h11
      have k5 := failSync_f b d _ _ 1 h12 (by omega)
      rw [show d.failSync 1 = (2, d) by simp [Dsk.failSync, HD.out]] at k5
      go_wp2_with fail
      refine k5.mono ?_
      rintro x w13 ⟨rfl, h13, t13⟩
      have T13 : Tch (fun _ => False) w w13 := T12.trans t13 (fun i hi hn => hn hi)
      clear k5 t13 T12 h12
      have k6 := crash_nil_f b d _ none 0 _ h13
      go_wp2_with fail
      refine k6.mono ?_
      rintro x w14 ⟨rfl, h14, t14⟩
      have T14 : Tch (fun _ => False) w w14 := T13.trans t14 (fun i hi hn => hn hi)
      clear k6 t14 T13 h13
      have k7 : Calls _ _ _ _ (fun x w' => x = .returned (.int .i64 (Dsk.append (d.torn fun _ => 0) nA [121]).1) ∧ DF w' b (Dsk.append (d.torn fun _ => 0) nA [121]).2 (fun i => i < w.heap.size) ∧ Kept (fun i => i < w.heap.size) _ w') := append_f b _ _ _ ⟨#[97]⟩ ⟨#[121]⟩ h14
      obtain ⟨e1, L1⟩ := lives_append L0.out
      rw [e1] at k7
      obtain ⟨d1, hd1⟩ : ∃ d1, d1 = (Dsk.append (d.torn fun _ => 0) nA [121]).2 := ⟨_, rfl⟩
      rw [← hd1] at k7 L1
      have HL1 : Hid (Lives d1 23) := L1
      clear hd1 e1 L1 L0 HD
      go_wp2_with fail
      refine k7.mono ?_
      rintro x w15 ⟨rfl, h15, t15⟩
      have T15 : Tch (fun _ => False) w w15 := T14.trans t15 (fun i hi hn => hn hi)
      clear k7 t15 T14 h14
      have k8 : Calls _ _ _ _ (fun x w' => x = .returned (.int .i64 (d1.sync nA).1) ∧ DF w' b (d1.sync nA).2 (fun i => i < w.heap.size) ∧ Kept (fun i => i < w.heap.size) _ w') := sync_f b _ _ _ ⟨#[97]⟩ h15
      obtain ⟨e2, L2, _⟩ := lives_sync HL1.out
      rw [e2] at k8
      obtain ⟨d2, hd2⟩ : ∃ d2, d2 = (d1.sync nA).2 := ⟨_, rfl⟩
      rw [← hd2] at k8 L2
      have HL2 : Hid (Lives d2 23) := L2
      clear hd2 e2 L2 HL1
      go_wp2_with fail
      refine k8.mono ?_
      rintro x w16 ⟨rfl, h16, t16⟩
      have T16 : Tch (fun _ => False) w w16 := T15.trans t16 (fun i hi hn => hn hi)
      clear k8 t16 T15 h15
      have k9 : Calls _ _ _ _ (fun x w' => x = .returned (.int .i64 (d2.sync nA).1) ∧ DF w' b (d2.sync nA).2 (fun i => i < w.heap.size) ∧ Kept (fun i => i < w.heap.size) _ w') := sync_f b _ _ _ ⟨#[97]⟩ h16
      obtain ⟨e3, L3, e4⟩ := lives_sync HL2.out
      rw [e3] at k9
      obtain ⟨d3, hd3⟩ : ∃ d3, d3 = (d2.sync nA).2 := ⟨_, rfl⟩
      rw [← hd3] at k9 L3 e4
      have HL3 : Hid (d3.dead = false ∧ d3.pending nA = 0) := ⟨L3.dead, e4⟩
      clear hd3 e3 L3 HL2 e4
      go_wp2_with fail
      refine k9.mono ?_
      rintro x w17 ⟨rfl, h17, t17⟩
      have T17 : Tch (fun _ => False) w w17 := T16.trans t17 (fun i hi hn => hn hi)
      clear k9 t17 T16 h16
      have k10 := dead_f b d3 _ _ h17
      rw [HL3.out.1] at k10
      go_wp2_with fail
      refine k10.mono ?_
      rintro x w18 ⟨rfl, hw18⟩
      subst hw18
      have k11 : Calls _ _ _ _ (fun x w' => x = .returned (.int .i64 (d3.pending nA)) ∧ ∃ k, w' = World.drewN _ k) := pending_f b d3 _ _ ⟨#[97]⟩ h17 (by decide)
      rw [HL3.out.2] at k11
      clear k10 HL3
      go_wp2_with fail
      refine k11.mono ?_
      rintro x w19 ⟨rfl, kk, rfl⟩
      go_wp2
      go_ret
      exact ⟨rfl, T17.drewN _⟩
end Go.Proofs.Ytodkefbaandeiaa
