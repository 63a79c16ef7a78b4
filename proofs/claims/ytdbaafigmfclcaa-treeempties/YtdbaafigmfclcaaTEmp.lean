import Derived.Test.YtdbaafigmfclcaaTKnown
/- TreeEmpties. -/
namespace Go.Proofs.Ytdbaafigmfclcaa
open Go.RowKit Go

/-- The tree of the law: just these keys. -/
def LS (w W : World) (b n : Nat) (S : Nat → Prop) (len : Nat) : Prop := ∃ l ht, TO w W b l ht ∧ EM l n S ∧ l.length = len
theorem LS.no {w W W' : World} {b n : Nat} {S : Nat → Prop} {len : Nat} (h : LS w W b n S len) (t : Tch (fun _ => False) W W') : LS w W' b n S len := by
  obtain ⟨l, ht, h1, h2, h3⟩ := h
  exact ⟨l, ht, h1.no t, h2, h3⟩
theorem LS.le {w W : World} {b n : Nat} {S : Nat → Prop} {len : Nat} (h : LS w W b n S len) : len ≤ n := by
  obtain ⟨l, ht, h1, h2, rfl⟩ := h
  exact h2.len_le h1.sorted
theorem LS.congr {w W : World} {b n : Nat} {S T : Nat → Prop} {len : Nat} (h : LS w W b n S len) (hT : ∀ x, x < n → (S x ↔ T x)) : LS w W b n T len := by
  obtain ⟨l, ht, h1, h2, h3⟩ := h
  exact ⟨l, ht, h1, h2.congr hT, h3⟩
theorem LS.put {w W : World} {b n x : Nat} {S : Nat → Prop} {len : Nat} (h : LS w W b n S len) (hn : n ≤ 2048) (hx : x < n) : Calls Try.prog 9 #[pv b, .string (kN x), .int .i64 x] W fun y w' => ∃ old th len', y = .returned (.tuple #[ev old, .bool th]) ∧ LS w w' b n (fun y => S y ∨ y = x) len' := by
  obtain ⟨l, ht, h1, h2, h3⟩ := h
  have hl := h2.len_le h1.sorted
  refine (put_o h1 (by omega) (kN x) (x : Int)).mono ?_
  rintro y w' ⟨l', ht', old, th, rfl, h4, h5⟩
  exact ⟨old, th, _, rfl, l', ht', h4, h2.put hn hx h5, rfl⟩
theorem LS.del {w W : World} {b n x : Nat} {S : Nat → Prop} {len : Nat} (h : LS w W b n S len) (hn : n ≤ 2048) (hx : x < n) (hS : S x) : Calls Try.prog 14 #[pv b, .string (kN x)] W fun y w' => y = .returned (.tuple #[.int .i64 x, .bool true]) ∧ ∃ len', len = len' + 1 ∧ LS w w' b n (fun y => S y ∧ y ≠ x) len' := by
  obtain ⟨l, ht, h1, h2, h3⟩ := h
  have hl := h2.len_le h1.sorted
  refine (del_o h1 (by omega) (kN x)).mono ?_
  rintro y w' ⟨l', ht', old, th, rfl, h4, h5⟩
  obtain ⟨rfl, rfl, h6, h7⟩ := h2.del hn hx hS h5
  exact ⟨rfl, l'.length, by omega, l', ht', h4, h6, rfl⟩
theorem LS.len {w W : World} {b n : Nat} {S : Nat → Prop} {len : Nat} (h : LS w W b n S len) : Calls Try.prog 13 #[pv b] W fun x w' => x = .returned (.int .i64 len) ∧ w' = W := by
  obtain ⟨l, ht, h1, h2, rfl⟩ := h
  exact len_o h1
/-- The height, and that it may be. -/
theorem LS.height {w W : World} {b n : Nat} {S : Nat → Prop} {len : Nat} (h : LS w W b n S len) (hn : n ≤ 2048) : ∃ ht : Nat, Calls Try.prog 12 #[pv b] W (fun x w' => x = .returned (.int .i64 ht) ∧ w' = W) ∧ Calls Try.prog 11 #[.int .i64 len, .int .i64 ht] W (fun x w' => x = .returned (.bool true) ∧ w' = W) ∧ (len = 0 → ht = 0) := by
  obtain ⟨l, ht, h1, h2, rfl⟩ := h
  have hl := h2.len_le h1.sorted
  refine ⟨ht, height_o h1 (by omega), floors_any l.length ht W (h1.low (by omega)) (by omega) h1.floors, fun e => ?_⟩
  rcases h1.floors with ⟨_, e2⟩ | ⟨e2, _⟩
  · exact e2
  · omega
theorem LS.full {w W : World} {b n : Nat} {S : Nat → Prop} {len : Nat} (h : LS w W b n S len) (hn : n ≤ 2048) (hS : ∀ x, x < n → S x) : len = n := by
  obtain ⟨l, ht, h1, h2, rfl⟩ := h
  exact h2.len_all h1.sorted hn hS
theorem LS.empty {w W : World} {b n : Nat} {S : Nat → Prop} {len : Nat} (h : LS w W b n S len) (hS : ∀ x, x < n → ¬ S x) : len = 0 := by
  obtain ⟨l, ht, h1, h2, rfl⟩ := h
  rw [h2.none hS]; rfl
theorem LS.at0 {w W : World} {b n : Nat} {S : Nat → Prop} (h : LS w W b n S 0) : Calls Try.prog 15 #[pv b, .int .i64 0] W fun x w' => x = .returned (.tuple #[.string ⟨#[]⟩, ev gv0, .bool false]) ∧ w' = W := by
  obtain ⟨l, ht, ⟨F, h1, _, _⟩, h2, h3⟩ := h
  obtain rfl := List.eq_nil_of_length_eq_zero h3
  exact at_beyond W b ht F h1
theorem LS.tch {w W : World} {b n : Nat} {S : Nat → Prop} {len : Nat} (h : LS w W b n S len) : Tch (fun _ => False) w W := by
  obtain ⟨l, ht, ⟨F, _, _, t⟩, _, _⟩ := h
  exact t
/-- Behind so many rounds of the first loop; of the second one. -/
def Sp (a i : Nat) (x : Nat) : Prop := ∃ j, j < i ∧ j * a % 2048 = x
def Sd (a i : Nat) (x : Nat) : Prop := ¬ ∃ j, j < i ∧ j * a % 2048 = x
theorem Sp_succ (a i x : Nat) : Sp a (i + 1) x ↔ (Sp a i x ∨ x = i * a % 2048) := by
  constructor
  · rintro ⟨j, hj, e⟩
    rcases Nat.lt_or_ge j i with h | h
    · exact Or.inl ⟨j, h, e⟩
    · obtain rfl : j = i := by omega
      exact Or.inr e.symm
  · rintro (⟨j, hj, e⟩ | e)
    · exact ⟨j, by omega, e⟩
    · exact ⟨i, by omega, e.symm⟩
theorem Sd_succ (a i x : Nat) : Sd a (i + 1) x ↔ (Sd a i x ∧ x ≠ i * a % 2048) := by
  unfold Sd
  have := Sp_succ a i x
  unfold Sp at this
  rw [this]
  exact ⟨fun h => ⟨fun h' => h (Or.inl h'), fun h' => h (Or.inr h')⟩, fun h h' => h'.elim h.1 h.2⟩
set_option maxHeartbeats 8000000 in
set_option maxRecDepth 100000 in
theorem emp_law (m s o : Int) (w : World) (hm1 : -9223372036854775808 ≤ m) (hm2 : m ≤ 9223372036854775807) (hs1 : -9223372036854775808 ≤ s) (hs2 : s ≤ 9223372036854775807) (ho1 : -9223372036854775808 ≤ o) (ho2 : o ≤ 9223372036854775807) :
    Calls Try.prog 3 #[.int .i64 m, .int .i64 s, .int .i64 o] w fun x w' => x = .returned (.bool true) ∧ Tch (fun _ => False) w w' := by
  have q0 := known_any w
  have HP : Hid (∀ W, Calls Try.prog 8 #[.int .i64 m, .int .i64 1200] W (fun x w' => x = .returned (.int .i64 (pkN m 1200)) ∧ w' = W) ∧ Calls Try.prog 8 #[.int .i64 s, .int .i64 2000] W (fun x w' => x = .returned (.int .i64 (pkN s 2000)) ∧ w' = W) ∧ Calls Try.prog 8 #[.int .i64 o, .int .i64 2000] W (fun x w' => x = .returned (.int .i64 (pkN o 2000)) ∧ w' = W)) := fun W => ⟨pick8_any m 1200 W hm1 hm2 (by decide) (by decide), pick8_any s 2000 W hs1 hs2 (by decide) (by decide), pick8_any o 2000 W ho1 ho2 (by decide) (by decide)⟩
  have hn0 := pkN_lt m 1200 (by decide)
  have hs0 := pkN_lt s 2000 (by decide)
  have ho0 := pkN_lt o 2000 (by decide)
  obtain ⟨n, hn⟩ : ∃ n, n = pkN m 1200 := ⟨_, rfl⟩
  obtain ⟨sa, hsa⟩ : ∃ sa, sa = pkN s 2000 := ⟨_, rfl⟩
  obtain ⟨sb, hsb⟩ : ∃ sb, sb = pkN o 2000 := ⟨_, rfl⟩
  rw [← hn, ← hsa, ← hsb] at HP
  rw [← hn] at hn0
  rw [← hsa] at hs0
  rw [← hsb] at ho0
  clear hm1 hm2 hs1 hs2 ho1 ho2 hn hsa hsb
  go_enter Try.func3, Try.ntmps3
  go_wp2_with fail
  refine q0.mono ?_
  rintro x w1 ⟨rfl, t1⟩
  clear q0
  have q := new_o w1
  go_wp2_with fail
  refine q.mono ?_
  rintro x w2 ⟨b, rfl, h2⟩
  clear q
  have T1 : Hid (Tch (fun _ => False) w w1) := t1
  have H2 : Hid (LS w1 w2 b n (fun _ => False) 0) := ⟨[], 0, h2, fun e => by simp, rfl⟩
  obtain ⟨p1, p2, p3⟩ := HP.out w2
  clear h2 t1
  have hsaI : (sa : Int) < 2000 := by omega
  have hsbI : (sb : Int) < 2000 := by omega
  have hnI : (n : Int) < 1200 := by omega
  go_wp2_with (first
    | (go_at_call 8; refine p1.mono ?_; rintro x w5 ⟨rfl, hw⟩; subst hw; clear p1)
    | (go_at_call 8; refine p2.mono ?_; rintro x w5 ⟨rfl, hw⟩; subst hw; clear p2)
    | (go_at_call 8; refine p3.mono ?_; rintro x w5 ⟨rfl, hw⟩; subst hw; clear p3))
  have HPN : Hid (∀ W x, x < 2048 → Calls Try.prog 10 #[.string ⟨#[107]⟩, .int .i64 (x : Nat)] W (fun y w' => y = .returned (.string (kN x)) ∧ Tch (fun _ => False) W w')) := fun W x hx => numbered_any x W hx
  clear HP
  obtain ⟨a, ha⟩ : ∃ a, a = 1 + 2 * sa := ⟨_, rfl⟩
  obtain ⟨c, hc⟩ : ∃ c, c = 1 + 2 * sb := ⟨_, rfl⟩
  have ea : (1 + 2 * (sa : Int)) = (a : Int) := by omega
  have ec : (1 + 2 * (sb : Int)) = (c : Int) := by omega
  rw [ea, ec]
  have HO : Hid (a % 2 = 1 ∧ c % 2 = 1) := (⟨by omega, by omega⟩ : _ ∧ _)
  have haL : a ≤ 4001 := by omega
  have hcL : c ≤ 4001 := by omega
  clear ea ec ha hc hsaI hsbI hs0 ho0
  have HOA : a % 2 = 1 := HO.out.1
  have HOC : c % 2 = 1 := HO.out.2
  have HSp : Hid (∀ x, x < n → Sp a 2048 x) := fun x hx => odd_surj HOA (by omega)
  have HSd : Hid (∀ x, x < n → ¬ Sd c 2048 x) := fun x hx h => h (odd_surj HOC (by omega))
  have HSi : Hid (∀ i, i < 2048 → Sd c i (i * c % 2048)) := fun i hi ⟨j, hj, e⟩ => by
    have := odd_inj HOC (by omega) hi e
    omega
  clear HO HOA HOC
  go_loopw [12] (fun s12 wr => ∃ (W : World) (k : Nat), W = wr ∧ s12 = .int .i64 k ∧ k ≤ 2 ∧ Hid (LS w1 W b n (fun _ => False) 0)) (fun s12 _ => 2 - (intOf s12).toNat)
  case atStart => exact ⟨_, 0, rfl, rfl, by omega, H2⟩
  case round =>
    obtain ⟨wr, k, rfl, rfl, hk, HL⟩ := hrel
    clear H2
    by_cases hlt : (k : Int) < 2
    · go_wp2_with fail
      have HL0 : Hid (LS w1 wr b n (Sp a 0) 0) := HL.out.congr (fun x _ => ⟨fun h => h.elim, fun ⟨j, hj, _⟩ => absurd hj (Nat.not_lt_zero j)⟩)
      clear HL
      go_loopw [13] (fun s13 wr => ∃ (W : World) (i len : Nat), W = wr ∧ s13 = .int .i64 i ∧ i ≤ 2048 ∧ Hid (LS w1 W b n (Sp a i) len)) (fun s13 _ => 2048 - (intOf s13).toNat)
      case atStart => exact ⟨_, 0, 0, rfl, rfl, by omega, HL0⟩
      case round =>
        obtain ⟨wi, i, len, rfl, rfl, hi, HI⟩ := hrel
        clear HL0
        by_cases hit : (i : Int) < 2048
        · obtain ⟨x, hx⟩ : ∃ x, x = i * a % 2048 := ⟨_, rfl⟩
          have hm1 : (i : Int) * a ≤ 8192000 := by
            have : i * a ≤ 2047 * 4001 := Nat.mul_le_mul (by omega) haL
            omega
          have hm0 : 0 ≤ (i : Int) * a := by omega
          by_cases hxn : (x : Int) < n
          · go_wp2_with fail
            have ex : (i : Int) * a % 2048 = x := by omega
            rw [ex]
            refine (HPN.out wi x (by omega)).mono ?_
            rintro y w6 ⟨rfl, t6⟩
            have q := (HI.out.no t6).put (by omega) (show x < n by omega)
            have HX : Hid (x = i * a % 2048) := hx
            clear t6 HI hx ex hm1 hm0
            go_wp2_with fail
            refine q.mono ?_
            rintro y w7 ⟨old, th, len', rfl, h7⟩
            clear q
            have H7 : Hid (LS w1 w7 b n (Sp a (i + 1)) len') := h7.congr (fun z _ => by rw [Sp_succ, HX.out])
            clear h7
            go_wp2_with fail
            go_roundw
            case measure => simp [intOf]; omega
            case rel => exact ⟨_, i + 1, len', rfl, by go_num, by omega, H7⟩
          · have H7 : Hid (LS w1 wi b n (Sp a (i + 1)) len) := HI.out.congr (fun z hz => by
              rw [Sp_succ]
              exact ⟨Or.inl, fun h => h.elim id (fun e => absurd hz (by omega))⟩)
            clear HI
            go_wp2_with fail
            go_roundw
            case measure => simp [intOf]; omega
            case rel => exact ⟨_, i + 1, len, rfl, by go_num, by omega, H7⟩
        · obtain rfl : i = 2048 := by omega
          obtain rfl : len = n := HI.out.full (by omega) HSp.out
          obtain ⟨ht, hh, hf, _⟩ := HI.out.height (by omega)
          have hl := HI.out.len
          have HL0 : Hid (LS w1 wi b len (Sd c 0) len) := HI.out.congr (fun x hx => ⟨fun _ ⟨j, hj, _⟩ => absurd hj (Nat.not_lt_zero j), fun _ => HSp.out x hx⟩)
          clear HI
          go_wp2_with (first
            | (go_at_call 12; refine hh.mono ?_; rintro x w6 ⟨rfl, hw⟩; subst hw)
            | (go_at_call 11; refine hf.mono ?_; rintro x w6 ⟨rfl, hw⟩; subst hw)
            | (go_at_call 13; refine hl.mono ?_; rintro x w6 ⟨rfl, hw⟩; subst hw))
          clear hh hf hl
          go_loopw [16, 17] (fun s16 s17 wr => ∃ (W : World) (i ln : Nat), W = wr ∧ s16 = .int .i64 ln ∧ s17 = .int .i64 i ∧ i ≤ 2048 ∧ Hid (LS w1 W b len (Sd c i) ln)) (fun _ s17 _ => 2048 - (intOf s17).toNat)
          case atStart => exact ⟨_, 0, len, rfl, rfl, rfl, by omega, HL0⟩
          case round =>
            obtain ⟨wi, i, ln, rfl, rfl, rfl, hi, HI⟩ := hrel
            clear HL0
            by_cases hit : (i : Int) < 2048
            · obtain ⟨x, hx⟩ : ∃ x, x = i * c % 2048 := ⟨_, rfl⟩
              have hm1 : (i : Int) * c ≤ 8192000 := by
                have : i * c ≤ 2047 * 4001 := Nat.mul_le_mul (by omega) hcL
                omega
              have hm0 : 0 ≤ (i : Int) * c := by omega
              by_cases hxn : (x : Int) < len
              · go_wp2_with fail
                have ex : (i : Int) * c % 2048 = x := by omega
                rw [ex]
                refine (HPN.out wi x (by omega)).mono ?_
                rintro y w7 ⟨rfl, t6⟩
                have q := (HI.out.no t6).del (by omega) (show x < len by omega) (by rw [hx]; exact HSi.out i (by omega))
                have HX : Hid (x = i * c % 2048) := hx
                clear t6 HI hx ex hm1 hm0
                go_wp2_with fail
                refine q.mono ?_
                rintro y w8 ⟨rfl, ln', e', h7⟩
                subst e'
                clear q
                obtain ⟨ht, hh, hf, _⟩ := h7.height (by omega)
                have hl := h7.len
                have hle := h7.le
                have H7 : Hid (LS w1 w8 b len (Sd c (i + 1)) ln') := h7.congr (fun z _ => by rw [Sd_succ, HX.out])
                clear h7
                have el : ((ln' + 1 : Nat) : Int) = (ln' : Int) + 1 := by omega
                have es : (ln' : Int) + 1 - 1 = ln' := by omega
                have hlI : (ln' : Int) < 2048 := by omega
                rw [el]
                go_wp2_with (first
                  | (go_at_call 12; refine hh.mono ?_; rintro x w6 ⟨rfl, hw⟩; subst hw)
                  | (go_at_call 11; (try rw [es]); refine hf.mono ?_; rintro x w6 ⟨rfl, hw⟩; subst hw)
                  | (go_at_call 13; refine hl.mono ?_; rintro x w6 ⟨rfl, hw⟩; subst hw))
                go_roundw
                case measure => simp [intOf]; omega
                case rel => exact ⟨_, i + 1, ln', rfl, by go_num, by go_num, by omega, H7⟩
              · have H7 : Hid (LS w1 wi b len (Sd c (i + 1)) ln) := HI.out.congr (fun z hz => by
                  rw [Sd_succ]
                  exact ⟨fun h => ⟨h, fun e => absurd hz (by omega)⟩, fun h => h.1⟩)
                clear HI
                go_wp2_with fail
                go_roundw
                case measure => simp [intOf]; omega
                case rel => exact ⟨_, i + 1, ln, rfl, rfl, by go_num, by omega, H7⟩
            · obtain rfl : i = 2048 := by omega
              obtain rfl : ln = 0 := HI.out.empty HSd.out
              have HN : Hid (LS w1 wi b len (fun _ => False) 0) := HI.out.congr (fun x hx => ⟨fun h => HSd.out x hx h, fun h => h.elim⟩)
              clear HI
              go_wp2_with fail
              go_roundw
              case measure => simp [intOf]; omega
              case rel => exact ⟨_, k + 1, rfl, by go_num, by omega, HN⟩
    · have q := HL.out.at0
      obtain ⟨ht, hh, _, h0⟩ := HL.out.height (by omega)
      obtain rfl := h0 rfl
      go_wp2_with fail
      refine q.mono ?_
      rintro x w6 ⟨rfl, hw⟩
      subst hw
      go_wp2_with fail
      refine hh.mono ?_
      rintro x w6 ⟨rfl, hw⟩
      subst hw
      go_wp2_with fail
      go_ret
      exact ⟨by simp, T1.out.trans HL.out.tch (fun _ _ h => h)⟩
end Go.Proofs.Ytdbaafigmfclcaa
