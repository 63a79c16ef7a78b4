import Derived.Test.YtmaekkhmiafnmaaGreatDoorET1
import Derived.Test.YtmaekkhmiafnmaaGreatDoorVLd
import Derived.Test.YtmaekkhmiafnmaaGreatDoorVLrq
set_option maxHeartbeats 4000000
set_option maxRecDepth 100000
namespace Go.Proofs.YtmaekkhmiafnmaaGreatDoor
open Go.RowKit Go
theorem get_in (s : ByteArray) (k : Nat) (h : k < s.size) : s.get! k = s[k]'h := by
  simp [ByteArray.get!, getElem!_pos, h]
  rfl
theorem dec_skip (s : ByteArray) (pos : Nat) (h : pos < s.size) (h128 : 128 ≤ (s[pos]'h).toNat) :
    pos + (Utf8.decode s pos).2 ≤ s.size ∧ ∀ k, pos ≤ k → k < pos + (Utf8.decode s pos).2 → ∀ hk : k < s.size, 128 ≤ (s[k]'hk).toNat := by
  have hc : ∀ k, (decide (pos + k < s.size) && ((s.get! (pos + k)).toNat / 64 == 2)) = true → pos + k < s.size ∧ ∀ hk : pos + k < s.size, 128 ≤ (s[pos + k]'hk).toNat := by
    intro k hk
    simp at hk
    refine ⟨hk.1, fun hk' => ?_⟩
    have := hk.2
    rw [get_in s _ hk'] at this
    omega
  have hb0 : ¬ (s.get! (pos + 0)).toNat < 128 := by rw [get_in s (pos + 0) (by omega)]; simp; omega
  have fin : ∀ n c : Nat, 1 ≤ n → (∀ j, j < n → j = 0 ∨ (pos + j < s.size ∧ ∀ hk : pos + j < s.size, 128 ≤ (s[pos + j]'hk).toNat)) → pos + (c, n).2 ≤ s.size ∧ ∀ k, pos ≤ k → k < pos + (c, n).2 → ∀ hk : k < s.size, 128 ≤ (s[k]'hk).toNat := by
    intro n c h1 hj
    refine ⟨?_, fun k k1 k2 hk => ?_⟩
    · rcases hj (n - 1) (by omega) with h | ⟨h, _⟩
      · simp; omega
      · simp; omega
    · rcases hj (k - pos) (by simp at k2; omega) with h | ⟨_, h⟩
      · have : k = pos := by omega
        subst this; exact h128
      · have e : pos + (k - pos) = k := by omega
        have := h (by omega)
        simp only [e] at this
        exact this
  have one : ∀ c : Nat, pos + (c, 1).2 ≤ s.size ∧ ∀ k, pos ≤ k → k < pos + (c, 1).2 → ∀ hk : k < s.size, 128 ≤ (s[k]'hk).toNat := fun c => fin 1 c (Nat.le_refl _) (fun j hj => Or.inl (by omega))
  unfold Utf8.decode
  simp only
  rw [if_neg hb0]
  split
  · rename_i h1
    simp only [Bool.and_eq_true] at h1
    have c1 := hc 1 (by simpa using h1.2)
    split
    · exact fin 2 _ (by omega) (fun j hj => by
        rcases (by omega : j = 0 ∨ j = 1) with rfl | rfl
        · exact Or.inl rfl
        · exact Or.inr c1)
    · exact one _
  · split
    · rename_i h1
      simp only [Bool.and_eq_true] at h1
      have c1 := hc 1 (by simpa using h1.1.2)
      have c2 := hc 2 (by simpa using h1.2)
      split
      · exact fin 3 _ (by omega) (fun j hj => by
          rcases (by omega : j = 0 ∨ j = 1 ∨ j = 2) with rfl | rfl | rfl
          · exact Or.inl rfl
          · exact Or.inr c1
          · exact Or.inr c2)
      · exact one _
    · split
      · rename_i h1
        simp only [Bool.and_eq_true] at h1
        have c1 := hc 1 (by simpa using h1.1.1.2)
        have c2 := hc 2 (by simpa using h1.1.2)
        have c3 := hc 3 (by simpa using h1.2)
        split
        · exact fin 4 _ (by omega) (fun j hj => by
            rcases (by omega : j = 0 ∨ j = 1 ∨ j = 2 ∨ j = 3) with rfl | rfl | rfl | rfl
            · exact Or.inl rfl
            · exact Or.inr c1
            · exact Or.inr c2
            · exact Or.inr c3)
        · exact one _
      · exact one _
theorem quoL_at (i : Bool) (s : ByteArray) (k : Nat) (h : k < s.size) : quoL i (s.data.toList.drop k) = if s[k].toNat = 39 then quoL (!i) (s.data.toList.drop (k + 1)) + 1 else if i = true then quoL i (s.data.toList.drop (k + 1)) + 1 else 0 := by
  rw [drop_c s k h]; rfl
theorem quoL_end (i : Bool) (s : ByteArray) (k : Nat) (h : s.size ≤ k) : quoL i (s.data.toList.drop k) = 0 := by
  rw [List.drop_eq_nil_of_le (by simpa using h)]; cases i <;> rfl
theorem quoL_skip (s : ByteArray) : ∀ (n pos : Nat), pos + n ≤ s.size → (∀ k, pos ≤ k → k < pos + n → ∀ hk : k < s.size, 128 ≤ (s[k]'hk).toNat) → quoL true (s.data.toList.drop pos) = n + quoL true (s.data.toList.drop (pos + n))
  | 0, pos, _, _ => by simp
  | n + 1, pos, h, hk => by
    have h1 := hk pos (Nat.le_refl _) (by omega) (by omega)
    rw [quoL_at true s pos (by omega), if_neg (by omega), if_pos rfl, quoL_skip s n (pos + 1) (by omega) (fun k k1 k2 => hk k (by omega) (by omega))]
    have e : pos + 1 + n = pos + (n + 1) := by omega
    rw [e]; omega
theorem equoted_any (s : ByteArray) (w : World) :
    Calls Tryz.prog 119 #[.string s] w fun x w' => x = .returned (.int .i64 (quoL false s.data.toList : Nat)) ∧ Tch (fun _ => False) w w' := by
  go_enter Tryz.func119, Tryz.ntmps119
  go_wp2
  go_loopw [3] (fun b wr => ∃ pos i, b = .bool i ∧ wr = w.iter s pos ∧ pos ≤ s.size ∧ Hid (quoL false s.data.toList = pos + quoL i (s.data.toList.drop pos))) (fun _ wr => s.size - wr.iterPos w.heap.size)
  case atStart => exact ⟨0, false, rfl, rfl, Nat.zero_le _, by simp [Hid]⟩
  case round =>
    obtain ⟨pos, i, rfl, rfl, hle, HR⟩ := hrel
    by_cases hp : pos < s.size
    · have hnx : ∀ ty, (Instr.next (.pointer (some ⟨w.heap.size, 0, none⟩)) true ty).run Tryz.prog (w.iter s pos) = _ := fun ty => run_next_any w s pos ty hp
      have Hd : Hid _ := dec_cases s pos hp
      have Hs : Hid _ := fun h => dec_skip s pos hp h
      by_cases hq : (((Utf8.decode s pos).1 : Nat) : Int) = 39
      · cases i
        all_goals
          go_wp2
          go_roundw
          case rel =>
            rcases Hd.out with ⟨h1, h2⟩ | ⟨h1, h2, h3⟩
            · refine ⟨pos + 1, _, rfl, by rw [h2], by omega, ?_⟩
              have := HR.out
              rw [quoL_at _ s pos hp, if_pos (by rw [h2] at hq; simp only at hq; omega)] at this
              show _ = _
              simp only [Bool.not_true, Bool.not_false] at this
              omega
            · omega
          case measure =>
            rcases Hd.out with ⟨h1, h2⟩ | ⟨h1, h2, h3⟩
            · rw [h2]; simp; omega
            · omega
      · cases i with
        | true =>
          go_wp2
          go_roundw
          case rel =>
            rcases Hd.out with ⟨h1, h2⟩ | ⟨h1, h2, h3⟩
            · refine ⟨pos + 1, true, rfl, by rw [h2], by omega, ?_⟩
              have := HR.out
              rw [quoL_at _ s pos hp, if_neg (by rw [h2] at hq; simp only at hq; omega), if_pos rfl] at this
              show _ = _
              omega
            · obtain ⟨h4, h5⟩ := Hs.out h1
              refine ⟨pos + (Utf8.decode s pos).2, true, rfl, rfl, h4, ?_⟩
              have := HR.out
              rw [quoL_skip s _ pos h4 h5] at this
              show _ = _
              omega
          case measure =>
            rcases Hd.out with ⟨h1, h2⟩ | ⟨h1, h2, h3⟩
            · rw [h2]; simp; omega
            · simp; omega
        | false =>
          go_wp2
          go_ret
          have := HR.out
          have hne : ¬ s[pos].toNat = 39 := by
            rcases Hd.out with ⟨h1, h2⟩ | ⟨h1, h2, h3⟩
            · rw [h2] at hq; simp only at hq; omega
            · omega
          rw [quoL_at _ s pos hp, if_neg hne, if_neg (by decide)] at this
          refine ⟨?_, Tch.alloc _ _ _⟩
          rw [this]; rfl
    · have hnx : ∀ ty, (Instr.next (.pointer (some ⟨w.heap.size, 0, none⟩)) true ty).run Tryz.prog (w.iter s pos) = _ := fun ty => run_next_end w s pos ty hp
      go_wp2
      go_ret
      have := HR.out
      rw [quoL_end _ s pos (by omega)] at this
      refine ⟨?_, Tch.alloc _ _ _⟩
      rw [this]
      have e : pos = s.size := by omega
      rw [e]; rfl
end Go.Proofs.YtmaekkhmiafnmaaGreatDoor
namespace Go.Proofs.YtmaekkhmiafnmaaGreatDoor
open Go.RowKit Go
theorem hpre_any (s p : ByteArray) (w : World) :
    Calls Tryz.prog 151 #[.string s, .string p] w fun e w' => e = .returned (.bool (Lib.hasPrefix s.data.toList p.data.toList)) ∧ w' = w := Any.strings_HasPrefix Tryz.laysHP s p w
def sgnL (l : List UInt8) : Nat := if l.take 2 ∈ twoS then 2 else 1
theorem hpre_two (l : List UInt8) (a b : UInt8) : Lib.hasPrefix l [a, b] = decide (l.take 2 = [a, b]) := by
  unfold Lib.hasPrefix
  match l with
  | [] => simp
  | [x] => simp [List.isPrefixOf]
  | x :: y :: r =>
    rw [Bool.eq_iff_iff]
    simp [List.isPrefixOf]
    constructor
    · rintro ⟨rfl, rfl⟩; exact ⟨rfl, rfl⟩
    · rintro ⟨rfl, rfl⟩; exact ⟨rfl, rfl⟩
theorem signed_any (s : ByteArray) (w : World) :
    Calls Tryz.prog 121 #[.string s] w fun x w' => x = .returned (.int .i64 (sgnL s.data.toList : Nat)) ∧ w' = w := by
  go_enter Tryz.func121, Tryz.ntmps121
  go_wp2
  go_loopw [6] (fun i wr => ∃ k : Nat, i = .int .i64 k ∧ wr = w ∧ k ≤ 4 ∧ Hid (∀ x, x ∈ twoS.take k → s.data.toList.take 2 ≠ x)) (fun i _ => 4 - (intOf i).toNat)
  case atStart => exact ⟨0, rfl, rfl, by omega, fun x hx => by simp at hx⟩
  case round =>
    obtain ⟨k, rfl, rfl, hk, HR⟩ := hrel
    rcases (by omega : k = 0 ∨ k = 1 ∨ k = 2 ∨ k = 3 ∨ k = 4) with rfl | rfl | rfl | rfl | rfl
    · have q := fun W => hpre_any s ⟨#[124, 124]⟩ W
      have e : (⟨#[124, 124]⟩ : ByteArray).data.toList = [124, 124] := rfl
      rw [e, hpre_two] at q
      clear e
      have hix : ∀ W : World, (Instr.index 188 (.agg #[.string ⟨#[124, 124]⟩, .string ⟨#[60, 62]⟩, .string ⟨#[60, 61]⟩, .string ⟨#[62, 61]⟩]) (.int .i64 0)).run Tryz.prog W = .ok (.string ⟨#[124, 124]⟩) W := fun W => by kernel_rfl
      by_cases hg : s.data.toList.take 2 = [124, 124]
      · rw [decide_eq_true hg] at q
        have Hg : Hid _ := hg
        clear hg
        go_wp2_with (go_at_call 151; refine (q _).mono ?_; rintro y w1 ⟨rfl, rfl⟩)
        go_ret
        refine ⟨?_, rfl⟩
        have : sgnL s.data.toList = 2 := by unfold sgnL; rw [Hg.out]; rfl
        rw [this]; rfl
      · rw [decide_eq_false hg] at q
        have Hg : Hid _ := hg
        clear hg
        go_wp2_with (go_at_call 151; refine (q _).mono ?_; rintro y w1 ⟨rfl, rfl⟩)
        go_roundw
        case rel =>
          refine ⟨1, by first | trivial | rfl, by first | trivial | rfl, by omega, fun x hx => ?_⟩
          rw [show twoS.take 1 = twoS.take 0 ++ [[124, 124]] from rfl, List.mem_append] at hx
          rcases hx with hx | hx
          · exact HR.out x hx
          · rw [List.mem_singleton.1 hx]; exact Hg.out
        case measure => simp [intOf]
    · have q := fun W => hpre_any s ⟨#[60, 62]⟩ W
      have e : (⟨#[60, 62]⟩ : ByteArray).data.toList = [60, 62] := rfl
      rw [e, hpre_two] at q
      clear e
      have hix : ∀ W : World, (Instr.index 188 (.agg #[.string ⟨#[124, 124]⟩, .string ⟨#[60, 62]⟩, .string ⟨#[60, 61]⟩, .string ⟨#[62, 61]⟩]) (.int .i64 1)).run Tryz.prog W = .ok (.string ⟨#[60, 62]⟩) W := fun W => by kernel_rfl
      by_cases hg : s.data.toList.take 2 = [60, 62]
      · rw [decide_eq_true hg] at q
        have Hg : Hid _ := hg
        clear hg
        go_wp2_with (go_at_call 151; refine (q _).mono ?_; rintro y w1 ⟨rfl, rfl⟩)
        go_ret
        refine ⟨?_, rfl⟩
        have : sgnL s.data.toList = 2 := by unfold sgnL; rw [Hg.out]; rfl
        rw [this]; rfl
      · rw [decide_eq_false hg] at q
        have Hg : Hid _ := hg
        clear hg
        go_wp2_with (go_at_call 151; refine (q _).mono ?_; rintro y w1 ⟨rfl, rfl⟩)
        go_roundw
        case rel =>
          refine ⟨2, by first | trivial | rfl, by first | trivial | rfl, by omega, fun x hx => ?_⟩
          rw [show twoS.take 2 = twoS.take 1 ++ [[60, 62]] from rfl, List.mem_append] at hx
          rcases hx with hx | hx
          · exact HR.out x hx
          · rw [List.mem_singleton.1 hx]; exact Hg.out
        case measure => simp [intOf]
    · have q := fun W => hpre_any s ⟨#[60, 61]⟩ W
      have e : (⟨#[60, 61]⟩ : ByteArray).data.toList = [60, 61] := rfl
      rw [e, hpre_two] at q
      clear e
      have hix : ∀ W : World, (Instr.index 188 (.agg #[.string ⟨#[124, 124]⟩, .string ⟨#[60, 62]⟩, .string ⟨#[60, 61]⟩, .string ⟨#[62, 61]⟩]) (.int .i64 2)).run Tryz.prog W = .ok (.string ⟨#[60, 61]⟩) W := fun W => by kernel_rfl
      by_cases hg : s.data.toList.take 2 = [60, 61]
      · rw [decide_eq_true hg] at q
        have Hg : Hid _ := hg
        clear hg
        go_wp2_with (go_at_call 151; refine (q _).mono ?_; rintro y w1 ⟨rfl, rfl⟩)
        go_ret
        refine ⟨?_, rfl⟩
        have : sgnL s.data.toList = 2 := by unfold sgnL; rw [Hg.out]; rfl
        rw [this]; rfl
      · rw [decide_eq_false hg] at q
        have Hg : Hid _ := hg
        clear hg
        go_wp2_with (go_at_call 151; refine (q _).mono ?_; rintro y w1 ⟨rfl, rfl⟩)
        go_roundw
        case rel =>
          refine ⟨3, by first | trivial | rfl, by first | trivial | rfl, by omega, fun x hx => ?_⟩
          rw [show twoS.take 3 = twoS.take 2 ++ [[60, 61]] from rfl, List.mem_append] at hx
          rcases hx with hx | hx
          · exact HR.out x hx
          · rw [List.mem_singleton.1 hx]; exact Hg.out
        case measure => simp [intOf]
    · have q := fun W => hpre_any s ⟨#[62, 61]⟩ W
      have e : (⟨#[62, 61]⟩ : ByteArray).data.toList = [62, 61] := rfl
      rw [e, hpre_two] at q
      clear e
      have hix : ∀ W : World, (Instr.index 188 (.agg #[.string ⟨#[124, 124]⟩, .string ⟨#[60, 62]⟩, .string ⟨#[60, 61]⟩, .string ⟨#[62, 61]⟩]) (.int .i64 3)).run Tryz.prog W = .ok (.string ⟨#[62, 61]⟩) W := fun W => by kernel_rfl
      by_cases hg : s.data.toList.take 2 = [62, 61]
      · rw [decide_eq_true hg] at q
        have Hg : Hid _ := hg
        clear hg
        go_wp2_with (go_at_call 151; refine (q _).mono ?_; rintro y w1 ⟨rfl, rfl⟩)
        go_ret
        refine ⟨?_, rfl⟩
        have : sgnL s.data.toList = 2 := by unfold sgnL; rw [Hg.out]; rfl
        rw [this]; rfl
      · rw [decide_eq_false hg] at q
        have Hg : Hid _ := hg
        clear hg
        go_wp2_with (go_at_call 151; refine (q _).mono ?_; rintro y w1 ⟨rfl, rfl⟩)
        go_roundw
        case rel =>
          refine ⟨4, by first | trivial | rfl, by first | trivial | rfl, by omega, fun x hx => ?_⟩
          rw [show twoS.take 4 = twoS.take 3 ++ [[62, 61]] from rfl, List.mem_append] at hx
          rcases hx with hx | hx
          · exact HR.out x hx
          · rw [List.mem_singleton.1 hx]; exact Hg.out
        case measure => simp [intOf]
    · go_wp2
      go_ret
      refine ⟨?_, rfl⟩
      have : sgnL s.data.toList = 1 := by
        unfold sgnL
        rw [if_neg (fun h => HR.out _ (by rw [show twoS.take 4 = twoS from rfl]; exact h) rfl)]
      rw [this]; rfl
end Go.Proofs.YtmaekkhmiafnmaaGreatDoor
namespace Go.Proofs.YtmaekkhmiafnmaaGreatDoor
open Go.RowKit Go
theorem PS_okT {x : ByteArray} {v : Val} {e : Int} (h : PS x v e) (h39 : x.data.toList.head? = some 39) : (e = 0 ↔ okT x.data.toList = true) ∧ (e = 0 → v = ⟨2, 0, ⟨(unqC (x.data.toList.drop 1)).toArray⟩⟩) := by
  have hok : okT x.data.toList = true ↔ qt (unqC (x.data.toList.drop 1)) = x.data.toList ∧ (unqC (x.data.toList.drop 1)).length ≤ 200 := by
    unfold okT; simp
  rw [hok]
  rcases h with ⟨rfl, _⟩ | ⟨rfl, _⟩ | ⟨rfl, _⟩ | ⟨_, ⟨t, ht, h⟩ | ⟨n, hn, ht, _⟩ | ⟨hq, _, rfl, rfl⟩⟩
  · simp at h39
  · simp at h39
  · simp at h39
  · have hu := unqC_qt ht
    rw [hu]
    rcases h with ⟨h1, h2, rfl⟩ | ⟨h1, _, rfl⟩
    · exact ⟨⟨fun _ => ⟨ht, h1⟩, fun _ => rfl⟩, fun _ => h2⟩
    · exact ⟨⟨fun h => by omega, fun h => by omega⟩, fun h => by omega⟩
  · obtain ⟨c, r, e, hc⟩ := itoa_head n
    rw [e] at ht
    rw [← ht] at h39
    simp at h39
    subst h39
    exact absurd hc (by decide)
  · exact ⟨⟨fun h => by omega, fun h => absurd h.1 (hq _)⟩, fun h => by omega⟩
def srt (k : Nat) : Nat := if k = 5 then 3 else k
theorem runL_le (f : UInt8 → Bool) : ∀ l : List UInt8, runL f l ≤ l.length
  | [] => by simp [runL]
  | c :: r => by
    unfold runL
    have := runL_le f r
    split <;> simp <;> omega
theorem quoL_le : ∀ (i : Bool) (l : List UInt8), quoL i l ≤ l.length
  | _, [] => by simp [quoL]
  | i, c :: r => by
    unfold quoL
    have h1 := quoL_le i r
    have h2 := quoL_le (!i) r
    split
    · simp; omega
    · split <;> simp; omega
theorem begL_rng (c : UInt8) (r : List UInt8) : 1 ≤ (begL c (c :: r)).2 ∧ (begL c (c :: r)).2 ≤ (c :: r).length ∧ (begL c (c :: r)).1 ≤ 5 ∧ (begL c (c :: r)).1 ≠ 4 := by
  have a1 := runL_le isDig (c :: r)
  have a2 := runL_le isOfW (c :: r)
  have a3 := quoL_le false (c :: r)
  unfold begL
  split
  · simp
  · split
    · rename_i h
      refine ⟨?_, a1, by simp, by simp⟩
      show 1 ≤ runL isDig (c :: r)
      unfold runL; rw [if_pos h]; omega
    · split
      · rename_i h
        refine ⟨?_, a2, by simp only; split <;> omega, by simp only; split <;> omega⟩
        show 1 ≤ runL isOfW (c :: r)
        have : isOfW c = true := by unfold isOfW; rw [h]; rfl
        unfold runL; rw [if_pos this]; omega
      · split
        · rename_i h
          refine ⟨?_, a3, by simp only; split <;> omega, by simp only; split <;> omega⟩
          show 1 ≤ quoL false (c :: r)
          unfold quoL; rw [if_pos h]; omega
        · split
          · rename_i h
            refine ⟨by simp, ?_, by simp, by simp⟩
            cases r with
            | nil => simp [twoS] at h
            | cons b r => simp
          · split <;> simp
theorem head_get (s : ByteArray) (h0 : 0 < s.size) : s.data.toList = s[0] :: s.data.toList.drop 1 := by
  have := drop_c s 0 h0
  simpa using this
end Go.Proofs.YtmaekkhmiafnmaaGreatDoor
namespace Go.Proofs.YtmaekkhmiafnmaaGreatDoor
open Go.RowKit Go
theorem begL_dig {c : UInt8} {l : List UInt8} (h1 : ¬ c.toNat = 48) (h2 : isDig c = true) : begL c l = (0, runL isDig l) := by
  unfold begL; rw [if_neg h1, if_pos h2]
theorem begL_let {c : UInt8} {l : List UInt8} (h1 : ¬ c.toNat = 48) (h2 : isDig c = false) (h3 : isLet c = true) : begL c l = (if runL isOfW l ≤ 16 then 2 else 5, runL isOfW l) := by
  unfold begL; rw [if_neg h1, if_neg (by rw [h2]; decide), if_pos h3]
theorem begL_quo {c : UInt8} {l : List UInt8} (h1 : c.toNat = 39) : begL c l = (if okT (l.take (quoL false l)) = true then 1 else 5, quoL false l) := by
  have h2 : isDig c = false := by unfold isDig; simp; omega
  have h3 : isLet c = false := by unfold isLet; simp; omega
  unfold begL; rw [if_neg (by omega), if_neg (by rw [h2]; decide), if_neg (by rw [h3]; decide), if_pos h1]
theorem begL_sgn {c : UInt8} {l : List UInt8} (h1 : ¬ c.toNat = 48) (h2 : isDig c = false) (h3 : isLet c = false) (h4 : ¬ c.toNat = 39) : (srt (begL c l).1, (begL c l).2) = (3, sgnL l) := by
  unfold begL sgnL; rw [if_neg h1, if_neg (by rw [h2]; decide), if_neg (by rw [h3]; decide), if_neg h4]
  split
  · rfl
  · split <;> rfl
theorem let_at (s : ByteArray) (pos : Nat) (hp : pos < s.size) :
    ∃ g : Bool, (∀ W, Calls Tryz.prog 116 #[.int .i32 (Utf8.decode s pos).1] W fun x w' => x = .returned (.bool g) ∧ w' = W) ∧ isLet s[pos] = g := by
  refine ⟨_, fun W => isLetter_any _ W, ?_⟩
  rcases dec_cases s pos hp with ⟨h1, h2⟩ | ⟨h1, h2, h3⟩
  · rw [h2]
    unfold isLet; rw [Bool.eq_iff_iff]; simp; omega
  · rw [(high_no _ h1).2.1]
    simp; omega
theorem begins_any (s : ByteArray) (h0 : 0 < s.size) (hs : s.size ≤ 1048576) (w : World) (hw : HWd w) (hv : HV w) :
    Calls Tryz.prog 78 #[.string s, .int .i32 ((Utf8.decode s 0).1 : Nat)] w fun x w' => x = .returned (.tuple #[.int .i64 (srt (begL s[0] s.data.toList).1 : Nat), .int .i64 ((begL s[0] s.data.toList).2 : Nat)]) ∧ Tch (fun _ => False) w w' := by
  have HF : Hid (∀ (k m : Nat) (tmps : Array Value) (W : World), (srt (begL s[0] s.data.toList).1, (begL s[0] s.data.toList).2) = (k, m) → tmps[4]?.getD undef = .int .i64 (k : Nat) → tmps[5]?.getD undef = .int .i64 (m : Nat) →
      (results Tryz.f78 tmps).run Tryz.prog W = .ok (.tuple #[.int .i64 (srt (begL s[0] s.data.toList).1 : Nat), .int .i64 ((begL s[0] s.data.toList).2 : Nat)]) W) := fun k m tmps W he h4 h5 => by
    have hrs : Tryz.f78.results = #[.tmp 4, .tmp 5] := by kernel_rfl
    injection he with e1 e2
    rw [e1, e2]
    simp only [results, hrs]
    go_simp
  have Hc : Hid _ := dec_cases s 0 h0
  obtain ⟨gd, qd, hd⟩ := dig_at s 0 h0
  have Hg : Hid _ := hd
  have Hw : Hid _ := hw
  have Hv : Hid _ := hv
  clear hd hw hv
  by_cases h48 : ((Utf8.decode s 0).1 : Int) = 48
  · have e : (srt (begL s[0] s.data.toList).1, (begL s[0] s.data.toList).2) = (0, 1) := by
      have : s[0].toNat = 48 := by
        rcases Hc.out with ⟨h1, h2⟩ | ⟨h1, h2, h3⟩
        · rw [h2] at h48; simp only at h48; omega
        · omega
      unfold begL; rw [if_pos this]; rfl
    go_enter Tryz.func78, Tryz.ntmps78
    go_wp2_with fail
    refine bodyPost_ret (HF.out 0 1 _ _ e ?_ ?_) rfl ⟨rfl, Tch.refl _ _⟩ <;> rfl
  have hn48 : ¬ s[0].toNat = 48 := by
    rcases Hc.out with ⟨h1, h2⟩ | ⟨h1, h2, h3⟩
    · rw [h2] at h48; simp only at h48; omega
    · omega
  have Hn48 : Hid _ := hn48
  clear hn48
  cases gd with
  | true =>
    have e := begL_dig (l := s.data.toList) Hn48.out (Hg.out.1 rfl).2
    have e2 : (srt (begL s[0] s.data.toList).1, (begL s[0] s.data.toList).2) = (0, runL isDig s.data.toList) := by rw [e]; rfl
    have He : Hid _ := e2
    clear e e2
    go_enter Tryz.func78, Tryz.ntmps78
    go_wp2_with (first | (go_at_call 114; refine (qd _).mono ?_; rintro y w1 ⟨rfl, rfl⟩) | (go_at_call 115; refine (run_dig s _).mono ?_; rintro y w1 ⟨rfl, t1⟩))
    refine bodyPost_ret (HF.out 0 _ _ _ He.out ?_ ?_) rfl ⟨rfl, t1⟩ <;> rfl
  | false =>
    have hdF := Hg.out.2 rfl
    have HdF : Hid _ := hdF
    clear hdF
    obtain ⟨gl, ql, hl⟩ := let_at s 0 h0
    have Hl : Hid _ := hl
    clear hl
    cases gl with
    | true =>
      have e := begL_let (l := s.data.toList) Hn48.out HdF.out Hl.out
      have Hr : Hid _ := fun W => run_ofw s W
      obtain ⟨m, hm⟩ : ∃ m, m = runL isOfW s.data.toList := ⟨_, rfl⟩
      rw [← hm] at e Hr
      have He : Hid _ := e
      clear hm e
      by_cases h16 : (m : Int) ≤ 16
      · have h16n : m ≤ 16 := by omega
        have He2 : Hid ((srt (begL s[0] s.data.toList).1, (begL s[0] s.data.toList).2) = (2, m)) := by
          show _ = _
          rw [He.out, if_pos h16n]; rfl
        clear h16n
        go_enter Tryz.func78, Tryz.ntmps78
        go_wp2_with (first | (go_at_call 114; refine (qd _).mono ?_; rintro y w1 ⟨rfl, rfl⟩) | (go_at_call 116; refine (ql _).mono ?_; rintro y w1 ⟨rfl, rfl⟩) | (go_at_call 115; refine (Hr.out _).mono ?_; rintro y w1 ⟨rfl, t1⟩) | (go_at_call 118; refine (only_any 2 true _).mono ?_; rintro y w2 ⟨rfl, rfl⟩))
        refine bodyPost_ret (HF.out 2 _ _ _ He2.out ?_ ?_) rfl ⟨rfl, t1⟩ <;> rfl
      · have h16n : ¬ m ≤ 16 := by omega
        have He2 : Hid ((srt (begL s[0] s.data.toList).1, (begL s[0] s.data.toList).2) = (3, m)) := by
          show _ = _
          rw [He.out, if_neg h16n]; rfl
        clear h16n
        have Ho : Hid (∀ W, Calls Tryz.prog 118 #[.int .i64 2, .bool (decide ((m : Int) ≤ 16))] W fun x w' => x = .returned (.int .i64 (((3 : Nat)) : Int)) ∧ w' = W) := fun W => (only_any 2 (decide ((m : Int) ≤ 16)) W).mono (fun x w' ⟨h1, h2⟩ => ⟨by rw [h1, decide_eq_false h16]; rfl, h2⟩)
        go_enter Tryz.func78, Tryz.ntmps78
        go_wp2_with (first | (go_at_call 114; refine (qd _).mono ?_; rintro y w1 ⟨rfl, rfl⟩) | (go_at_call 116; refine (ql _).mono ?_; rintro y w1 ⟨rfl, rfl⟩) | (go_at_call 115; refine (Hr.out _).mono ?_; rintro y w1 ⟨rfl, t1⟩) | (go_at_call 118; refine (Ho.out _).mono ?_; rintro y w2 ⟨rfl, rfl⟩))
        refine bodyPost_ret (HF.out 3 _ _ _ He2.out ?_ ?_) rfl ⟨rfl, t1⟩ <;> rfl
    | false =>
      by_cases h39 : ((Utf8.decode s 0).1 : Int) = 39
      · have h39' : s[0].toNat = 39 := by
          rcases Hc.out with ⟨h1, h2⟩ | ⟨h1, h2, h3⟩
          · rw [h2] at h39; simp only at h39; omega
          · omega
        have e := begL_quo (l := s.data.toList) h39'
        have hle := quoL_le false s.data.toList
        obtain ⟨n, hn⟩ : ∃ n, n = quoL false s.data.toList := ⟨_, rfl⟩
        have hn1 : 1 ≤ n := by
          rw [hn, head_get s h0]; unfold quoL; rw [if_pos h39']; omega
        have Hq : Hid _ := fun W => equoted_any s W
        rw [← hn] at e hle Hq
        have hle2 : n ≤ s.size := by simpa using hle
        have hleI : (n : Int) ≤ s.size := by omega
        have hx : (s.extract 0 n).data.toList = s.data.toList.take n := by simp [List.extract_eq_take_drop]
        have Hx : Hid _ := hx
        have Hh : Hid ((s.extract 0 n).data.toList.head? = some 39) := by
          rw [hx, head_get s h0]
          obtain ⟨n', rfl⟩ : ∃ n', n = n' + 1 := ⟨n - 1, by omega⟩
          simp
          exact UInt8.toNat_inj.1 h39'
        have Hp : Hid (∀ W, Tch (fun _ => False) w W → _) := fun W t => parse_any (s.extract 0 n) (by simp; omega) W (HWd.no (w := w) Hw.out t) (HV.no (w := w) Hv.out t)
        have He : Hid _ := e
        have Hn1 : Hid _ := hn1
        clear e hle hle2 hx h39' hn1 hn
        rw [h39] at qd ql
        go_enter Tryz.func78, Tryz.ntmps78
        go_wp2_with (first | (go_at_call 114; refine (qd _).mono ?_; rintro y w1 ⟨rfl, rfl⟩) | (go_at_call 116; refine (ql _).mono ?_; rintro y w1 ⟨rfl, rfl⟩) | (go_at_call 119; refine (Hq.out _).mono ?_; rintro y w1 ⟨rfl, t1⟩; have Ht1 : Hid _ := t1; clear t1) | (go_at_call 120; refine (Hp.out _ Ht1.out).mono ?_; rintro y w2 ⟨⟨v, e, rfl, hps⟩, t2⟩; have Hps : Hid _ := hps; have Ht2 : Hid _ := t2; clear hps t2) | (go_at_call 118; refine (only_any 1 _ _).mono ?_; rintro y w3 ⟨rfl, rfl⟩))
        · have ho : okT (s.data.toList.take n) = true := by
            have := (PS_okT Hps.out Hh.out).1.1 (by first | assumption | rfl)
            rwa [Hx.out] at this
          have e2 : (srt (begL s[0] s.data.toList).1, (begL s[0] s.data.toList).2) = (1, n) := by rw [He.out, if_pos ho]; rfl
          refine bodyPost_ret (HF.out 1 n _ _ e2 ?_ ?_) rfl ⟨rfl, (Ht1.out.trans' Ht2.out).allocR _⟩ <;> rfl
        · have ho : ¬ okT (s.data.toList.take n) = true := fun h => by
            have h2 := (PS_okT Hps.out Hh.out).1.2 (by rw [Hx.out]; exact h)
            contradiction
          have e2 : (srt (begL s[0] s.data.toList).1, (begL s[0] s.data.toList).2) = (3, n) := by rw [He.out, if_neg ho]; rfl
          refine bodyPost_ret (HF.out 3 n _ _ e2 ?_ ?_) rfl ⟨rfl, (Ht1.out.trans' Ht2.out).allocR _⟩ <;> rfl
      · have h39' : ¬ s[0].toNat = 39 := by
          rcases Hc.out with ⟨h1, h2⟩ | ⟨h1, h2, h3⟩
          · rw [h2] at h39; simp only at h39; omega
          · omega
        have e2 := begL_sgn (l := s.data.toList) Hn48.out HdF.out Hl.out h39'
        have He : Hid _ := e2
        clear e2 h39'
        go_enter Tryz.func78, Tryz.ntmps78
        go_wp2_with (first | (go_at_call 114; refine (qd _).mono ?_; rintro y w1 ⟨rfl, rfl⟩) | (go_at_call 116; refine (ql _).mono ?_; rintro y w1 ⟨rfl, rfl⟩) | (go_at_call 121; refine (signed_any s _).mono ?_; rintro y w1 ⟨rfl, rfl⟩))
        refine bodyPost_ret (HF.out 3 _ _ _ He.out ?_ ?_) rfl ⟨rfl, Tch.refl _ _⟩ <;> rfl
end Go.Proofs.YtmaekkhmiafnmaaGreatDoor
