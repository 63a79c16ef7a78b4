/- asLent of the law. -/
import Derived.Test.YtdicnnlfnfcmeabDoorKLent
namespace Go.Proofs.YtdicnnlfnfcmeabDoor
open Go.RowKit Go.Sort

theorem asLent_nil (r : Value) (w : World) : Calls Tryd.prog 26 #[r, .slice none 0 0] w fun x w' => x = .returned (.bool true) ∧ w' = w := by
  have he := eq_nil_yes
  go_enter Tryd.func26, Tryd.ntmps26
  go_wp2
  go_ret
  exact ⟨rfl, rfl⟩

set_option maxHeartbeats 1000000 in
set_option maxRecDepth 100000 in
theorem asLent_any (l : List Int) (ad : Addr) (gl o c g cap : Nat) (w : World) (had : l ≠ [] → ad = ⟨gl, o, none⟩) (hne : l ≠ [] → gl ≠ g) (hcells : ∀ j (hj : j < l.length), w.cell? ⟨gl, o + j, none⟩ = some (.int .i64 l[j])) (hlen : l.length ≤ 1048576)
    (hcap : l.length + 4 ≤ cap) (hrow : ∀ j (hj : j < (lentL l).length), w.cell? ⟨g, j, none⟩ = some (.int .i64 (lentL l)[j])) (hfr : ∀ j, w.frozen? ⟨g, j, none⟩ = false) :
    Calls Tryd.prog 26 #[.slice (some ⟨g, 0, none⟩) l.length cap, .slice (some ad) l.length c] w fun x w' => x = .returned (.bool true) ∧ Tch (fun i => i = g) w w' := by
  have he := eq_nil_no ad l.length c
  have hll : (lentL l).length = l.length + 4 := by simp [lentL]
  have HL : Hid (∀ W, Tch (fun i => i = g) w W → ∀ j (hj : j < l.length), W.cell? ⟨gl, o + j, none⟩ = some (.int .i64 l[j])) := fun W t j hj => (t.cell (p := ⟨gl, o + j, none⟩) (cell_lt (hcells j hj)) (hne (by rintro rfl; simp at hj))).trans (hcells j hj)
  have HW : Hid (∀ k (hk : k < l.length), (lentL l)[k]'(by omega) = l[k]) := fun k hk => by simp [lentL, hk]
  have HW2 : Hid (∀ k (hk : k < (lentL l).length), ¬ k < l.length → (lentL l)[k] = -7) := fun k hk hn => by
    unfold lentL at hk ⊢
    rw [List.getElem_append_right (by omega)]
    have hk4 : k - l.length < 4 := by simp at hk; omega
    have : ∀ m, (hm : m < 4) → ([-7, -7, -7, -7] : List Int)[m]'(by simpa using hm) = -7 := by decide
    exact this _ hk4
  have HR : Hid (∀ j (hj : j < (lentL l).length), w.cell? ⟨g, j, none⟩ = some (.int .i64 (lentL l)[j])) := hrow
  have HF : Hid (∀ j, w.frozen? ⟨g, j, none⟩ = false) := hfr
  have HD : Hid (l ≠ [] → ad = ⟨gl, o, none⟩) := had
  clear hcells hne hrow hfr had
  have hcap' : (l.length : Int) + 4 ≤ cap := by omega
  go_enter Tryd.func26, Tryd.ntmps26
  go_wp2
  go_loopw [6] (fun i wr => ∃ k : Nat, i = .int .i64 k ∧ k ≤ l.length + 4 ∧ Hid (∀ j (hj : j < (lentL l).length), k ≤ j → wr.cell? ⟨g, j, none⟩ = some (.int .i64 (lentL l)[j])) ∧ Hid (∀ j, wr.frozen? ⟨g, j, none⟩ = false) ∧ Tch (fun i => i = g) w wr) (fun i _ => l.length + 4 - (intOf i).toNat)
  case atStart => exact ⟨0, rfl, Nat.zero_le _, fun j hj _ => HR.out j hj, HF, Tch.refl _ _⟩
  case round =>
    obtain ⟨k, rfl, hk, HC, HZ, hT⟩ := hrel
    by_cases hk4 : k < l.length + 4
    · have hk4' : (k : Int) < l.length + 4 := by omega
      have hz := HZ.out k
      have hc := HC.out k (by omega) (Nat.le_refl _)
      obtain ⟨x, hx⟩ : ∃ x, x = (lentL l)[k]'(by omega) := ⟨_, rfl⟩
      rw [← hx] at hc
      have HN : Hid (∀ v, (∀ j (hj : j < (lentL l).length), k + 1 ≤ j → (wr.setCell ⟨g, k, none⟩ v).cell? ⟨g, j, none⟩ = some (.int .i64 (lentL l)[j])) ∧ (∀ j, (wr.setCell ⟨g, k, none⟩ v).frozen? ⟨g, j, none⟩ = false)) := fun v =>
        ⟨fun j hj hkj => by rw [World.cell?_setCell_other (h := by intro e; injection e; omega)]; exact HC.out j hj (by omega), fun j => by simpa using HZ.out j⟩
      by_cases hkl : k < l.length
      · have hkl' : (k : Int) < l.length := by omega
        have hda := HD.out (by rintro rfl; simp at hkl)
        clear HD
        subst hda
        have hcl := HL.out wr hT k hkl
        rw [← HW.out k hkl, ← hx] at hcl
        clear hx
        go_wp2
        go_roundw
        case rel => exact ⟨k + 1, by go_num, by omega, (HN.out _).1, (HN.out _).2, hT.setCellR _ _ rfl⟩
        case measure => simp [intOf]; omega
      · have hkl' : ¬ (k : Int) < l.length := by omega
        have hx7 : x = -7 := by rw [hx]; exact HW2.out k (by omega) hkl
        subst hx7
        clear hx
        go_wp2
        go_roundw
        case rel => exact ⟨k + 1, by go_num, by omega, (HN.out _).1, (HN.out _).2, hT.setCellR _ _ rfl⟩
        case measure => simp [intOf]; omega
    · have hk4' : ¬ (k : Int) < l.length + 4 := by omega
      go_wp2
      go_ret
      exact ⟨rfl, hT⟩
end Go.Proofs.YtdicnnlfnfcmeabDoor
