import Derived.Test.YtblhmjndegfofaaCLoad
/- sameTables, of two lists that are the same. -/
namespace Go.Proofs.Ytblhmjndegfofaa
open Go.RowKit Go

set_option maxHeartbeats 2000000 in
set_option maxRecDepth 100000 in
theorem sames_true (A B : List (Tbl × Value)) (ao bo : Option Addr) (ac bc : Nat) (F G : Nat → Prop) (w : World) (hA : TL w F ao A) (hB : TL w G bo B) (hAB : A.map Prod.fst = B.map Prod.fst) (hl : A.length ≤ 16) (h8 : ∀ i (hi : i < A.length), A[i].1.cols.length ≤ 8) :
    Calls Try.prog 25 #[.slice ao A.length ac, .slice bo B.length bc] w fun x w' => x = .returned (.bool true) ∧ Tch (fun _ => False) w w' := by
  obtain ⟨n, hn⟩ : ∃ n, n = A.length := ⟨_, rfl⟩
  have hBl : B.length = n := by have h3 := congrArg List.length hAB; rw [List.length_map, List.length_map] at h3; omega
  have hAi : ∀ i (hi : i < A.length), ∀ hj : i < B.length, A[i].1 = B[i].1 := fun i hi hj => by
    have h3 : (A.map Prod.fst)[i]? = (B.map Prod.fst)[i]? := by rw [hAB]
    rw [List.getElem?_map, List.getElem?_map, List.getElem?_eq_getElem hi, List.getElem?_eq_getElem hj] at h3
    simpa using h3
  have HA : Hid (TL w F ao A) := hA
  have HB : Hid (TL w G bo B) := hB
  have HAi : Hid _ := hAi
  have H8 : Hid _ := h8
  have Hn : Hid (n = A.length ∧ B.length = n) := ⟨hn, hBl⟩
  have hn16 : n ≤ 16 := by omega
  rw [hBl, ← hn]
  clear hA hB hAi hAB h8 hn hBl hl
  go_enter Try.func25, Try.ntmps25
  go_wp2_with fail
  go_loopw [5] (fun i wr => ∃ k : Nat, i = .int .i64 k ∧ k ≤ n ∧ Hid (Tch (fun _ => False) w wr)) (fun i _ => n - (intOf i).toNat)
  case atStart => exact ⟨0, rfl, by omega, Tch.refl _ _⟩
  case round =>
    obtain ⟨k, rfl, hk, HT⟩ := hrel
    obtain ⟨wV, hwV⟩ : ∃ wV, wV = wr := ⟨_, rfl⟩
    subst hwV
    by_cases hlt : (k : Int) < n
    · have hkA : k < A.length := by have := Hn.out; omega
      have hkB : k < B.length := by have := Hn.out; omega
      have hTA := HA.out.tch HT.out (fun _ _ h => h.elim)
      have hTB := HB.out.tch HT.out (fun _ _ h => h.elim)
      obtain ⟨ga, oa, rfl, a0, a1, a2, a3, a4⟩ := hTA.at k hkA
      obtain ⟨gb, ob, rfl, b0, b1, b2, b3, b4⟩ := hTB.at k hkB
      obtain ⟨ca, cca, hca⟩ := hTA.col k hkA
      obtain ⟨cb, ccb, hcb⟩ := hTB.col k hkB
      obtain ⟨t, ht⟩ : ∃ t, t = A[k].1 := ⟨_, rfl⟩
      have ht2 : B[k].1 = t := by rw [ht]; exact (HAi.out k hkA hkB).symm
      have e1 : A[k].2 = .slice ca t.cols.length cca := by rw [ht]; exact hca.eq
      have e2 : B[k].2 = .slice cb t.cols.length ccb := by rw [← ht2]; exact hcb.eq
      rw [← ht] at a0 a1 a2 a4
      rw [ht2] at b0 b1 b2 b4
      rw [e1] at a3
      rw [e2] at b3
      obtain ⟨m, hm⟩ : ∃ m, m = t.cols.length := ⟨_, rfl⟩
      rw [← hm] at a3 b3
      have hsa : SL wV ca (ccl t.cols) := by rw [ht]; exact hca.sl
      have hsb : SL wV cb (ccl t.cols) := by rw [← ht2]; exact hcb.sl
      have h8t : t.cols.length ≤ 8 := by rw [ht]; exact H8.out k hkA
      have Hq : Hid (∀ W, Tch (fun _ => False) wV W → Calls Try.prog 22 #[tA t.id t.ver t.nm (.slice ca m cca) t.key, tA t.id t.ver t.nm (.slice cb m ccb) t.key] W fun x w' => x = .returned (.bool true) ∧ Tch (fun _ => False) W w') := fun W tW => by
        rw [hm]; exact same_true t ca cb cca ccb W (hsa.no tW) (hsb.no tW) h8t
      have HS : Hid (∀ W, Tch (fun _ => False) wV W → Tch (fun _ => False) wV W ∧ (W.cell? ⟨ga, oa + k * 5, none⟩ = some (.int .i64 t.id) ∧ W.cell? ⟨ga, oa + k * 5 + 1, none⟩ = some (.int .i64 t.ver) ∧ W.cell? ⟨ga, oa + k * 5 + 2, none⟩ = some (.string t.nm) ∧ W.cell? ⟨ga, oa + k * 5 + 3, none⟩ = some (.slice ca m cca) ∧ W.cell? ⟨ga, oa + k * 5 + 4, none⟩ = some (.int .i64 t.key)) ∧ (W.cell? ⟨gb, ob + k * 5, none⟩ = some (.int .i64 t.id) ∧ W.cell? ⟨gb, ob + k * 5 + 1, none⟩ = some (.int .i64 t.ver) ∧ W.cell? ⟨gb, ob + k * 5 + 2, none⟩ = some (.string t.nm) ∧ W.cell? ⟨gb, ob + k * 5 + 3, none⟩ = some (.slice cb m ccb) ∧ W.cell? ⟨gb, ob + k * 5 + 4, none⟩ = some (.int .i64 t.key))) := fun W tW => by
        have key : ∀ (a : Addr) u, wV.cell? a = some u → W.cell? a = some u := fun a u h => by rw [tW.cell (p := a) (cell_lt h) (fun h => h)]; exact h
        exact ⟨tW, ⟨key _ _ a0, key _ _ a1, key _ _ a2, key _ _ a3, key _ _ a4⟩, key _ _ b0, key _ _ b1, key _ _ b2, key _ _ b3, key _ _ b4⟩
      clear hTA hTB hca hcb ht ht2 e1 e2 hm hsa hsb h8t
      go_wp2_with fail
      clear a0 a1 a2 a3 a4 b0 b1 b2 b3 b4
      obtain ⟨_, ⟨a0, a1, a2, a3, a4⟩, b0, b1, b2, b3, b4⟩ := HS.out wV (Tch.refl _ _)
      go_region_held3 (fun W => Tch (fun _ => False) wV W ∧ (W.cell? ⟨ga, oa + k * 5, none⟩ = some (.int .i64 t.id) ∧ W.cell? ⟨ga, oa + k * 5 + 1, none⟩ = some (.int .i64 t.ver) ∧ W.cell? ⟨ga, oa + k * 5 + 2, none⟩ = some (.string t.nm) ∧ W.cell? ⟨ga, oa + k * 5 + 3, none⟩ = some (.slice ca m cca) ∧ W.cell? ⟨ga, oa + k * 5 + 4, none⟩ = some (.int .i64 t.key)) ∧ (W.cell? ⟨gb, ob + k * 5, none⟩ = some (.int .i64 t.id) ∧ W.cell? ⟨gb, ob + k * 5 + 1, none⟩ = some (.int .i64 t.ver) ∧ W.cell? ⟨gb, ob + k * 5 + 2, none⟩ = some (.string t.nm) ∧ W.cell? ⟨gb, ob + k * 5 + 3, none⟩ = some (.slice cb m ccb) ∧ W.cell? ⟨gb, ob + k * 5 + 4, none⟩ = some (.int .i64 t.key)))
        ((refine HS.out _ ?_; first | assumption | exact (Tch.refl _ _).drew))
        ((go_at_call 22; refine (Hq.out _ (show _ ∧ _ by assumption).1).mono ?_; rintro y w5 ⟨rfl, t5⟩; have V5 := Tch.trans' (show _ ∧ _ by assumption).1 t5))
      go_wp2_with fail
      go_roundw
      case rel => exact ⟨k + 1, by go_num, by omega, HT.out.trans' V5⟩
      case measure => simp [intOf]; omega
    · go_wp2_with fail
      go_ret
      exact ⟨rfl, HT.out⟩
end Go.Proofs.Ytblhmjndegfofaa
