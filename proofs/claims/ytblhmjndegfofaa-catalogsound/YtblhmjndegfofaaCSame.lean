import Derived.Test.YtblhmjndegfofaaCWid3
/- SameTable, of two that are the same. -/
namespace Go.Proofs.Ytblhmjndegfofaa
open Go.RowKit Go

set_option maxHeartbeats 2000000 in
set_option maxRecDepth 100000 in
theorem same_true (t : Tbl) (ao bo : Option Addr) (ac bc : Nat) (w : World) (hA : SL w ao (ccl t.cols)) (hB : SL w bo (ccl t.cols)) (hl : t.cols.length ≤ 8) :
    Calls Try.prog 22 #[tA t.id t.ver t.nm (.slice ao t.cols.length ac) t.key, tA t.id t.ver t.nm (.slice bo t.cols.length bc) t.key] w fun x w' => x = .returned (.bool true) ∧ Tch (fun _ => False) w w' := by
  obtain ⟨n, hn⟩ : ∃ n, n = t.cols.length := ⟨_, rfl⟩
  obtain ⟨N, hN⟩ : ∃ N, N = w.heap.size := ⟨_, rfl⟩
  obtain ⟨w0, hw0⟩ : ∃ w0, w0 = (w.alloc (.cells #[.int .i64 t.id, .int .i64 t.ver, .string t.nm, .slice ao n ac, .int .i64 t.key] 29)).alloc (.cells #[.int .i64 t.id, .int .i64 t.ver, .string t.nm, .slice bo n bc, .int .i64 t.key] 29) := ⟨_, rfl⟩
  have t0 : Tch (fun _ => False) w w0 := by rw [hw0]; exact (Tch.alloc _ _ _).allocR _
  have hX : w0.heap[N]? = some (.cells #[.int .i64 t.id, .int .i64 t.ver, .string t.nm, .slice ao n ac, .int .i64 t.key] 29 (0, 0)) := by
    rw [hw0, hN]; exact (Tch.alloc (fun _ => False) _ _).block _ (by simp) (fun h => h) |>.trans (alloc_new _ _)
  have hY : w0.heap[N + 1]? = some (.cells #[.int .i64 t.id, .int .i64 t.ver, .string t.nm, .slice bo n bc, .int .i64 t.key] 29 (0, 0)) := by
    rw [hw0, hN, ← World.size_alloc]; exact alloc_new _ _
  have HB : Hid (∀ W, Tch (fun _ => False) w0 W → W.cell? ⟨N, 3, none⟩ = some (.slice ao n ac) ∧ W.cell? ⟨N + 1, 3, none⟩ = some (.slice bo n bc) ∧ SL W ao (ccl t.cols) ∧ SL W bo (ccl t.cols)) := fun W tW => by
    have h1 : W.heap[N]? = _ := (tW.block N (blk_lt hX) (fun h => h)).trans hX
    have h2 : W.heap[N + 1]? = _ := (tW.block (N + 1) (blk_lt hY) (fun h => h)).trans hY
    exact ⟨by rw [blk_cell h1]; rfl, by rw [blk_cell h2]; rfl, hA.no (t0.trans' tW), hB.no (t0.trans' tW)⟩
  have HT0 : Hid (Tch (fun _ => False) w w0) := t0
  have Hw0 : Hid _ := hw0
  have HN : Hid (N = w.heap.size) := hN
  have Hn : Hid (n = t.cols.length) := hn
  have hn8 : n ≤ 8 := by omega
  rw [← hn]
  clear hA hB hw0 hN hX hY t0 hn
  go_enter Try.func22, Try.ntmps22
  go_wp2_with fail
  have hw0 := Hw0.out
  rw [← hw0]
  rw [← HN.out]
  clear hw0
  go_loopw [5] (fun i wr => ∃ k : Nat, i = .int .i64 k ∧ k ≤ n ∧ Hid (Tch (fun _ => False) w0 wr)) (fun i _ => n - (intOf i).toNat)
  case atStart => exact ⟨0, rfl, by omega, Tch.refl _ _⟩
  case round =>
    obtain ⟨k, rfl, hk, HT⟩ := hrel
    obtain ⟨wV, hwV⟩ : ∃ wV, wV = wr := ⟨_, rfl⟩
    subst hwV
    obtain ⟨b3, b4, s1, s2⟩ := HB.out wV HT.out
    by_cases hlt : (k : Int) < n
    · have hkl : k < t.cols.length := by have := Hn.out; omega
      obtain ⟨ga, oa, rfl, ha⟩ := s1.col hkl
      obtain ⟨gb, ob, rfl, hb⟩ := s2.col hkl
      obtain ⟨c0, c1, c2⟩ := ha.col k hkl
      obtain ⟨d0, d1, d2⟩ := hb.col k hkl
      obtain ⟨x, hx⟩ : ∃ x, x = t.cols[k] := ⟨_, rfl⟩
      rw [← hx] at c0 c1 c2 d0 d1 d2
      obtain ⟨dd, hdd, hnd⟩ := ne_col x x
      obtain rfl : dd = false := by cases dd with
        | false => rfl
        | true => exact absurd rfl (hdd.1 rfl)
      have HTQ : Hid (∀ nq, Tch (fun _ => False) w0 (wV.drewN nq)) := fun nq => HT.out.drewN _
      clear hdd ha hb hx s1 s2 hkl
      go_wp2_with fail
      go_quiet (fail)
      clear c0 c1 c2 d0 d1 d2 hnd b3 b4
      have HTq := HTQ.out nq
      go_wp2_with fail
      go_roundw
      case rel => exact ⟨k + 1, by go_num, by omega, HTq⟩
      case measure => simp [intOf]; omega
    · go_wp2_with fail
      go_ret
      exact ⟨rfl, HT0.out.trans' HT.out⟩
end Go.Proofs.Ytblhmjndegfofaa
