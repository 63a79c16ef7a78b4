import Derived.Test.YtmnhkgibplnnnaaURow
/- book.still. -/
namespace Go.Proofs.Ytmnhkgibplnnnaa
open Go.RowKit Go

theorem LS.read {le : TypeId} {W : World} {F : Nat → Prop} {b : Nat} {mk : Nat → List Value} {A : List Value} {rv : Value} (h : LS le W F b mk A rv) : ∃ ao c, rv = .slice ao A.length c ∧ ∀ j, j < A.length → ∃ G xo m xc, ao = some ⟨G, 0, none⟩ ∧ W.cell? ⟨G, j, none⟩ = some (.slice xo m xc) ∧ m ≤ 3000000 ∧ ∀ q, q < m → ∃ g, xo = some ⟨g, 0, none⟩ ∧ ∀ i u, (mk j)[i]? = some u → W.cell? ⟨g, q * (mk j).length + i, none⟩ = some u := by
  obtain ⟨ao, c, hv⟩ := row_slice h.all
  refine ⟨ao, c, hv, fun j hj => ?_⟩
  have hall := h.all
  rw [hv] at hall
  obtain ⟨G, rfl, _, hG⟩ := own_at5 hall (by omega)
  obtain ⟨xo, m, xc, hx, hm, hg⟩ := h.mv j hj
  refine ⟨G, xo, m, xc, rfl, ?_, hm, fun q hq => ?_⟩
  · have := hG j _ (List.getElem?_eq_getElem hj)
    rw [Nat.zero_add, hx] at this
    exact this
  · obtain ⟨g, e, _, _, ha⟩ := hg (by omega)
    refine ⟨g, e, fun i u hu => ?_⟩
    have hi : i < (mk j).length := (List.getElem?_eq_some_iff.1 hu).1
    have := ha (q * (mk j).length + i) u (by rw [rep_get (mk j) m q i hq hi]; exact hu)
    rwa [Nat.zero_add] at this
set_option maxHeartbeats 4000000 in
set_option maxRecDepth 1000000 in
theorem still_any (b : Nat) (cur : Array Value) (A : List Value) (rv : Value) (F : Nat → Prop) (w : World) (hb : w.heap[b]? = some (.cells cur 42 (0, 0))) (hc0 : cur[0]? = some rv) (hL : LS 25 w F b mkR A rv) (hA : A.length ≤ 100000000) :
    Calls Try.prog 19 #[.pointer (some ⟨b, 0, none⟩)] w fun e w' => e = .returned (.bool true) ∧ w' = w := by
  obtain ⟨ao, ac, rfl, hr⟩ := hL.read
  obtain ⟨n, hn⟩ : ∃ n, n = A.length := ⟨_, rfl⟩
  rw [← hn] at hr hA hc0
  have c0 : w.cell? ⟨b, 0, none⟩ = some (.slice ao n ac) := by rw [blk_cell hb]; exact hc0
  have HR : Hid _ := hr
  clear hb hc0 hL hn hr
  go_enter Try.func19, Try.ntmps19
  go_wp2_with fail
  go_loopg [3] n (fun kx s3 wr => ∃ i : Nat, s3 = .int .i64 i ∧ n - i ≤ kx ∧ i ≤ n ∧ wr = w)
  case atStart => exact ⟨0, rfl, by omega, by omega, rfl⟩
  case round =>
    obtain ⟨i, rfl, hk, hin, rfl⟩ := hrel
    by_cases hi : i < n
    · have hi' : (i : Int) < (n : Int) := by omega
      obtain ⟨G, xo, m, xc, rfl, cG, hm, hq⟩ := HR.out i hi
      have HQ : Hid _ := hq
      clear hq
      go_wp2_with fail
      go_loopg [4] m (fun kx s4 wq => ∃ k : Nat, s4 = .int .i64 k ∧ m - k ≤ kx ∧ k ≤ m ∧ wq = wr)
      case atStart => exact ⟨0, rfl, by omega, by omega, rfl⟩
      case round =>
        obtain ⟨k, rfl, hk2, hkm, rfl⟩ := hrel
        by_cases hkm2 : k < m
        · have hkm' : (k : Int) < (m : Int) := by omega
          obtain ⟨g, rfl, hc⟩ := HQ.out k hkm2
          obtain ⟨K, hK⟩ : ∃ K : Int, K = -5 - ((i / 10 * 10 : Nat) : Int) := ⟨_, rfl⟩
          have x0 := hc 0 _ rfl
          have x1 := hc 1 _ rfl
          have x2 := hc 2 _ rfl
          have e3 : (mkR i).length = 3 := rfl
          rw [e3] at x0 x1 x2
          rw [Nat.add_zero, ← hK] at x0
          have hK' : -5 - (i : Int) / 10 * 10 = K := by rw [hK]; omega
          have hne := vne ⟨K, 0, ⟨#[]⟩⟩
          simp only at hne
          clear hc hK e3
          go_wp2_with fail
          go_roundg (m - (k + 1))
          case measure => omega
          case rel => exact ⟨k + 1, rfl, by omega, by omega, rfl⟩
        · have hkm' : ¬ (k : Int) < (m : Int) := by omega
          go_wp2_with fail
          go_roundg (n - (i + 1))
          case measure => omega
          case rel => exact ⟨i + 1, rfl, by omega, by omega, rfl⟩
    · have hi' : ¬ (i : Int) < (n : Int) := by omega
      go_wp2
      go_ret
      exact ⟨rfl, rfl⟩
end Go.Proofs.Ytmnhkgibplnnnaa
