import Derived.Test.YtdbaafigmfclcaaTRemI
/- A tree in the world; above. -/
namespace Go.Proofs.Ytdbaafigmfclcaa
open Go.RowKit Go

/-- A tree: its items, how many floors it has, its blocks. -/
def TW (w : World) (b : Nat) (l : List It) (ht : Nat) (F : List Nat) : Prop := Nod F ∧ Sorted l ∧
  ((l = [] ∧ ht = 0 ∧ F = [b] ∧ w.heap[b]? = some (.cells #[.pointer none] 64 (0, 0))) ∨
   ∃ (h : Nat) (t : Nd It h) (p : Nat) (G : List Nat), ht = h + 1 ∧ w.heap[b]? = some (.cells #[pv p] 64 (0, 0)) ∧ NW h w p t G ∧ t.ok ∧ 1 ≤ t.its.length ∧ t.flat h = l ∧ F = b :: G)
theorem TW.lt {w : World} {b : Nat} {l : List It} {ht : Nat} {F : List Nat} (h : TW w b l ht F) : ∀ x ∈ F, x < w.heap.size := fun x hx => by
  obtain ⟨_, _, ⟨_, _, rfl, hb⟩ | ⟨h, t, p, G, _, hb, hN, _, _, _, rfl⟩⟩ := h
  · rw [List.mem_singleton.1 hx]; exact blk_lt hb
  · rcases List.mem_cons.1 hx with rfl | hx
    · exact blk_lt hb
    · exact hN.lt x hx
theorem TW.tch {S : Nat → Prop} {w w' : World} {b : Nat} {l : List It} {ht : Nat} {F : List Nat} (h : TW w b l ht F) (t : Tch S w w') (hS : ∀ x ∈ F, ¬ S x) : TW w' b l ht F := by
  obtain ⟨h1, h2, ⟨e1, e2, rfl, hb⟩ | ⟨h, t', p, G, e1, hb, hN, h3, h4, h5, rfl⟩⟩ := h
  · exact ⟨h1, h2, Or.inl ⟨e1, e2, rfl, by rw [t.block b (blk_lt hb) (hS b (by simp))]; exact hb⟩⟩
  · exact ⟨h1, h2, Or.inr ⟨h, t', p, G, e1, by rw [t.block b (blk_lt hb) (hS b (by simp))]; exact hb, hN.tch t (fun x hx => hS x (by simp [hx])), h3, h4, h5, rfl⟩⟩
/-- How many floors there may be. -/
theorem TW.floors {w : World} {b : Nat} {l : List It} {ht : Nat} {F : List Nat} (h : TW w b l ht F) : (l.length = 0 ∧ ht = 0) ∨ (1 ≤ l.length ∧ 1 ≤ ht ∧ 2 * 8 ^ (ht - 1) ≤ l.length + 1 ∧ l.length + 1 ≤ 16 ^ ht) := by
  obtain ⟨_, _, ⟨rfl, rfl, _, _⟩ | ⟨h, t, p, G, rfl, _, _, h3, h4, rfl, _⟩⟩ := h
  · exact Or.inl ⟨rfl, rfl⟩
  · right
    have h5 := flat_low h t h3 h4
    have h6 := flat_high h t h3
    have h7 : 2 * 8 ^ h ≤ (t.its.length + 1) * 8 ^ h := Nat.mul_le_mul_right _ (by omega)
    have h8 : 1 ≤ 8 ^ h := Nat.pow_pos (by omega)
    refine ⟨by omega, by omega, by simpa using Nat.le_trans h7 h5, h6⟩

set_option maxHeartbeats 2000000 in
set_option maxRecDepth 100000 in
theorem above_any (h : Nat) (w : World) (p : Nat) (t : Nd It h) (G : List Nat) (hN : NW h w p t G) (hn : Nod G) (hs : t.sub) (h16 : t.its.length = 16) (hb : (t.flat h).length ≤ 1000000000000000000) :
    Calls Try.prog 30 #[pv p] w fun x w' => ∃ (N : Nat) (t' : Nd It (h + 1)) (G' : List Nat), x = .returned (pv N) ∧ NW (h + 1) w' N t' G' ∧ t'.ok ∧ t'.its.length = 1 ∧ t'.flat (h + 1) = t.flat h ∧ Fits w.heap.size G G' ∧ Tch (fun i => i ∈ G) w w' := by
  obtain ⟨c2, -⟩ := hN.size
  obtain ⟨s, hsz⟩ : ∃ s : Int, s = ((Nd.flat h t).length : Int) := ⟨_, rfl⟩
  rw [← hsz] at c2
  obtain ⟨K, hK⟩ : ∃ K, K = w.heap.size := ⟨_, rfl⟩
  obtain ⟨w1, hw1⟩ : ∃ w1, w1 = w.alloc (.cells #[pv p] 62) := ⟨_, rfl⟩
  have t1 : Tch (fun _ => False) w w1 := by rw [hw1]; exact Tch.alloc _ _ _
  have hs1 : w1.heap.size = K + 1 := by rw [hw1, hK, World.size_alloc]
  obtain ⟨w2, hw2⟩ : ∃ w2, w2 = w1.alloc (.cells #[.slice none 0 0, .slice (some ⟨K, 0, none⟩) 1 1, .int .i64 s] 68) := ⟨_, rfl⟩
  have t2 : Tch (fun _ => False) w1 w2 := by rw [hw2]; exact Tch.alloc _ _ _
  have hK1 : w1.heap[K]? = some (.cells #[pv p] 62 (0, 0)) := by rw [hw1, hK]; exact alloc_new _ _
  have hK2 : w2.heap[K]? = some (.cells [pv p].toArray 62 (0, 0)) := by rw [t2.block K (blk_lt hK1) (fun h => h)]; exact hK1
  have hN2 : w2.heap[K + 1]? = some (.cells #[.slice none 0 0, .slice (some ⟨K, 0, none⟩) 1 1, .int .i64 s] 68 (0, 0)) := by rw [hw2, ← hs1]; exact alloc_new _ _
  have hNx : NWX h w2 (K + 1) [] ([] ++ t :: []) (fb (K + 1) (.slice none 0 0) (.slice (some ⟨K, 0, none⟩) 1 1) ++ G) s := ⟨_, _, [p], G, ⟨hN2, World.ownsRow_nil _ _ _ _, own_one hK2 rfl⟩, ⟨[(p, t, G)], rfl, rfl, by simp, fun x hx => by
    rw [List.mem_singleton.1 hx]
    exact hN.tch (t1.trans' t2) (fun _ _ h => h)⟩, rfl⟩
  have hfbe : fb (K + 1) (.slice none 0 0) (.slice (some ⟨K, 0, none⟩) 1 1) = [K + 1, K] := rfl
  have hGlt := hN.lt
  have hnod : Nod (fb (K + 1) (.slice none 0 0) (.slice (some ⟨K, 0, none⟩) 1 1) ++ G) := fun b => by
    rw [hfbe, List.count_append]
    have h1 := hn b
    by_cases hbG : b ∈ G
    · have h2 := hGlt b hbG
      have h3 : [K + 1, K].count b = 0 := List.count_eq_zero.2 (by simp; omega)
      omega
    · have h3 : G.count b = 0 := List.count_eq_zero.2 hbG
      have h4 : [K + 1, K].count b ≤ 1 := by
        rw [List.count_cons, List.count_singleton]
        by_cases e1 : K = b
        · have e2 : (K + 1 == b) = false := by simp; omega
          simp [e1]
        · simp [e1]; split <;> omega
      omega
  obtain ⟨m, hm⟩ : ∃ m, t.its[7]? = some m := ⟨t.its[7]'(by omega), List.getElem?_eq_getElem (by omega)⟩
  have he := sub_even h t hs
  have q := split_x h w2 (K + 1) s [] [] [] [] t m _ hNx hnod rfl rfl (by simp) h16 he hm hb
  have hck := cut_ok h t hs h16
  have Hq : Hid _ := hw2
  have HK : Hid (K = w.heap.size) := hK
  have Hs1 : Hid (w1.heap.size = K + 1) := hs1
  have hw2' : w2 = (w.alloc (.cells #[pv p] 62)).alloc (.cells #[.slice none 0 0, .slice (some ⟨K, 0, none⟩) 1 1, .int .i64 s] 68) := by rw [hw2, hw1]
  have Hw2 : Hid _ := hw2'
  have c2' : (w.alloc (.cells #[pv p] 62)).cell? ⟨p, 2, none⟩ = some (.int .i64 s) := by rw [← hw1, t1.cell (p := ⟨p, 2, none⟩) (cell_lt c2) (fun h => h)]; exact c2
  have T02 : Hid (Tch (fun _ => False) w w2) := t1.trans' t2
  have HG : Hid (∀ b ∈ G, b < K) := by rw [hK]; exact hGlt
  have Hn : Hid (Nod G) := hn
  have Hsz : Hid (s = ((Nd.flat h t).length : Int)) := hsz
  have Hfl : Hid (Nd.flat (h + 1) (([m], [Nd.lo h 7 t, Nd.hi h 7 t]) : Nd It (h + 1)) = t.flat h) := by
    show _ = _
    have := glue_in h [] [] [] [] (Nd.lo h 7 t) m (Nd.hi h 7 t) rfl (lo_even h 7 t he (by omega))
    rw [glue_cut h 7 t m hm] at this
    simp only [List.nil_append] at this
    rw [this]
    rfl
  have Hok : Hid (Nd.ok (h + 1) (([m], [Nd.lo h 7 t, Nd.hi h 7 t]) : Nd It (h + 1))) := ⟨by show [m].length ≤ 15; simp, rfl, fun x hx => by
    simp only [List.mem_cons, List.not_mem_nil, or_false] at hx
    rcases hx with rfl | rfl
    · exact ⟨hck.1, by omega⟩
    · exact ⟨hck.2.2.1, by omega⟩⟩
  have hpK : (p : Nat) < K := by rw [hK]; exact cell_lt c2
  have HpK : Hid (p < K) := hpK
  clear hw1 hw2 hw2' t1 t2 hs1 hK1 hK2 hN2 hNx hnod hfbe hGlt hm he hck hN hn hs h16 hb hsz hpK Hq hK
  go_enter Try.func30, Try.ntmps30
  go_wp2_with fail
  rw [← HK.out]
  have hw := Hw2.out
  rw [← hw]
  clear hw c2 c2'
  refine q.mono ?_
  rintro x w3 ⟨rfl, G', N3, fi3, tc3⟩
  have N3' : Hid (NWX h w3 (K + 1) [m] [Nd.lo h 7 t, Nd.hi h 7 t] G' s) := N3
  have Fi : Hid (Fits w2.heap.size (fb (K + 1) (.slice none 0 0) (.slice (some ⟨K, 0, none⟩) 1 1) ++ G) G') := fi3
  have Tc : Hid (Tch (fun i => i ∈ fb (K + 1) (.slice none 0 0) (.slice (some ⟨K, 0, none⟩) 1 1) ++ G) w2 w3) := tc3
  clear q N3 fi3 tc3
  go_wp2_with fail
  go_ret
  have hfb : fb (K + 1) (.slice none 0 0) (.slice (some ⟨K, 0, none⟩) 1 1) = [K + 1, K] := rfl
  refine ⟨K + 1, (([m], [Nd.lo h 7 t, Nd.hi h 7 t]) : Nd It (h + 1)), G', rfl, ?_, Hok.out, rfl, Hfl.out, fun b => ?_, ?_⟩
  · rw [NW_X, Hfl.out, ← Hsz.out]
    exact N3'.out
  · have h1 := Fi.out b
    have h2 := T02.out.size
    have h3 := Hn.out b
    rw [hfb, List.count_append] at h1
    constructor
    · intro hb
      have h4 : [K + 1, K].count b = 0 := List.count_eq_zero.2 (by have := HK.out; simp; omega)
      have := h1.1 (by omega)
      omega
    · intro hb
      rcases Nat.lt_or_ge b w2.heap.size with h5 | h5
      · have h6 := h1.1 h5
        have h7 : G.count b = 0 := List.count_eq_zero.2 (fun hm => by have := HG.out b hm; have := HK.out; omega)
        have h8 : [K + 1, K].count b ≤ 1 := by
          rw [List.count_cons, List.count_singleton]
          by_cases e1 : K = b
          · have e2 : (K + 1 == b) = false := by simp; omega
            simp [e1]
          · simp [e1]; split <;> omega
        omega
      · exact h1.2 h5
  · refine (T02.out.mono (fun _ _ h => h.elim)).trans Tc.out (fun i hi hm => ?_)
    rw [hfb] at hm
    rcases List.mem_append.1 hm with h5 | h5
    · simp only [List.mem_cons, List.not_mem_nil, or_false] at h5
      have := HK.out
      omega
    · exact h5
end Go.Proofs.Ytdbaafigmfclcaa
