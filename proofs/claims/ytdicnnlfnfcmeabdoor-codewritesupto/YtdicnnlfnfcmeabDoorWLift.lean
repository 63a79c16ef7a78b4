/- From the row's reading to cells, for CodeWrites: a list of steps, each with its numbers, and how great they are. -/
import Derived.Test.YtdicnnlfnfcmeabDoorWrites0
namespace Go.Proofs.YtdicnnlfnfcmeabDoor
open Go.ChangeShapes Go.WideShapes Go.RowKit Go.Deep

theorem bulk_pos {H : Type} (d : DataW H) : 0 < Rows.uptoBulk d := by
  cases d with
  | lit x => cases x <;> simp [Rows.uptoBulk]
  | _ => simp [Rows.uptoBulk]
theorem bulk_mem {H : Type} {d : DataW H} : ∀ {r : List (DataW H)}, d ∈ r → Rows.uptoBulk d ≤ Rows.uptoBulkAll r
  | [], h => by cases h
  | x :: r, h => by
    rw [Rows.uptoBulkAll]
    rcases List.mem_cons.1 h with rfl | h
    · omega
    · have := bulk_mem h; omega
theorem bulk_len {H : Type} : ∀ r : List (DataW H), r.length ≤ Rows.uptoBulkAll r
  | [] => by simp
  | x :: r => by
    have h1 := bulk_pos x
    have h2 := bulk_len r
    rw [Rows.uptoBulkAll, List.length_cons]; omega

theorem il_of {H : Type} {enc : TypeId × Value → H} {W : World} {fuel : Nat} {c : Value} {x : DataW H × List MemPlace}
    (h : DataW.trod enc Tryd.prog W 0 (fun _ => true) true fuel 30 [c] = some x) : ∃ l, IL W c l W.heap.size ∧ l.length ≤ Rows.uptoBulk x.1 := by
  rcases open_slice1 Tryd.underlying30 cells_op1 h with ⟨h1, _⟩ | ⟨a, len, cap, m, n, V, D, Pl, h1, _, hl, hmx, hm, hx, hel⟩
  · simp at h1
    exact ⟨[], Or.inl ⟨h1, rfl⟩, Nat.zero_le _⟩
  · simp only [List.cons.injEq, and_true] at h1
    have hm' : m = cap := by simpa using hm
    have hV : ∀ i, i < len → W.cell? (a.add i) = some (.int .i64 (intOf (V i))) := fun i hi => by
      obtain ⟨e1, e2⟩ := hel i (by omega)
      obtain ⟨z, e3, _⟩ := DataW.trod_int Tryd.underlying3 e2
      simp at e3
      rw [e1, e3]
      rfl
    have hll : ((List.range len).map fun i => intOf (V i)).length = len := by simp
    refine ⟨(List.range len).map fun i => intOf (V i), Or.inr ⟨a, cap, a.block, a.off, by rw [hll]; exact h1, fun hne => ?_, fun j hj => ?_⟩, ?_⟩
    · have h0 : 0 < len := by
        rcases Nat.eq_zero_or_pos len with h0 | h0
        · exact absurd (by simp [h0]) hne
        · exact h0
      have h2 := hV 0 h0
      refine ⟨?_, by have := cell_lt h2; simpa [Addr.add] using this⟩
      obtain ⟨b, off, spot⟩ := a
      have hs : spot = none := by simpa [Addr.add] using World.cell?_spot h2
      rw [hs]
    · have hj' : j < len := by rw [hll] at hj; exact hj
      have h2 := hV j hj'
      have h3 := hV 0 (by omega)
      obtain ⟨b, off, spot⟩ := a
      have hs : spot = none := by simpa [Addr.add] using World.cell?_spot h3
      subst hs
      simp only [add_plain] at h2
      simpa using h2
    · rw [hll, hx]
      have := bulk_len ((List.range len).map D)
      simp only [Rows.uptoBulk]
      rw [List.length_map, List.length_range] at this
      omega

set_option maxRecDepth 100000 in
theorem opsW_of {H : Type} {enc : TypeId × Value → H} {W : World} {fuel : Nat} {ao : Option Addr} {len cap : Nat} {x : DataW H × List MemPlace}
    (h : DataW.trod enc Tryd.prog W 0 (fun _ => true) true fuel 22 [.slice ao len cap] = some x) (hk : Rows.uptoBulk x.1 ≤ 1048576) :
    len = 0 ∨ ∃ b off, ao = some ⟨b, off, none⟩ ∧ OpsW W b off len W.heap.size ∧ b < W.heap.size ∧ len ≤ 1048576 := by
  rcases open_slice Tryd.underlying22 h with ⟨h1, _⟩ | ⟨a, len', cap', m, n, D, Pl, h1, _, hl, hmx, hm, hx, hel⟩
  · simp at h1; exact Or.inl h1.2.1
  · simp only [List.cons.injEq, Value.slice.injEq, and_true] at h1
    obtain ⟨rfl, rfl, rfl⟩ := h1
    by_cases h0 : len = 0
    · exact Or.inl h0
    right
    have hm' : m = cap := by simpa using hm
    rw [cells_op] at hel
    rw [hx] at hk
    simp only [Rows.uptoBulk] at hk
    have hln := bulk_len ((List.range len).map D)
    rw [List.length_map, List.length_range] at hln
    have key : ∀ i, i < len → ∃ (o : Bool) (k n : Int) (s : ByteArray) (lv : Value) (l : List Int),
        (W.cell? (a.add (i * 5)) = some (.bool o) ∧ W.cell? ((a.add (i * 5)).add 1) = some (.int .i64 k) ∧ W.cell? ((a.add (i * 5)).add 2) = some (.int .i64 n) ∧ W.cell? ((a.add (i * 5)).add 3) = some (.string s) ∧ W.cell? ((a.add (i * 5)).add 4) = some lv) ∧ (-9223372036854775808 ≤ n ∧ n ≤ 9223372036854775807) ∧ IL W lv l W.heap.size ∧ s.size ≤ 1048576 ∧ l.length ≤ 1048576 := by
      intro i hi
      obtain ⟨cs', hc, ht⟩ := hel i (by omega)
      obtain ⟨_, hcl, hcc⟩ := World.cells?_some hc
      obtain ⟨ys, n', _, hy, _, hxl, hf⟩ := DataW.trod_struct Tryd.underlying32 ht
      have hxs : ys.length = 5 := hxl
      obtain ⟨c0, c1, c2, c3, c4, rfl⟩ := list5 cs' hcl
      obtain ⟨y0, y1, y2, y3, y4, rfl⟩ := list5 ys hxs
      have f0 : DataW.trod enc Tryd.prog W 0 (fun _ => true) true n' 4 [c0] = some y0 := by have := hf 0 _ rfl; simpa [cells_op0] using this
      have f1 : DataW.trod enc Tryd.prog W 0 (fun _ => true) true n' 3 [c1] = some y1 := by have := hf 1 _ rfl; simpa [cells_op1] using this
      have f2 : DataW.trod enc Tryd.prog W 0 (fun _ => true) true n' 3 [c2] = some y2 := by have := hf 2 _ rfl; simpa [cells_op1] using this
      have f3 : DataW.trod enc Tryd.prog W 0 (fun _ => true) true n' 9 [c3] = some y3 := by have := hf 3 _ rfl; simpa [cells_op3] using this
      have f4 : DataW.trod enc Tryd.prog W 0 (fun _ => true) true n' 30 [c4] = some y4 := by have := hf 4 _ rfl; simpa [cells_op4] using this
      obtain ⟨l, hil, hlb⟩ := il_of f4
      obtain ⟨o, e0, _⟩ := DataW.trod_bool Tryd.underlying4 f0
      obtain ⟨k, e1, _, wk⟩ := DataW.trod_int Tryd.underlying3 f1
      obtain ⟨nn, e2, _, wn⟩ := DataW.trod_int Tryd.underlying3 f2
      obtain ⟨s, e3, es, _⟩ := DataW.trod_string Tryd.underlying9 f3
      simp at e0 e1 e2 e3
      subst e0 e1 e2 e3
      have hDi : Rows.uptoBulk (D i) ≤ 1048576 := by
        have := bulk_mem (d := D i) (r := (List.range len).map D) (List.mem_map.2 ⟨i, List.mem_range.2 hi, rfl⟩)
        omega
      have hD1 : D i = .agg ([y0, y1, y2, y3, y4].map (·.1)) := congrArg Prod.fst hy
      rw [hD1] at hDi
      simp only [List.map_cons, List.map_nil, Rows.uptoBulk, Rows.uptoBulkAll] at hDi
      have hs1 : Rows.uptoBulk y3.1 = s.size + 1 := by
        rw [es]; simp only [Rows.uptoBulk]
        have : s.data.toList.length = s.size := Array.length_toList
        omega
      have g0 := hcc 0 (by omega)
      have g1 := hcc 1 (by omega)
      have g2 := hcc 2 (by omega)
      have g3 := hcc 3 (by omega)
      have g4 := hcc 4 (by omega)
      exact ⟨o, k, nn, s, c4, l, ⟨by simpa [Addr.add] using g0, by simpa using g1, by simpa using g2, by simpa using g3, by simpa using g4⟩, wf_i64 wn, hil, by omega, by omega⟩
    obtain ⟨b, off, spot⟩ := a
    have hspot : spot = none := by
      obtain ⟨_, _, _, _, _, _, ⟨h0', _⟩, _⟩ := key 0 (by omega)
      simpa [Addr.add] using World.cell?_spot h0'
    subst hspot
    refine ⟨b, off, rfl, ?_, ?_, by omega⟩
    · intro i hi
      obtain ⟨o, k, n, s, lv, l, ⟨h0', h1', h2', h3', h4'⟩, hr⟩ := key i hi
      simp only [add_plain] at h0' h1' h2' h3' h4'
      exact ⟨o, k, n, s, lv, l, ⟨h0', h1', h2', h3', h4'⟩, hr⟩
    · obtain ⟨_, _, _, _, _, _, ⟨h0', _⟩, _⟩ := key 0 (by omega)
      have := cell_lt h0'
      simpa [Addr.add] using this

theorem writes_all {H : Type} {enc : TypeId × Value → H} (v : Value) {d : DataW H} {p : List MemPlace} (W : World) (hg : HE W) (hv : ∃ a len cap, v = .slice a len cap)
    (h : DataW.Trod enc Tryd.prog W 0 (fun _ => true) true 22 v d p) (hk : Rows.uptoBulk d ≤ 1048576) :
    Calls Tryd.prog 3 #[v] W fun x W' => x = .returned (.bool true) ∧ Tch (fun _ => False) W W' := by
  obtain ⟨ao, len, cap, rfl⟩ := hv
  obtain ⟨fuel, hf⟩ := h
  rcases opsW_of hf hk with rfl | ⟨b, off, rfl, ho, hb, hlen⟩
  · exact writes_zero ao cap W hg
  · exact writes_any b off len cap W hg hlen ho hb
end Go.Proofs.YtdicnnlfnfcmeabDoor
