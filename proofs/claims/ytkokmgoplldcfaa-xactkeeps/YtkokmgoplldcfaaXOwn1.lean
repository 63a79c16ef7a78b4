/- XactOwn: the steps of its first loop. -/
import Derived.Test.YtkokmgoplldcfaaXFace
import Derived.Laws.MakeOwn
import Derived.Laws.OwnMore
namespace Go.Proofs.Ytkokmgoplldcfaa
open Go.RowKit Go Go.Sort

/-- A list of deeds, for reading. -/
def DL (w : World) (ao : Option Addr) (L : List (Int × Int)) : Prop := ∀ k d, L[k]? = some d → (-9223372036854775808 ≤ d.1 ∧ d.1 ≤ 9223372036854775807 ∧ -9223372036854775808 ≤ d.2 ∧ d.2 ≤ 9223372036854775807) ∧ ∃ g o, ao = some ⟨g, o, none⟩ ∧ w.cell? ⟨g, o + k * 2, none⟩ = some (.int .i64 d.1) ∧ w.cell? ⟨g, o + k * 2 + 1, none⟩ = some (.int .i64 d.2)
theorem DL.no {w w' : World} {ao : Option Addr} {L : List (Int × Int)} (h : DL w ao L) (t : Tch (fun _ => False) w w') : DL w' ao L := fun k d hk => by
  obtain ⟨hr, g, o, e, h1, h2⟩ := h k d hk
  exact ⟨hr, g, o, e, by rw [t.cell (p := ⟨g, o + k * 2, none⟩) (cell_lt h1) (fun h => h)]; exact h1, by rw [t.cell (p := ⟨g, o + k * 2 + 1, none⟩) (cell_lt h2) (fun h => h)]; exact h2⟩

/-- The state between the steps. -/
def OS (w : World) (N b : Nat) (wr : World) : Prop := ∃ ps, Num ps ∧ MF wr b (owS 1 [1, 2] ps) (fun i => i < N) ∧ Tch (fun _ => False) w wr
theorem OS.part {w w2 w3 : World} {N b kx : Nat} {ps : List Pt} {x : Ending} (hN : N = w.heap.size) (hp : Num ps) (h : MF w2 b (owS 1 [1, 2] ps) (fun i => i < N)) (t : Tch (fun _ => False) w w2) (hk : kx = 1 ∨ kx ∈ survL 1 ps) (ho : PartOut (owS 1 [1, 2] ps) b kx w2 (fun i => i < N) x w3) : OS w N b w3 := by
  obtain ⟨i, hf⟩ := ow_own hp 1 [1, 2] hk
  obtain ⟨hA, hB⟩ := ho.2 _ _ hf
  by_cases hE : partE (owS 1 [1, 2] ps) ⟨1, 1, ps⟩ i = 0
  · obtain ⟨_, hM, hK⟩ := hB hE
    rw [ow_part] at hM
    exact ⟨_, hp.snoc i 0, hM, low_trans hN t hK⟩
  · obtain ⟨_, tt⟩ := hA hE
    exact ⟨ps, hp, h.no tt, t.trans' tt⟩
theorem OS.endp {w w2 w3 : World} {N b kx f : Nat} {ps : List Pt} {x : Ending} (hN : N = w.heap.size) (hp : Num ps) (h : MF w2 b (owS 1 [1, 2] ps) (fun i => i < N)) (t : Tch (fun _ => False) w w2) (ho : EndOut (owS 1 [1, 2] ps) b kx f w2 (fun i => i < N) x w3) : OS w N b w3 := by
  by_cases hex : ∃ t, ∃ i : Nat, fnd (owS 1 [1, 2] ps).tx kx = some (t, (i : Int)) ∧ may t i = true
  · obtain ⟨u, i, hf, hm⟩ := hex
    obtain ⟨_, hM, hK⟩ := ho.2 u i hf hm
    have hu : u.x = 1 := by
      obtain ⟨hu, hi⟩ := fnd_mem hf
      simp only [owS, List.mem_cons, List.not_mem_nil, or_false] at hu
      rcases hu with rfl | rfl
      · rfl
      · rcases hi with ⟨e, _⟩ | ⟨k, p, _, _, e, _⟩
        · omega
        · simp at e
    rw [hu, ow_endp] at hM
    exact ⟨_, hp.endPs i f, hM, low_trans hN t hK⟩
  · obtain ⟨e, _, _, tt⟩ := ho.1 (fun u i hf => by
      cases hm : may u i with
      | false => rfl
      | true => exact absurd ⟨u, i, hf, hm⟩ hex)
    exact ⟨ps, hp, h.no tt, t.trans' tt⟩

theorem info_bool : (Try.prog.info? 4).map (fun i => (i.zero, i.size, i.bytes)) = some (some (.bool false), 1, 1) := by kernel_rfl
/-- The list that the law keeps. -/
def insB (n : Nat) (M : List Nat) : List Value := (List.range n).map (fun j => .bool (decide (j ∈ M)))
theorem insB_len (n : Nat) (M : List Nat) : (insB n M).length = n := by simp [insB]
theorem insB_nil (n : Nat) : insB n [] = List.replicate n (.bool false) := by
  apply List.ext_getElem?
  intro j
  simp only [insB, List.getElem?_map]
  by_cases h : j < n
  · rw [List.getElem?_range h, List.getElem?_replicate, if_pos h]; simp
  · rw [List.getElem?_eq_none (by simp; omega), List.getElem?_replicate, if_neg h]; rfl
theorem insB_set (n : Nat) (M : List Nat) (k : Nat) : (insB n M).set k (.bool true) = insB n (M ++ [k]) := by
  apply List.ext_getElem?
  intro j
  by_cases hj : j < n
  · by_cases hk : k = j
    · subst hk
      rw [List.getElem?_set_self (by rw [insB_len]; exact hj)]
      simp [insB, List.getElem?_range hj]
    · rw [List.getElem?_set_ne hk]
      simp only [insB, List.getElem?_map, List.getElem?_range hj, Option.map_some]
      simp only [List.mem_append, List.mem_singleton]
      congr 2
      exact decide_eq_decide.2 ⟨Or.inl, fun h => h.elim id (fun e => absurd e.symm hk)⟩
  · rw [List.getElem?_eq_none (by rw [List.length_set, insB_len]; omega), List.getElem?_eq_none (by rw [insB_len]; omega)]
theorem insB_at {n j : Nat} (M : List Nat) (hj : j < n) : (insB n M)[j]? = some (.bool (decide (j ∈ M))) := by
  simp [insB, List.getElem?_range hj]
/-- make([]bool, n). -/
theorem mk_bools (n : Nat) (hn : n ≤ 1000000) (w : World) : (Instr.makeSlice 40 (.int .i64 n) (.int .i64 n)).run Try.prog w = .ok (.slice (some ⟨w.heap.size, 0, none⟩) n n) (w.alloc (.cells (insB n []).toArray 4)) := by
  obtain ⟨i0, hi, hz0, hz1, hz2⟩ := info_parts info_bool
  have h := run_make (P := Try.prog) w 40 4 i0 (.bool false) Try.underlying40 hi hz0 .i64 .i64 n n (by omega) (Int.le_refl _) (by rw [hz2]; omega) (by omega)
  rw [h, hz1]
  have e : madeCells (Value.bool false).cells ((n : Int).toNat * 1) = (insB n []).toArray := by
    have h1 := toList_madeCells_one (.bool false) ((n : Int).toNat * 1)
    have h2 : (madeCells (Value.bool false).cells ((n : Int).toNat * 1)).toList = insB n [] := by rw [insB_nil]; exact h1.trans (by simp)
    rw [← h2, Array.toArray_toList]
  rw [e]
  simp
/-- A list that came out, for reading. -/
theorem IR.of_own {w : World} {base : Nat} {ao : Option Addr} {n c : Nat} {l : List Nat} (h : w.ownsRow base 3 1 (.slice ao n c) n (icl l)) : IR w ao (l.map (fun x : Nat => (x : Int))) := fun k x hk => by
  rw [List.getElem?_map] at hk
  cases hl : l[k]? with
  | none => rw [hl] at hk; cases hk
  | some y =>
    rw [hl] at hk
    simp only [Option.map_some, Option.some.injEq] at hk
    subst hk
    rcases h.2 with ⟨e, h0⟩ | ⟨g, cap, cur, e, _, hg, _, _, hs, ht⟩
    · have h1 := h.1
      rw [icl_len, h0] at h1
      have := (List.getElem?_eq_some_iff.1 hl).1
      omega
    · injection e with e
      subst e
      have h9 := h.cells (g := g) rfl k (.int .i64 (y : Nat)) (by simp [icl, hl])
      rw [add_plain] at h9
      exact ⟨g, 0, rfl, h9⟩
end Go.Proofs.Ytkokmgoplldcfaa
