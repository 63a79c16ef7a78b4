import Derived.Test.YtdbaafigmfclcaaTS3
/- split and its kin: where they begin, what they leave. -/
namespace Go.Proofs.Ytdbaafigmfclcaa
open Go.RowKit Go

def SplitOut (w w' : World) (Fo : List Nat) (p : Nat) (L : List It) (ps : List Nat) (s : Int) (a : Nat) (l : List It) (ql : List Nat) (pl : Nat) (m : It) : Prop :=
  ∃ iv kv ia ka N ic kc, S3 w w' Fo p iv kv (L.take pl ++ m :: L.drop pl) (ps.take (pl + 1) ++ N :: ps.drop (pl + 1)) s a ia ka (l.take 7) (ql.take 8) (7 + zsum w (ql.take 8)) N ic kc (l.drop 8) (ql.drop 8) (8 + zsum w (ql.drop 8)) ∧ w.heap.size ≤ N
theorem S3.start {w : World} {p : Nat} {iv kv : Value} {L : List It} {ps : List Nat} {s : Int} {a : Nat} {ia ka : Value} {l : List It} {ql : List Nat} {sa : Int} {c : Nat} {ic kc : Value} {r : List It} {qr : List Nat} {sc : Int} (hP : FN w p iv kv L ps s) (hA : FN w a ia ka l ql sa) (hB : FN w c ic kc r qr sc) (hn : Nod (fb p iv kv ++ (fb a ia ka ++ fb c ic kc))) :
    S3 w w (fb p iv kv ++ (fb a ia ka ++ fb c ic kc)) p iv kv L ps s a ia ka l ql sa c ic kc r qr sc := ⟨hP, hA, hB, Tch.refl _ _, Fits.refl hn, hn⟩
theorem fb_new (N : Nat) : fb N (.slice none 0 0) (.slice none 0 0) = [N] := rfl
theorem fits_new {w : World} {F G : List Nat} {N : Nat} (hn : Nod (F ++ G)) (hF : ∀ b ∈ F, b < w.heap.size) (hG : ∀ b ∈ G, b < w.heap.size) (hN : w.heap.size ≤ N) : Fits w.heap.size (F ++ G) (F ++ (G ++ [N])) := fun b => by
  have h := hn b
  simp only [List.count_append, List.count_singleton] at h ⊢
  constructor
  · intro hb
    have : (N == b) = false := by simp; omega
    simp [this]
  · intro hb
    have h2 : F.count b = 0 := List.count_eq_zero.2 (fun hm => by have := hF b hm; omega)
    have h3 : G.count b = 0 := List.count_eq_zero.2 (fun hm => by have := hG b hm; omega)
    rw [h2, h3]
    split <;> omega
section
variable {w w2 W : World} {Fo : List Nat} {p : Nat} {iv kv : Value} {L : List It} {ps : List Nat} {s : Int} {a : Nat} {ia ka : Value} {l : List It} {ql : List Nat} {sa : Int} {c : Nat} {ic kc : Value} {r : List It} {qr : List Nat} {sc : Int}
theorem S3.rebase {F G : List Nat} {N : Nat} (h : S3 w2 W (F ++ (G ++ [N])) p iv kv L ps s a ia ka l ql sa c ic kc r qr sc) (t : Tch (fun _ => False) w w2) (hn : Nod (F ++ G)) (hF : ∀ b ∈ F, b < w.heap.size) (hG : ∀ b ∈ G, b < w.heap.size) (hN : w.heap.size ≤ N) : S3 w W (F ++ G) p iv kv L ps s a ia ka l ql sa c ic kc r qr sc := by
  refine ⟨h.P, h.A, h.B, ?_, (fits_new hn hF hG hN).trans h.f t.size, h.nod⟩
  refine (t.mono (fun _ _ h => h.elim)).trans h.t (fun i hi hm => ?_)
  simp only [List.mem_append, List.mem_singleton] at hm ⊢
  rcases hm with h1 | h1 | h1
  · exact Or.inl h1
  · exact Or.inr h1
  · omega
theorem S3.zs {qs : List Nat} (h : S3 w W Fo p iv kv L ps s a ia ka l ql sa c ic kc r qr sc) (hz : ∀ q ∈ qs, w.cell? ⟨q, 2, none⟩ = some (.int .i64 (zsz w q)) ∧ 0 ≤ zsz w q ∧ q ∉ Fo) : (∀ q ∈ qs, W.cell? ⟨q, 2, none⟩ = some (.int .i64 (zsz W q)) ∧ 0 ≤ zsz W q) ∧ zsum W qs = zsum w qs := by
  have h1 : ∀ q ∈ qs, W.cell? ⟨q, 2, none⟩ = w.cell? ⟨q, 2, none⟩ := fun q hq => by
    obtain ⟨z1, _, z3⟩ := hz q hq
    exact h.t.cell (p := ⟨q, 2, none⟩) (cell_lt z1) z3
  have h2 : ∀ q ∈ qs, zsz W q = zsz w q := fun q hq => by unfold zsz; rw [h1 q hq]
  refine ⟨fun q hq => ?_, ?_⟩
  · obtain ⟨z1, z2, _⟩ := hz q hq
    rw [h2 q hq, h1 q hq]
    exact ⟨z1, z2⟩
  · unfold zsum
    rw [List.map_congr_left h2]
end
theorem zs_no {w w2 : World} {Fo : List Nat} {qs : List Nat} {N : Nat} (t : Tch (fun _ => False) w w2) (hz : ∀ q ∈ qs, w.cell? ⟨q, 2, none⟩ = some (.int .i64 (zsz w q)) ∧ 0 ≤ zsz w q ∧ q ∉ Fo) (hN : w.heap.size ≤ N) : (∀ q ∈ qs, w2.cell? ⟨q, 2, none⟩ = some (.int .i64 (zsz w2 q)) ∧ 0 ≤ zsz w2 q ∧ q ∉ Fo ∧ q ≠ N) ∧ ∀ q ∈ qs, zsz w2 q = zsz w q := by
  have h1 : ∀ q ∈ qs, w2.cell? ⟨q, 2, none⟩ = w.cell? ⟨q, 2, none⟩ := fun q hq => t.cell (p := ⟨q, 2, none⟩) (cell_lt (hz q hq).1) (fun h => h)
  have h2 : ∀ q ∈ qs, zsz w2 q = zsz w q := fun q hq => by unfold zsz; rw [h1 q hq]
  refine ⟨fun q hq => ?_, h2⟩
  obtain ⟨z1, z2, z3⟩ := hz q hq
  rw [h2 q hq, h1 q hq]
  have h5 : q < w.heap.size := cell_lt z1
  exact ⟨z1, z2, z3, by omega⟩
theorem zsum_eq {w w2 : World} {qs : List Nat} (h : ∀ q ∈ qs, zsz w2 q = zsz w q) : zsum w2 qs = zsum w qs := by unfold zsum; rw [List.map_congr_left h]
theorem zsum_drop_le (w : World) (qs : List Nat) (k : Nat) (h : ∀ q ∈ qs, 0 ≤ zsz w q) : zsum w (qs.drop k) ≤ zsum w qs := by
  have h1 : zsum w (qs.take k) + zsum w (qs.drop k) = zsum w qs := by
    unfold zsum
    rw [← List.sum_append, ← List.map_append, List.take_append_drop]
  have := zsum_nonneg w 0 (qs.take k) (fun q hq => h q (List.mem_of_mem_take hq))
  omega
end Go.Proofs.Ytdbaafigmfclcaa
