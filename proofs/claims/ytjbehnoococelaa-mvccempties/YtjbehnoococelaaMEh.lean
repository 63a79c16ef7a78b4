import Derived.Test.YtjbehnoococelaaMSw
/- Two facts for the law. -/
namespace Go.Proofs.Ytjbehnoococelaa
open Go.RowKit Go Go.Sort Go.Maps

theorem cell_same {w w' : World} {b i : Nat} {o : Obj} (h : w.heap[b]? = some o) (h' : w'.heap[b]? = some o) : w.cell? ⟨b, i, none⟩ = w'.cell? ⟨b, i, none⟩ := by
  unfold World.cell?
  simp [h, h']
theorem ver_sw {w0 w : World} {base hb mb : Nat} {m : Mg} {L : HL} {q : Nat} {bx : List (Nat × Obj)} {v : Value} {l : List Nat} (h : SW w0 w base hb mb m L q bx v l) (N : Nat) (hN : (L.map (fun p => p.2.length)).sum = N) (hN2 : N ≤ 1000000) :
    Calls Try.prog 15 #[.pointer (some ⟨hb, 0, none⟩)] w fun x w' => x = .returned (.int .i64 (N : Nat)) ∧ SW w0 w' base hb mb m L q bx v l := by
  obtain ⟨F, hs⟩ := h.st.hs
  have := versions_f hs (by omega)
  rw [hN] at this
  exact this.mono (fun _ _ ⟨hx, t⟩ => ⟨hx, h.no t⟩)
end Go.Proofs.Ytjbehnoococelaa
