import Derived.Test.YtececlalnkiafaaVForm
import Derived.Deep.DeepHandedRow
/- Lists of cells in the world; rows, columns. -/
namespace Go.Proofs.Ytececlalnkiafaa
open Go.RowKit

/-- These cells stand there. -/
def At (w : World) (g o : Nat) (cs : List Value) : Prop := ∀ j u, cs[j]? = some u → w.cell? ⟨g, o + j, none⟩ = some u
theorem At.lt {w : World} {g o : Nat} {cs : List Value} (h : At w g o cs) (hc : cs ≠ []) : g < w.heap.size := by
  cases cs with
  | nil => exact absurd rfl hc
  | cons a l => exact cell_lt (h 0 a rfl)
theorem At.tch {S : Nat → Prop} {w w' : World} {g o : Nat} {cs : List Value} (h : At w g o cs) (t : Tch S w w') (hg : cs ≠ [] → ¬ S g) : At w' g o cs := fun j u hu => by
  have hc : cs ≠ [] := by rintro rfl; simp at hu
  rw [t.cell (p := ⟨g, o + j, none⟩) (h.lt hc) (hg hc)]; exact h j u hu
theorem At.nil (w : World) (g o : Nat) : At w g o [] := fun j u h => by simp at h
/-- A slice's cells, where there are some. -/
def SL (w : World) (ao : Option Addr) (cs : List Value) : Prop := cs ≠ [] → ∃ g o, ao = some ⟨g, o, none⟩ ∧ At w g o cs
theorem SL.tch {S : Nat → Prop} {w w' : World} {ao : Option Addr} {cs : List Value} (h : SL w ao cs) (t : Tch S w w') (hS : ∀ g o, ao = some ⟨g, o, none⟩ → ¬ S g) : SL w' ao cs := fun hc => by
  obtain ⟨g, o, e, ha⟩ := h hc
  exact ⟨g, o, e, ha.tch t (fun _ => hS g o e)⟩
theorem SL.no {w w' : World} {ao : Option Addr} {cs : List Value} (h : SL w ao cs) (t : Tch (fun _ => False) w w') : SL w' ao cs := h.tch t (fun _ _ _ h => h)
theorem SL.nil (w : World) (ao : Option Addr) : SL w ao [] := fun h => absurd rfl h

section
variable {α : Type} (f g h : α → Value)
def f3 (l : List α) : List Value := l.flatMap (fun a => [f a, g a, h a])
theorem f3_len : ∀ l : List α, (f3 f g h l).length = l.length * 3
  | [] => rfl
  | a :: l => by
    have := f3_len l
    unfold f3 at this ⊢
    simp only [List.flatMap_cons, List.length_append, List.length_cons, List.length_nil, this]; omega
theorem f3_get : ∀ (l : List α) (k : Nat) (hk : k < l.length), (f3 f g h l)[k * 3]? = some (f l[k]) ∧ (f3 f g h l)[k * 3 + 1]? = some (g l[k]) ∧ (f3 f g h l)[k * 3 + 2]? = some (h l[k])
  | [], k, hk => by simp at hk
  | a :: l, 0, _ => by simp [f3]
  | a :: l, k + 1, hk => by
    have := f3_get l k (by simpa using hk)
    unfold f3 at this ⊢
    have e1 : (k + 1) * 3 = k * 3 + 3 := by omega
    simp only [List.flatMap_cons, List.getElem_cons_succ]
    rw [e1]
    refine ⟨?_, ?_, ?_⟩
    · rw [List.getElem?_append_right (by simp)]; simpa using this.1
    · rw [List.getElem?_append_right (by simp)]; simpa using this.2.1
    · rw [List.getElem?_append_right (by simp)]; simpa using this.2.2
theorem f3_append (l m : List α) : f3 f g h (l ++ m) = f3 f g h l ++ f3 f g h m := by simp [f3]
theorem f3_one (hf : ∀ a, (f a).oneCell' = true ∧ (g a).oneCell' = true ∧ (h a).oneCell' = true) (l : List α) : ∀ u ∈ f3 f g h l, u.oneCell' = true := fun u hu => by
  unfold f3 at hu
  rw [List.mem_flatMap] at hu
  obtain ⟨a, _, hu⟩ := hu
  simp only [List.mem_cons, List.not_mem_nil, or_false] at hu
  rcases hu with rfl | rfl | rfl
  · exact (hf a).1
  · exact (hf a).2.1
  · exact (hf a).2.2
theorem f3_nil {l : List α} (hl : l ≠ []) : f3 f g h l ≠ [] := fun e => by
  have := f3_len f g h l
  rw [e] at this
  have := List.length_pos_iff.2 hl
  simp at *; omega
theorem f3_take (l : List α) (k : Nat) : f3 f g h (l.take k) = (f3 f g h l).take (k * 3) := by
  induction l generalizing k with
  | nil => simp [f3]
  | cons a l ih =>
    cases k with
    | zero => simp [f3]
    | succ k =>
      have := ih k
      unfold f3 at this ⊢
      rw [List.take_succ_cons, List.flatMap_cons, List.flatMap_cons, this, show (k + 1) * 3 = k * 3 + 1 + 1 + 1 by omega]
      simp
theorem f3_drop (l : List α) (k : Nat) : f3 f g h (l.drop k) = (f3 f g h l).drop (k * 3) := by
  induction l generalizing k with
  | nil => simp [f3]
  | cons a l ih =>
    cases k with
    | zero => simp [f3]
    | succ k =>
      have := ih k
      unfold f3 at this ⊢
      rw [List.drop_succ_cons, List.flatMap_cons, this, show (k + 1) * 3 = k * 3 + 1 + 1 + 1 by omega]
      simp
end
/-- The cells of a row, of columns. -/
def vcl (l : List Val) : List Value := f3 (fun v => .int .i64 v.k) (fun v => .int .i64 v.n) (fun v => .string v.s) l
def ccl (l : List Col) : List Value := f3 (fun c => .string c.nm) (fun c => .int .i64 c.k) (fun c => .bool c.nl) l
theorem vcl_len (l : List Val) : (vcl l).length = l.length * 3 := f3_len ..
theorem ccl_len (l : List Col) : (ccl l).length = l.length * 3 := f3_len ..
theorem vcl_one (l : List Val) : ∀ u ∈ vcl l, u.oneCell' = true := f3_one _ _ _ (fun _ => ⟨rfl, rfl, rfl⟩) l
theorem ccl_one (l : List Col) : ∀ u ∈ ccl l, u.oneCell' = true := f3_one _ _ _ (fun _ => ⟨rfl, rfl, rfl⟩) l
theorem At.val {w : World} {g o : Nat} {l : List Val} (h : At w g o (vcl l)) (k : Nat) (hk : k < l.length) : w.cell? ⟨g, o + k * 3, none⟩ = some (.int .i64 l[k].k) ∧ w.cell? ⟨g, o + k * 3 + 1, none⟩ = some (.int .i64 l[k].n) ∧ w.cell? ⟨g, o + k * 3 + 2, none⟩ = some (.string l[k].s) := by
  obtain ⟨h0, h1, h2⟩ := f3_get (fun v : Val => Value.int .i64 v.k) (fun v => .int .i64 v.n) (fun v => .string v.s) l k hk
  exact ⟨h _ _ h0, by have := h _ _ h1; rwa [← Nat.add_assoc] at this, by have := h _ _ h2; rwa [← Nat.add_assoc] at this⟩
theorem At.col {w : World} {g o : Nat} {l : List Col} (h : At w g o (ccl l)) (k : Nat) (hk : k < l.length) : w.cell? ⟨g, o + k * 3, none⟩ = some (.string l[k].nm) ∧ w.cell? ⟨g, o + k * 3 + 1, none⟩ = some (.int .i64 l[k].k) ∧ w.cell? ⟨g, o + k * 3 + 2, none⟩ = some (.bool l[k].nl) := by
  obtain ⟨h0, h1, h2⟩ := f3_get (fun c : Col => Value.string c.nm) (fun c => .int .i64 c.k) (fun c => .bool c.nl) l k hk
  exact ⟨h _ _ h0, by have := h _ _ h1; rwa [← Nat.add_assoc] at this, by have := h _ _ h2; rwa [← Nat.add_assoc] at this⟩
theorem SL.col {w : World} {ao : Option Addr} {l : List Col} (h : SL w ao (ccl l)) {k : Nat} (hk : k < l.length) : ∃ g o, ao = some ⟨g, o, none⟩ ∧ At w g o (ccl l) := h (f3_nil _ _ _ (by rintro rfl; simp at hk))
theorem SL.val {w : World} {ao : Option Addr} {l : List Val} (h : SL w ao (vcl l)) {k : Nat} (hk : k < l.length) : ∃ g o, ao = some ⟨g, o, none⟩ ∧ At w g o (vcl l) := h (f3_nil _ _ _ (by rintro rfl; simp at hk))
theorem SL.takeC {w : World} {ao : Option Addr} {l : List Col} (h : SL w ao (ccl l)) (k : Nat) : SL w ao (ccl (l.take k)) := fun hc => by
  have e : ccl (l.take k) = (ccl l).take (k * 3) := f3_take ..
  rw [e] at hc ⊢
  obtain ⟨g, o, h1, h2⟩ := h (by rintro e; rw [e] at hc; simp at hc)
  refine ⟨g, o, h1, fun j u hu => h2 j u ?_⟩
  rw [List.getElem?_take] at hu
  split at hu
  · exact hu
  · simp at hu
abbrev tA (id ver : Int) (nm : ByteArray) (cv : Value) (key : Int) : Value := .agg #[.int .i64 id, .int .i64 ver, .string nm, cv, .int .i64 key]
end Go.Proofs.Ytececlalnkiafaa
