import Derived.Test.YtolamjipigfocaaCFits
/- CatalogRights: the law. -/
namespace Go.Proofs.Ytolamjipigfocaa
open Go.RowKit Go

abbrev zT : List Value := [.int .i64 0, .int .i64 0, .string ⟨#[]⟩, .slice none 0 0, .int .i64 0]
/-- An empty book. -/
abbrev book0 : Array Value := #[.slice none 0 0, .slice none 0 0, .slice none 0 0, .int .i64 0, .int .i64 0, .string ⟨#[]⟩, .slice none 0 0, .int .i64 0, .int .i64 0, .int .i64 0, .string ⟨#[]⟩, .slice none 0 0, .int .i64 0, .slice none 0 0, .slice none 0 0, .slice none 0 0, .slice none 0 0]
theorem own_nil (W : World) (t : TypeId) (sz : Nat) : W.ownsRow 0 t sz (.slice none 0 0) 0 [] := ⟨by simp, Or.inl ⟨rfl, rfl⟩⟩
theorem LS.nil (le : TypeId) (W : World) (F : Nat → Prop) (b : Nat) (mk : Nat → List Value) : LS le W F b mk [] (.slice none 0 0) := ⟨own_nil W le 1, (fun g e => by cases e), (fun j hj => by simp at hj)⟩
theorem BKr.nil {W : World} {b : Nat} (F : Nat → Prop) (hb : W.heap[b]? = some (.cells book0 41 (0, 0))) (hn : ¬ F b) : BKr W F b book0 [] (.slice none 0 0) (.slice none 0 0) (.slice none 0 0) [] :=
  ⟨hb, rfl, rfl, rfl, rfl, rfl, by simp, LS.nil _ _ _ _ _, own_nil _ _ _, own_nil _ _ _, (fun g e => by cases e), (fun g e => by cases e), hn⟩
def cA1 : Col := ⟨⟨#[105, 100]⟩, 1, false⟩
def cA3 : Col := ⟨⟨#[105, 100]⟩, 3, false⟩
theorem right1 : rightE ⟨1, 1, ⟨#[116]⟩, [cA1], 0⟩ = 0 := by decide
theorem right3 : rightE ⟨1, 1, ⟨#[116]⟩, [cA3], 0⟩ = 56 := by decide

end Go.Proofs.Ytolamjipigfocaa
