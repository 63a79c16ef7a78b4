import Derived.Test.YtblhmjndegfofaaCStp
import Derived.Test.YtblhmjndegfofaaOrdv
/- What does does, out of what changes do. -/
namespace Go.Proofs.Ytblhmjndegfofaa
open Go.RowKit Go

/-- What a call tells that gives a table and what is wrong. -/
def Shp (E : Int) (y : Ending) : Prop := ∃ i j s vo vn vc kk, y = .returned (.tuple #[tA i j s (.slice vo vn vc) kk, .int .i64 E])
/-- What a deed leaves. -/
def DO (F : Nat → Prop) (b : Nat) (L' : List Tbl) (g' : Int) (w w' : World) : Prop := (∃ P to tc, CA w' F b L' g' P to tc) ∧ Tch (fun i => i = b) w w'
theorem DO.trans {F : Nat → Prop} {b : Nat} {L' : List Tbl} {g' : Int} {w W W' W'' : World} (t : Tch (fun _ => False) w W) (h : DO F b L' g' W W') (t' : Tch (fun _ => False) W' W'') : DO F b L' g' w W'' := by
  obtain ⟨⟨P, to, tc, hca⟩, t2⟩ := h
  exact ⟨⟨P, to, tc, hca.tch t' (fun _ _ h => h.elim)⟩, ((t.mono (fun _ _ h => h.elim)).trans' t2).trans' (t'.mono (fun _ _ h => h.elim))⟩
theorem chg_do {F : Nat → Prop} {b : Nat} {E : Int} {t0 : Tbl} {L L' : List Tbl} {gv g' : Int} {P : List (Tbl × Value)} {to : Option Addr} {tc : Nat} {w w' : World} {x : Ending} (h0 : CA w F b L gv P to tc) (h : ChgOut F b E t0 L' g' w x w') : Shp E x ∧ DO F b (if E = 0 then L' else L) (if E = 0 then g' else gv) w w' := by
  by_cases hE : E = 0
  · subst hE
    obtain ⟨v, P', to', tc', rfl, hv, hca, t⟩ := h.1 rfl
    obtain ⟨vo, vc, rfl⟩ := row_slice hv
    exact ⟨⟨_, _, _, _, _, _, _, rfl⟩, ⟨P', to', tc', hca.fresh (fun _ _ h => Or.inl h)⟩, t⟩
  · obtain ⟨rfl, t⟩ := h.2 hE
    rw [if_neg hE, if_neg hE]
    exact ⟨⟨_, _, _, _, _, _, _, rfl⟩, ⟨P, to, tc, h0.tch t (fun _ _ h => h.elim)⟩, t.mono (fun _ _ h => h.elim)⟩
end Go.Proofs.Ytblhmjndegfofaa
