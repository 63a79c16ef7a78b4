import Derived.Test.YtblhmjndegfofaaCPick
import Derived.Test.YtblhmjndegfofaaCInv
/- What a deed does, as plain mathematics. -/
namespace Go.Proofs.Ytblhmjndegfofaa
open Go.RowKit Go

/-- A deed. -/
structure Dd where
  k : Int
  nm : Int
  n : Int
  m : Int
def i64 (n : Int) : Prop := -9223372036854775808 ≤ n ∧ n ≤ 9223372036854775807
def Dd.ok (d : Dd) : Prop := i64 d.k ∧ i64 d.nm ∧ i64 d.n ∧ i64 d.m
/-- Where a table stands in a list. -/
def posT (f : Tbl → Bool) (L : List Tbl) : Int := posP f (L.map (fun t => (t, Value.bool false)))
theorem posP_T (f : Tbl → Bool) (P : List (Tbl × Value)) : posP f P = posT f (P.map Prod.fst) := posP_congr f (by simp [List.map_map, Function.comp_def])
theorem posT_cases (f : Tbl → Bool) (L : List Tbl) : (posT f L = -1 ∧ ∀ i (h : i < L.length), f L[i] = false) ∨ ∃ k, ∃ (hk : k < L.length), posT f L = k ∧ f L[k] = true ∧ ∀ i (h : i < L.length), i < k → f L[i] = false := by
  rcases posP_cases f (L.map (fun t => (t, Value.bool false))) with ⟨h1, h2⟩ | ⟨k, hk, h1, h2, h3⟩
  · exact Or.inl ⟨h1, fun i hi => by have := h2 i (by simpa using hi); simpa using this⟩
  · exact Or.inr ⟨k, by simpa using hk, h1, by simpa using h2, fun i hi hik => by have := h3 i (by simpa using hi) hik; simpa using this⟩
/-- The columns, the key, the column of a deed. -/
def dCols (d : Dd) : List Col := [⟨⟨#[105, 100]⟩, ((pk d.n 3 : Nat) : Int) + 1, false⟩, ⟨nmS (pk d.m 6), ((pk d.m 3 : Nat) : Int) + 1, decide (d.n.tmod 2 = 0)⟩]
def dCol (d : Dd) : Col := ⟨nmS (pk d.n 6), ((pk d.m 3 : Nat) : Int) + 1, decide (d.n.tmod 5 ≠ 0)⟩
def isN (d : Dd) (t : Tbl) : Bool := decide (t.nm = nmS (pk d.nm 6))
/-- What is wrong with a deed; the tables behind it; what is given last behind it. -/
def stE (L : List Tbl) (gv : Int) (d : Dd) : Int :=
  if pk d.k 4 < 2 then creE L gv (nmS (pk d.nm 6)) (dCols d) (pk d.m 3 : Nat)
  else if pk d.k 4 = 2 then (if posT (isN d) L = -1 then 52 else 0)
  else if posT (isN d) L = -1 then 52 else widE (L.getD (posT (isN d) L).toNat ⟨0, 0, ⟨#[]⟩, [], 0⟩) (dCol d)
def stL (L : List Tbl) (gv : Int) (d : Dd) : List Tbl :=
  if stE L gv d ≠ 0 then L
  else if pk d.k 4 < 2 then L ++ [creT gv (nmS (pk d.nm 6)) (dCols d) (pk d.m 3 : Nat)]
  else if pk d.k 4 = 2 then L.eraseIdx (posT (isN d) L).toNat
  else L.set (posT (isN d) L).toNat (widT (L.getD (posT (isN d) L).toNat ⟨0, 0, ⟨#[]⟩, [], 0⟩) (dCol d))
def stG (L : List Tbl) (gv : Int) (d : Dd) : Int := if stE L gv d = 0 ∧ pk d.k 4 < 2 then gv + 1 else gv
theorem st_bad {L : List Tbl} {gv : Int} {d : Dd} (h : stE L gv d ≠ 0) : stL L gv d = L ∧ stG L gv d = gv := by
  constructor
  · unfold stL; rw [if_pos h]
  · unfold stG; rw [if_neg (fun e => h e.1)]
theorem creE_ok {L : List Tbl} {gv : Int} {nm : ByteArray} {cols : List Col} {key : Int} (h : creE L gv nm cols key = 0) : rightE (creT gv nm cols key) = 0 ∧ L.any (fun t => decide (t.nm = nm)) = false ∧ L.length ≠ 16 ∧ gv ≠ 2147483647 := by
  unfold creE at h
  split at h
  · omega
  split at h
  · omega
  split at h
  · omega
  rename_i h1 h2 h3
  exact ⟨h, by simpa using h2, fun e => h3 (Or.inl e), fun e => h3 (Or.inr e)⟩
theorem GI.stp {L : List Tbl} {gv : Int} (h : GI L gv) (d : Dd) : GI (stL L gv d) (stG L gv d) := by
  by_cases hE : stE L gv d = 0
  · by_cases hk : pk d.k 4 < 2
    · have e1 : stL L gv d = L ++ [creT gv (nmS (pk d.nm 6)) (dCols d) (pk d.m 3 : Nat)] := by unfold stL; rw [if_neg (fun e => e hE), if_pos hk]
      have e2 : stG L gv d = gv + 1 := by unfold stG; rw [if_pos ⟨hE, hk⟩]
      rw [e1, e2]
      have hE' := hE
      unfold stE at hE'
      rw [if_pos hk] at hE'
      obtain ⟨h1, h2, h3, h4⟩ := creE_ok hE'
      exact h.create h1 h2 h3 h4
    · have e2 : stG L gv d = gv := by unfold stG; rw [if_neg (fun e => hk e.2)]
      rw [e2]
      have hE' := hE
      unfold stE at hE'
      rw [if_neg hk] at hE'
      by_cases hk2 : pk d.k 4 = 2
      · have e1 : stL L gv d = L.eraseIdx (posT (isN d) L).toNat := by unfold stL; rw [if_neg (fun e => e hE), if_neg hk, if_pos hk2]
        rw [e1]; exact h.erase _
      · rw [if_neg hk2] at hE'
        split at hE'
        · omega
        rename_i hp
        rcases posT_cases (isN d) L with ⟨h1, _⟩ | ⟨k, hkl, h1, _, _⟩
        · exact absurd h1 hp
        have hg : L.getD (posT (isN d) L).toNat ⟨0, 0, ⟨#[]⟩, [], 0⟩ = L[k] := by rw [h1]; simp [hkl]
        have e1 : stL L gv d = L.set k (widT L[k] (dCol d)) := by unfold stL; rw [if_neg (fun e => e hE), if_neg hk, if_neg hk2, hg, h1]; simp
        rw [hg] at hE'
        rw [e1]; exact h.widen hkl hE'
  · obtain ⟨e1, e2⟩ := st_bad hE
    rw [e1, e2]; exact h
/-- What a deed that makes a table gives; what the others leave. -/
theorem st_made {L : List Tbl} {gv : Int} {d : Dd} (hk : pk d.k 4 < 2) (hE : stE L gv d = 0) : stG L gv d = gv + 1 ∧ ∃ t, stL L gv d = L ++ [t] ∧ t.id = gv + 1 ∧ t.ver = 1 := by
  refine ⟨by unfold stG; rw [if_pos ⟨hE, hk⟩], creT gv (nmS (pk d.nm 6)) (dCols d) (pk d.m 3 : Nat), by unfold stL; rw [if_neg (fun e => e hE), if_pos hk], rfl, rfl⟩
theorem st_not {L : List Tbl} {gv : Int} {d : Dd} (hk : ¬ (pk d.k 4 < 2 ∧ stE L gv d = 0)) : stG L gv d = gv := by
  unfold stG; rw [if_neg (fun e => hk ⟨e.2, e.1⟩)]
theorem GI.noId {L : List Tbl} {gv : Int} (h : GI L gv) : posT (fun t => decide (t.id = gv + 1)) L = -1 := by
  rcases posT_cases (fun t => decide (t.id = gv + 1)) L with ⟨h1, _⟩ | ⟨k, hk, _, h2, _⟩
  · exact h1
  · have := h.ids L[k] (List.getElem_mem hk)
    simp at h2; omega
theorem GI.lastId {L : List Tbl} {gv : Int} (h : GI L gv) {t : Tbl} (ht : t.id = gv + 1) : posT (fun t => decide (t.id = gv + 1)) (L ++ [t]) = L.length := by
  rcases posT_cases (fun t => decide (t.id = gv + 1)) (L ++ [t]) with ⟨_, h2⟩ | ⟨k, hk, h1, h2, _⟩
  · have := h2 L.length (by simp)
    simp [ht] at this
  · rcases Nat.lt_or_ge k L.length with hl | hl
    · have := h.ids L[k] (List.getElem_mem hl)
      rw [List.getElem_append_left hl] at h2
      simp at h2; omega
    · have : k = L.length := by simp at hk; omega
      rw [h1, this]
end Go.Proofs.Ytblhmjndegfofaa
