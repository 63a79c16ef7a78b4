import Derived.Test.YtmegkmhcfehnkaaGreatDoorVPrint
/- Texts as they are printed and read, as plain mathematics. -/
namespace Go.Proofs.YtmegkmhcfehnkaaGreatDoor

def qt (l : List UInt8) : List UInt8 := 39 :: (escs l ++ [39])
theorem qtd_qt (s : ByteArray) : qtd s = qt s.data.toList := rfl
theorem escs_cons (b : UInt8) (l : List UInt8) : escs (b :: l) = esc b ++ escs l := rfl
/-- The number of a sign; of another one 255 (the code), none (the document). -/
def sgC (b : UInt8) : Nat := if 48 ≤ b.toNat ∧ b.toNat ≤ 57 then b.toNat - 48 else if 97 ≤ b.toNat ∧ b.toNat ≤ 102 then b.toNat - 87 else 255
def sgD (b : UInt8) : Option Nat := if 48 ≤ b.toNat ∧ b.toNat ≤ 57 then some (b.toNat - 48) else if 97 ≤ b.toNat ∧ b.toNat ≤ 102 then some (b.toNat - 87) else none
theorem sgC_sgn {n : Nat} (h : n < 16) : sgC (sgn n) = n := by
  have : ∀ i : Fin 16, sgC (sgn i.1) = i.1 := by decide
  exact this ⟨n, h⟩
theorem sgD_sgn {n : Nat} (h : n < 16) : sgD (sgn n) = some n := by
  have : ∀ i : Fin 16, sgD (sgn i.1) = some i.1 := by decide
  exact this ⟨n, h⟩
theorem split16 (b : UInt8) : UInt8.ofNat (16 * (b.toNat / 16) + b.toNat % 16) = b := by
  rw [Nat.div_add_mod]; simp
/-- What the code reads off a text behind its first byte. -/
def unqC : List UInt8 → List UInt8
  | [] => []
  | [_] => []
  | [b, c] => if b.toNat = 39 then [39] else b :: unqC [c]
  | b :: c :: d :: r => if b.toNat = 39 then 39 :: unqC (d :: r) else if b.toNat = 92 then UInt8.ofNat (16 * sgC c + sgC d) :: unqC r else b :: unqC (c :: d :: r)
/-- What the document reads off what stands between the quotes. -/
def unqD : List UInt8 → Option (List UInt8)
  | [] => some []
  | b :: r => if b.toNat = 39 then (match r with
      | c :: r' => if c.toNat = 39 then (unqD r').map (39 :: ·) else none
      | [] => none)
    else if b.toNat = 92 then (match r with
      | x :: y :: r' => match sgD x, sgD y with
        | some m, some n => (unqD r').map (UInt8.ofNat (16 * m + n) :: ·)
        | _, _ => none
      | _ => none)
    else (unqD r).map (b :: ·)
theorem u39 {b : UInt8} (h : b.toNat = 39) : b = 39 := UInt8.toNat_inj.1 h
theorem unqC_escs : ∀ l : List UInt8, unqC (escs l ++ [39]) = l
  | [] => by simp [escs, unqC]
  | b :: l => by
    have ih := unqC_escs l
    rw [escs_cons, List.append_assoc]
    obtain ⟨x, r, hr⟩ : ∃ x r, escs l ++ [39] = x :: r := by
      cases h : escs l ++ [39] with
      | nil => simp at h
      | cons x r => exact ⟨x, r, rfl⟩
    unfold esc
    split
    · rename_i h
      rw [hr] at ih ⊢
      show unqC (39 :: 39 :: x :: r) = _
      unfold unqC
      rw [if_pos (by decide), ih, u39 h]
    · split
      · rename_i h1 h2
        rw [hr] at ih ⊢
        show unqC (92 :: sgn (b.toNat / 16) :: sgn (b.toNat % 16) :: x :: r) = _
        have hb := b.toNat_lt
        unfold unqC
        rw [if_neg (by decide), if_pos (by decide), sgC_sgn (by omega), sgC_sgn (by omega), split16, ih]
      · rename_i h1 h2
        rw [hr] at ih ⊢
        show unqC (b :: x :: r) = _
        cases r with
        | nil =>
          unfold unqC
          rw [if_neg h1, ih]
        | cons y r =>
          unfold unqC
          rw [if_neg h1, if_neg (by omega), ih]
theorem unqD_escs : ∀ l : List UInt8, unqD (escs l) = some l
  | [] => by simp [escs, unqD]
  | b :: l => by
    have ih := unqD_escs l
    rw [escs_cons]
    unfold esc
    split
    · rename_i h
      show unqD (39 :: 39 :: escs l) = _
      unfold unqD
      rw [if_pos (by decide)]
      simp only
      rw [if_pos (by decide), ih, u39 h]; rfl
    · split
      · rename_i h1 h2
        show unqD (92 :: sgn (b.toNat / 16) :: sgn (b.toNat % 16) :: escs l) = _
        have hb := b.toNat_lt
        unfold unqD
        rw [if_neg (by decide), if_pos (by decide)]
        simp only
        rw [sgD_sgn (by omega), sgD_sgn (by omega)]
        simp only
        rw [split16, ih]; rfl
      · rename_i h1 h2
        show unqD (b :: escs l) = _
        unfold unqD
        rw [if_neg h1, if_neg (by omega), ih]; rfl
/-- Who reads what was printed reads it. -/
theorem unqC_qt {s t : List UInt8} (h : qt t = s) : unqC (s.drop 1) = t := by subst h; exact unqC_escs t
/-- A text that is printed of one: what the document sees of it. -/
theorem qt_parts {s t : List UInt8} (h : qt t = s) : 2 ≤ s.length ∧ s.getLast? = some 39 ∧ (s.drop 1).take (s.length - 2) = escs t := by
  subst h
  refine ⟨by simp [qt], by show ((39 :: escs t) ++ [39]).getLast? = _; rw [List.getLast?_append]; rfl, ?_⟩
  simp [qt]
/-- Both find the same text. -/
theorem both_texts (s : List UInt8) (m : List UInt8) (hm : m = (s.drop 1).take (s.length - 2)) :
    (∀ t, unqD m = some t → qt t = s → t = unqC (s.drop 1)) ∧ (qt (unqC (s.drop 1)) = s → 2 ≤ s.length ∧ s.getLast? = some 39 ∧ unqD m = some (unqC (s.drop 1))) := by
  refine ⟨fun t _ h => (unqC_qt h).symm, fun h => ?_⟩
  obtain ⟨h1, h2, h3⟩ := qt_parts h
  refine ⟨h1, h2, ?_⟩
  rw [hm, h3]
  exact unqD_escs _
end Go.Proofs.YtmegkmhcfehnkaaGreatDoor
