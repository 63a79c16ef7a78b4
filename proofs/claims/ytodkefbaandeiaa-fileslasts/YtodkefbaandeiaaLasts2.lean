/- FilesLasts: the state of its second loop, and the Crash. -/
import Derived.Test.YtodkefbaandeiaaLasts1
import Derived.Deep.OwnRows
namespace Go.Proofs.Ytodkefbaandeiaa
open Go.RowKit Go.ChangeMaps Go.Sort

theorem ownsRow_tchN {S : Nat → Prop} {w w' : World} {base : Nat} {t : TypeId} {sz n : Nat} {v : Value} {xs : List Value} (h : w.ownsRow base t sz v n xs) (tc : Tch S w w') (hS : ∀ g, v.ownBlock = some g → ¬ S g) : w'.ownsRow base t sz v n xs := by
  obtain ⟨h1, h2⟩ := h
  refine ⟨h1, ?_⟩
  rcases h2 with h2 | ⟨g, cap, cur, hv, hg, hh, r⟩
  · exact Or.inl h2
  · exact Or.inr ⟨g, cap, cur, hv, hg, by rw [tc.block g (blk_lt hh) (hS g (by rw [hv]; rfl))]; exact hh, r⟩
theorem slice_ofN {w : World} {base : Nat} {t : TypeId} {sz n : Nat} {v : Value} {xs : List Value} (h : w.ownsRow base t sz v n xs) : ∃ ao cp, v = .slice ao n cp := by
  rcases h.2 with ⟨rfl, rfl⟩ | ⟨g, cap, cur, rfl, _⟩
  · exact ⟨none, 0, rfl⟩
  · exact ⟨_, _, rfl⟩

/-- The cells of the list of what is to be kept. -/
def kcells (kn : Nat → Nat) : Nat → List Value
  | 0 => []
  | k + 1 => kcells kn k ++ [.string (fileB k), .int .i64 (kn k)]
theorem kcells_len (kn : Nat → Nat) : ∀ k, (kcells kn k).length = k * 2
  | 0 => rfl
  | k + 1 => by simp [kcells, kcells_len kn k]; omega
theorem kcells_get (kn : Nat → Nat) : ∀ k i, i < k → (kcells kn k)[i * 2]? = some (.string (fileB i)) ∧ (kcells kn k)[i * 2 + 1]? = some (.int .i64 (kn i))
  | 0, _, h => by omega
  | k + 1, i, h => by
    have hl := kcells_len kn k
    rw [kcells]
    rcases Nat.lt_or_ge i k with h1 | h1
    · rw [List.getElem?_append_left (by omega), List.getElem?_append_left (by omega)]
      exact kcells_get kn k i h1
    · obtain rfl : i = k := by omega
      rw [List.getElem?_append_right (by omega), List.getElem?_append_right (by omega), hl]
      rw [show i * 2 - i * 2 = 0 by omega, show i * 2 + 1 - i * 2 = 1 by omega]
      exact ⟨rfl, rfl⟩
theorem kls_of {w : World} {base : Nat} {ao : Option Addr} {m cp : Nat} {kn : Nat → Nat} (h : w.ownsRow base 68 2 (.slice ao m cp) m (kcells kn m)) (hb : ∀ i, i < m → kn i ≤ 100000) : KLs w ao m (fun i => fileB i) (fun i => (kn i : Int)) := fun i hi => by
  obtain ⟨g, rfl⟩ : ∃ g, ao = some ⟨g, 0, none⟩ := by
    rcases h.2 with ⟨_, h2⟩ | ⟨g, _, _, h1, _⟩
    · omega
    · simp only [Value.slice.injEq] at h1
      exact ⟨g, h1.1⟩
  obtain ⟨e1, e2⟩ := kcells_get kn m i hi
  have h1 := h.cells (g := g) rfl _ _ e1
  have h2 := h.cells (g := g) rfl _ _ e2
  have := hb i hi
  refine ⟨g, 0, rfl, ⟨?_, ?_⟩, by show _ ≤ ((kn i : Nat) : Int); omega, by show ((kn i : Nat) : Int) ≤ _; omega⟩
  · simpa [Addr.add_lit] using h1
  · simpa [Addr.add_lit] using h2

/-- How much of each lasts behind the first k rounds. -/
def l2 (la kn : Nat → Nat) (kl k : Nat) : Nat → Nat := fun i => if i < k ∧ i < kl then la i + kn i else la i
theorem l2_at (la kn : Nat → Nat) (kl k : Nat) : l2 la kn kl k k = la k := if_neg (by omega)
theorem l2_0 (la kn : Nat → Nat) (kl : Nat) : l2 la kn kl 0 = la := by funext i; exact if_neg (by omega)
theorem l2_no (la kn : Nat → Nat) {kl k : Nat} (h : kl ≤ k) : l2 la kn kl (k + 1) = l2 la kn kl k := by
  funext i
  unfold l2
  by_cases h1 : i < k ∧ i < kl
  · rw [if_pos h1, if_pos (by omega)]
  · rw [if_neg h1, if_neg (by omega)]
theorem l2_yes (la kn : Nat → Nat) {kl k : Nat} (h : k < kl) : l2 la kn kl (k + 1) = upd (l2 la kn kl k) k (la k + kn k) := by
  funext i
  by_cases e : i = k
  · subst e
    rw [upd_same]
    exact if_pos (by omega)
  · rw [upd_other _ _ e]
    unfold l2
    by_cases h1 : i < k ∧ i < kl
    · rw [if_pos h1, if_pos (by omega)]
    · rw [if_neg h1, if_neg (by omega)]

structure R2 (W0 : World) (lb : Nat) (la kn : Nat → Nat) (kl k : Nat) (l : Value) (wr : World) : Prop where
  T : Tch (fun i => i = lb) W0 wr
  L : Four4 wr lb (fun i => (l2 la kn kl k i : Int))
  own : wr.ownsRow W0.heap.size 68 2 l (min k kl) (kcells kn (min k kl))
section
variable {W0 wr : World} {lb : Nat} {la kn : Nat → Nat} {kl k : Nat} {l : Value}
theorem R2.no {w' : World} (h : R2 W0 lb la kn kl k l wr) (t : Tch (fun _ => False) wr w') : R2 W0 lb la kn kl k l w' :=
  ⟨h.T.trans' (t.mono (fun _ _ h => h.elim)), h.L.tch t (fun h => h), ownsRow_tchN h.own t (fun _ _ h => h)⟩
theorem R2.skip (h : R2 W0 lb la kn kl k l wr) (hk : kl ≤ k) : R2 W0 lb la kn kl (k + 1) l wr := by
  refine ⟨h.T, ?_, ?_⟩
  · rw [l2_no la kn hk]; exact h.L
  · rw [show min (k + 1) kl = min k kl by omega]; exact h.own
theorem R2.lt (h : R2 W0 lb la kn kl k l wr) : W0.heap.size ≤ wr.heap.size := h.T.size
/-- One more is to be kept. -/
theorem R2.step {w' : World} {v' : Value} (h : R2 W0 lb la kn kl k l wr) (hlb : lb < W0.heap.size) (hk : k < kl) (hk4 : k < 4)
    (ho : w'.ownsRow W0.heap.size 68 2 v' (min k kl + 1) (kcells kn (min k kl) ++ [.string (fileB k), .int .i64 (kn k)]))
    (hg : (wr.alloc (.cells #[.string (fileB k), .int .i64 (kn k)] 68)).grownBy w' l.ownBlock) :
    (w'.cell? ⟨lb, k, none⟩ = some (.int .i64 (la k)) ∧ w'.frozen? ⟨lb, k, none⟩ = false) ∧ R2 W0 lb la kn kl (k + 1) v' (w'.setCell ⟨lb, k, none⟩ (.int .i64 ((la k : Int) + kn k))) := by
  have hgt : ∀ g, l.ownBlock = some g → W0.heap.size ≤ g := fun g hg => (h.own.lt g hg).1
  have tg : Tch (fun i => W0.heap.size ≤ i) wr w' := ((Tch.alloc (fun _ => False) wr _).mono (fun _ _ h => h.elim)).trans' (Tch.of_grown hg (fun g e => hgt g e))
  have L1 : Four4 w' lb (fun i => (l2 la kn kl k i : Int)) := h.L.tch tg (by omega)
  have e1 : min k kl = k := by omega
  have e2 : min (k + 1) kl = k + 1 := by omega
  refine ⟨⟨?_, L1.fz k⟩, ?_, ?_, ?_⟩
  · have := L1.cell hk4
    rw [l2_at] at this
    exact this
  · have T1 : Tch (fun i => i = lb) W0 w' := h.T.trans tg (fun i hi hs => by omega)
    exact T1.setCellR _ _ rfl
  · rw [l2_yes la kn hk]
    exact L1.upd hk4 (by omega)
  · rw [e2]
    rw [e1] at ho
    refine ownsRow_tchN (xs := kcells kn (k + 1)) ho (Tch.setCell (fun i => i = lb) w' ⟨lb, k, none⟩ _ rfl) (fun g hg e => ?_)
    have := (ho.lt g hg).1
    omega
end

theorem Z4_cut {z : Nat → ByteArray} {la : Nat → Nat} (h : LE4 z la) : Z4 (fun i => cut (z i) (la i)) ≤ Z4 z := by
  unfold Z4
  rw [cut_size _ (h 0 (by omega)), cut_size _ (h 1 (by omega)), cut_size _ (h 2 (by omega)), cut_size _ (h 3 (by omega))]
  have h0 := h 0 (by omega)
  have h1 := h 1 (by omega)
  have h2 := h 2 (by omega)
  have h3 := h 3 (by omega)
  omega

/-- What is to be kept of one. -/
def knOf (kz : Nat → Int) (z : Nat → ByteArray) (la : Nat → Nat) (i : Nat) : Nat := (pk (kz i) (((z i).size : Int) - la i + 1)).toNat
theorem kn_pk (kz : Nat → Int) {z : Nat → ByteArray} {la : Nat → Nat} (h : LE4 z la) {i : Nat} (hi : i < 4) : pk (kz i) (((z i).size : Int) - la i + 1) = (knOf kz z la i : Nat) ∧ la i + knOf kz z la i ≤ (z i).size := by
  have h1 := pk_rng (kz i) (((z i).size : Int) - la i + 1) (by have := h i hi; omega)
  have h2 := h i hi
  unfold knOf
  omega

section
variable {kz : Nat → Int} {z : Nat → ByteArray} {la : Nat → Nat} {kl : Nat} (h : LE4 z la)
theorem hs4 : ∀ {n i : Nat}, n ≤ i → i < 4 → hsK (fun i => fileB i) n (nmF i) = false
  | 0, _, _, _ => rfl
  | n + 1, i, hn, hi => by
    rw [hsK, if_neg]
    · exact hs4 (n := n) (by omega) hi
    · exact four_ne hi (show n < 4 by omega) (by omega)
include h in
theorem keep4 (n : Nat) : ∀ i, i < min 4 n → KeepAt (D4 100000 (fz z la)) (fun i => fileB i) (fun i => (knOf kz z la i : Int)) i := fun i hi => by
  have hi4 : i < 4 := by omega
  have hk := (kn_pk kz h hi4).2
  refine ⟨four_ok hi4, fz z la i, four_get _ hi4, hs4 (Nat.le_refl _) hi4, by simp, ?_⟩
  have h2 : ((fz z la i).bs.length : Int) = (z i).size := by simp [fz]
  show ((knOf kz z la i : Nat) : Int) ≤ ((fz z la i).bs.length : Int) - (la i : Int)
  omega
theorem kf4 (kn : Nat → Nat) : ∀ n i, n ≤ 4 → i < 4 → kfK (fun i => fileB i) (fun i => (kn i : Int)) n (nmF i) = if i < n then (kn i : Int) else 0
  | 0, _, _, _ => rfl
  | n + 1, i, hn, hi => by
    rw [kfK]
    by_cases e : i = n
    · subst e
      rw [if_pos (show nmF i = (fileB i).data.toList from rfl), if_pos (by omega)]
    · rw [if_neg (show ¬ nmF i = (fileB n).data.toList from four_ne hi (show n < 4 by omega) e), kf4 kn n i (by omega) hi]
      by_cases h1 : i < n
      · rw [if_pos h1, if_pos (by omega)]
      · rw [if_neg h1, if_neg (by omega)]
theorem l2_kept (kn : Nat → Nat) (la : Nat → Nat) (kl : Nat) {i : Nat} (hi : i < 4) : la i + kept (fun i => fileB i) (fun i => (kn i : Int)) (min 4 kl) (nmF i) = l2 la kn kl 4 i := by
  unfold kept l2
  rw [kf4 kn _ i (by omega) hi]
  by_cases h1 : i < min 4 kl
  · rw [if_pos h1, if_pos (by omega)]; simp
  · rw [if_neg h1, if_neg (by omega)]; rfl
theorem torn4 (kn : Nat → Nat) (z : Nat → ByteArray) (la : Nat → Nat) (kl : Nat) : (D4 100000 (fz z la)).torn (kept (fun i => fileB i) (fun i => (kn i : Int)) (min 4 kl)) = D4 100000 (fz (fun i => cut (z i) (l2 la kn kl 4 i)) (l2 la kn kl 4)) := by
  have h0 := l2_kept kn la kl (i := 0) (by omega)
  have h1 := l2_kept kn la kl (i := 1) (by omega)
  have h2 := l2_kept kn la kl (i := 2) (by omega)
  have h3 := l2_kept kn la kl (i := 3) (by omega)
  rw [show nmF 0 = [97] from rfl] at h0
  rw [show nmF 1 = [98, 46, 49] from rfl] at h1
  rw [show nmF 2 = [99, 95, 50] from rfl] at h2
  rw [show nmF 3 = [100, 45, 51] from rfl] at h3
  unfold Dsk.torn D4
  congr 1
  simp only [fourL, List.map_cons, List.map_nil, keepF, fz, h0, h1, h2, h3, cut_list]
theorem l2_le (h : LE4 z la) (kl : Nat) {i : Nat} (hi : i < 4) : l2 la (knOf kz z la) kl 4 i ≤ (z i).size := by
  unfold l2
  have h1 := (kn_pk kz h hi).2
  have h2 := h i hi
  split <;> omega
end
end Go.Proofs.Ytodkefbaandeiaa
