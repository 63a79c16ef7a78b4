import Derived.Test.YtececlalnkiafaaHTrim
import Derived.Test.YtececlalnkiafaaHList
import Derived.Test.YtececlalnkiafaaHAwk
/- HistoryTrims as mathematics. -/
namespace Go.Proofs.Ytececlalnkiafaa
open Go.RowKit Go
set_option maxRecDepth 100000

def lastT (K : List Nt) : Bool := (K.getLast?.getD ntZ).th
theorem lastT_snoc (K : List Nt) (n : Nt) : lastT (K ++ [n]) = n.th := by simp [lastT]
theorem lastT_nil : lastT [] = false := rfl
theorem up_all {K : List Nt} {x : Int} (h : ∀ n ∈ K, n.l ≤ x) : upL K x = K.length :=
  upL_eq (Nat.le_refl _) (fun j n hn hj => by have := (List.getElem?_eq_some_iff.1 hn).1; omega) (fun j n hn _ => h n (List.mem_of_getElem? hn))
theorem was_all {K : List Nt} {x : Int} (h : ∀ n ∈ K, n.l ≤ x) : wasL K x = K.getLast?.getD ntZ := by
  unfold wasL
  rw [up_all h, List.getLast?_eq_getElem?]
  cases K with
  | nil => rfl
  | cons a r => simp
theorem wasT_all {K : List Nt} {x : Int} (h : ∀ n ∈ K, n.l ≤ x) : (wasL K x).th = lastT K := by rw [was_all h]; rfl
theorem fgN_all {K : List Nt} {x : Int} (h : ∀ n ∈ K, n.l ≤ x) : fgN K x = if lastT K = true then K.length - 1 else K.length := by
  unfold fgN
  rw [wasT_all h, up_all h]
theorem lastT_ne {K : List Nt} (h : lastT K = true) : K ≠ [] := fun e => by rw [e] at h; cases h
/-- What a Trim leaves of a number's notes. -/
theorem left_len {K : List Nt} {x : Int} (h : ∀ n ∈ K, n.l ≤ x) : (K.drop (fgN K x)).length = if lastT K = true then 1 else 0 := by
  rw [fgN_all h, List.length_drop]
  split
  · rename_i h1
    have := List.length_pos_iff.2 (lastT_ne h1)
    omega
  · omega
theorem left_last {K : List Nt} {x : Int} (h : ∀ n ∈ K, n.l ≤ x) : lastT (K.drop (fgN K x)) = lastT K := by
  rw [fgN_all h]
  split
  · rename_i h1
    have h2 := List.length_pos_iff.2 (lastT_ne h1)
    unfold lastT
    rw [List.getLast?_drop, if_neg (by omega)]
  · rename_i h1
    rw [List.drop_eq_nil_of_le (Nat.le_refl _), lastT_nil]
    cases hl : lastT K with
    | true => exact absurd hl h1
    | false => rfl
theorem ids_eq {K : Int → List Nt} {ids L : List Int} (h : IdsOf K ids) (hL : L.Pairwise (fun a b => a < b)) (hsub : ∀ i, K i ≠ [] → i ∈ L) : ids = L.filter (fun i => !(K i).isEmpty) := by
  have h2 : (L.filter (fun i => !(K i).isEmpty)).Pairwise (fun a b => a < b) := hL.filter _
  have hp : ids.Perm (L.filter (fun i => !(K i).isEmpty)) := (List.perm_ext_iff_of_nodup (nodup_of h.1) (nodup_of h2)).2 (fun i => by
    rw [h.2, List.mem_filter]
    constructor
    · intro h3
      exact ⟨hsub i h3, by cases hK : K i with
        | nil => exact absurd hK h3
        | cons a r => rfl⟩
    · rintro ⟨_, h3⟩ e
      rw [e] at h3
      cases h3)
  exact hp.eq_of_pairwise (fun a b _ _ h3 h4 => by omega) h.1 h2
def L5 : List Int := [1, 2, 3, 4, 5]
theorem L5_up : L5.Pairwise (fun a b => a < b) := by unfold L5; simp
def cntB (tb : List Bool) : Nat := (tb.filter id).length
/-- The law's history: which tables are there. -/
structure TI (h : Hs) (tb : List Bool) : Prop where
  le : ∀ i n, n ∈ h.K i → n.l ≤ h.l
  out : ∀ i, h.K i ≠ [] → i ∈ L5
  sz : h.sz = sumL h.K L5
  th : tb = L5.map (fun i => lastT (h.K i))
  T : h.T = h.sz
  b : h.b = 1
theorem TI.zero : TI (hs0 1) [false, false, false, false, false] := ⟨fun i n hn => (by cases hn), fun i h => absurd rfl h, rfl, rfl, rfl, rfl⟩
theorem TI.len {h : Hs} {tb : List Bool} (H : TI h tb) : tb.length = 5 := by rw [H.th]; rfl
theorem mem_L5 {p : Nat} (hp : p < 5) : ((p : Int) + 1) ∈ L5 := by
  unfold L5
  have : p = 0 ∨ p = 1 ∨ p = 2 ∨ p = 3 ∨ p = 4 := by omega
  rcases this with rfl | rfl | rfl | rfl | rfl <;> simp
theorem TI.add {h : Hs} {tb : List Bool} (H : TI h tb) {p : Nat} (hp : p < 5) {n : Nt} (hn : h.l < n.l) : TI (h.add ((p : Int) + 1) n) (tb.set p n.th) := by
  refine ⟨fun i m hm => ?_, fun i hi => ?_, ?_, ?_, ?_, H.b⟩
  · show m.l ≤ n.l
    have hm' : m ∈ updK h.K ((p : Int) + 1) (h.K ((p : Int) + 1) ++ [n]) i := hm
    by_cases e : i = (p : Int) + 1
    · subst e
      rw [updK_same] at hm'
      rcases List.mem_append.1 hm' with h1 | h1
      · have := H.le _ m h1; omega
      · rw [List.mem_singleton.1 h1]; omega
    · rw [updK_ne _ _ e] at hm'
      have := H.le _ m hm'
      omega
  · by_cases e : i = (p : Int) + 1
    · rw [e]; exact mem_L5 hp
    · refine H.out i (fun e2 => hi ?_)
      show updK h.K ((p : Int) + 1) (h.K ((p : Int) + 1) ++ [n]) i = []
      rw [updK_ne _ _ e]
      exact e2
  · show h.sz + 1 = sumL (updK h.K ((p : Int) + 1) (h.K ((p : Int) + 1) ++ [n])) L5
    have h1 := sumL_upd h.K ((p : Int) + 1) (h.K ((p : Int) + 1) ++ [n]) L5 (nodup_of L5_up) (mem_L5 hp)
    have h2 := H.sz
    rw [List.length_append, List.length_singleton] at h1
    omega
  · rw [H.th]
    show _ = L5.map (fun i => lastT (updK h.K ((p : Int) + 1) (h.K ((p : Int) + 1) ++ [n]) i))
    have hc : p = 0 ∨ p = 1 ∨ p = 2 ∨ p = 3 ∨ p = 4 := by omega
    rcases hc with rfl | rfl | rfl | rfl | rfl <;> simp [L5, updK, lastT_snoc]
  · show h.T + 1 = h.sz + 1
    rw [H.T]
theorem TI.get {h : Hs} {tb : List Bool} (H : TI h tb) {p : Nat} (hp : p < 5) : tb[p]? = some (lastT (h.K ((p : Int) + 1))) := by
  rw [H.th]
  have hc : p = 0 ∨ p = 1 ∨ p = 2 ∨ p = 3 ∨ p = 4 := by omega
  rcases hc with rfl | rfl | rfl | rfl | rfl <;> rfl
theorem sum_filter {K : Int → List Nt} (g : Int → Nat) (h0 : ∀ i, K i = [] → g i = 0) : ∀ L : List Int, ((L.filter (fun i => !(K i).isEmpty)).map g).sum = (L.map g).sum
  | [] => rfl
  | a :: r => by
    have ih := sum_filter g h0 r
    rw [List.filter_cons]
    cases hK : K a with
    | nil =>
      simp only [List.isEmpty_nil, Bool.not_true, Bool.false_eq_true, if_false, List.map_cons, List.sum_cons, h0 a hK]
      rw [ih]
      omega
    | cons b s =>
      simp only [List.isEmpty_cons, Bool.not_false, if_true, List.map_cons, List.sum_cons]
      rw [ih]
theorem fg_sum {K : Int → List Nt} {x : Int} (h : ∀ i n, n ∈ K i → n.l ≤ x) : ∀ L : List Int, (L.map (fun i => fgN (K i) x)).sum + cntB (L.map (fun i => lastT (K i))) = sumL K L
  | [] => rfl
  | a :: r => by
    have ih := fg_sum h r
    rw [sumL_cons, List.map_cons, List.map_cons, List.sum_cons, fgN_all (h a)]
    unfold cntB at ih ⊢
    rw [List.filter_cons]
    cases hl : lastT (K a) with
    | true =>
      have := List.length_pos_iff.2 (lastT_ne hl)
      simp only [id, if_true, List.length_cons]
      omega
    | false =>
      simp only [id, Bool.false_eq_true, if_false]
      omega
/-- Behind the Trim at the end. -/
theorem TI.trim {h : Hs} {tb : List Bool} (H : TI h tb) {x : Int} (hx : h.l < x) {ids : List Int} (hi : IdsOf h.K ids) :
    fgS (h.beg x) ids + cntB tb = h.sz ∧ ((h.beg x).tr ids).sz = cntB tb ∧ ((h.beg x).tr ids).b = x ∧ ((h.beg x).tr ids).T = h.T ∧ ∀ ids2, IdsOf ((h.beg x).tr ids).K ids2 → (tells ((h.beg x).tr ids) x ids2).length = cntB tb := by
  have hle : ∀ i n, n ∈ h.K i → n.l ≤ x := fun i n hn => by have := H.le i n hn; omega
  have hids := ids_eq hi L5_up H.out
  have e1 : fgS (h.beg x) ids = (L5.map (fun i => fgN (h.K i) x)).sum := by
    rw [hids]
    exact sum_filter (fun i => fgN (h.K i) x) (fun i e => by rw [e]; rfl) L5
  have e2 := fg_sum hle L5
  rw [← H.th, ← H.sz] at e2
  have e3 : fgS (h.beg x) ids + cntB tb = h.sz := by rw [e1]; exact e2
  refine ⟨e3, ?_, rfl, rfl, fun ids2 hi2 => ?_⟩
  · show h.sz - fgS (h.beg x) ids = cntB tb
    omega
  · have hK : ∀ i, ((h.beg x).tr ids).K i = (h.K i).drop (fgN (h.K i) x) := fun i => by
      show (if i ∈ ids then (h.K i).drop (fgN (h.K i) x) else h.K i) = _
      by_cases hm : i ∈ ids
      · rw [if_pos hm]
      · rw [if_neg hm]
        have : h.K i = [] := by
          cases hK : h.K i with
          | nil => rfl
          | cons a r => exact absurd ((hi.2 i).2 (by rw [hK]; simp)) hm
        rw [this]
        rfl
    have hids2 := ids_eq hi2 L5_up (fun i h2 => H.out i (fun e => h2 (by rw [hK, e]; rfl)))
    unfold tells
    rw [List.length_map, hids2, List.filter_filter, H.th]
    unfold cntB
    rw [← List.countP_eq_length_filter, ← List.countP_eq_length_filter, List.countP_map]
    congr 1
    funext i
    have hle2 : ∀ n ∈ ((h.beg x).tr ids).K i, n.l ≤ x := fun n hn => by
      rw [hK] at hn
      exact hle i n (List.mem_of_mem_drop hn)
    rw [wasT_all hle2, hK, left_last (hle i)]
    cases hl : lastT (h.K i) with
    | false => simp [hl]
    | true =>
      have hlen := left_len (hle i)
      rw [hl, if_pos rfl] at hlen
      rw [List.length_drop] at hlen
      simp [hl]
      omega
end Go.Proofs.Ytececlalnkiafaa
