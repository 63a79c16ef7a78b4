import Derived.Test.YtkcmpipipelgoaaHTrim
import Derived.Test.YtkcmpipipelgoaaHList
import Derived.Test.YtkcmpipipelgoaaHAwk
/- HistoryTrims as mathematics. -/
namespace Go.Proofs.Ytkcmpipipelgoaa
open Go.RowKit Go
set_option maxRecDepth 100000

def lastT (K : List Nt) : Bool := (K.getLast?.getD ntZ).th
theorem lastT_snoc (K : List Nt) (n : Nt) : lastT (K ++ [n]) = n.th := by simp [lastT]
theorem lastT_nil : lastT [] = false := rfl
theorem up_all {K : List Nt} {x : Int} (h : ∀ n ∈ K, n.l ≤ x) : upL K x = K.length :=
  upL_eq (Nat.le_refl _) (fun j n hn hj => by have := (List.getElem?_eq_some_iff.1 hn).1; omega) (fun j n hn _ => h n (List.mem_of_getElem? hn))
theorem was_all {K : List Nt} {x : Int} (h : ∀ n ∈ K, n.l ≤ x) : wasL K x = K.getLast?.getD ntZ := by
  unfold wasL
  rw [up_all h, List.getLast?_eq_getElem?]
  cases K with
  | nil => rfl
  | cons a r => simp
theorem wasT_all {K : List Nt} {x : Int} (h : ∀ n ∈ K, n.l ≤ x) : (wasL K x).th = lastT K := by rw [was_all h]; rfl
theorem fgN_all {K : List Nt} {x : Int} (h : ∀ n ∈ K, n.l ≤ x) : fgN K x = if lastT K = true then K.length - 1 else K.length := by
  unfold fgN
  rw [wasT_all h, up_all h]
theorem lastT_ne {K : List Nt} (h : lastT K = true) : K ≠ [] := fun e => by rw [e] at h; cases h
/-- What a Trim leaves of a number's notes. -/
theorem left_len {K : List Nt} {x : Int} (h : ∀ n ∈ K, n.l ≤ x) : (K.drop (fgN K x)).length = if lastT K = true then 1 else 0 := by
  rw [fgN_all h, List.length_drop]
  split
  · rename_i h1
    have := List.length_pos_iff.2 (lastT_ne h1)
    omega
  · omega
theorem left_last {K : List Nt} {x : Int} (h : ∀ n ∈ K, n.l ≤ x) : lastT (K.drop (fgN K x)) = lastT K := by
  rw [fgN_all h]
  split
  · rename_i h1
    have h2 := List.length_pos_iff.2 (lastT_ne h1)
    unfold lastT
    rw [List.getLast?_drop, if_neg (by omega)]
  · rename_i h1
    rw [List.drop_eq_nil_of_le (Nat.le_refl _), lastT_nil]
    cases hl : lastT K with
    | true => exact absurd hl h1
    | false => rfl
theorem ids_eq {K : Int → List Nt} {ids L : List Int} (h : IdsOf K ids) (hL : L.Pairwise (fun a b => a < b)) (hsub : ∀ i, K i ≠ [] → i ∈ L) : ids = L.filter (fun i => !(K i).isEmpty) := by
  have h2 : (L.filter (fun i => !(K i).isEmpty)).Pairwise (fun a b => a < b) := hL.filter _
  have hp : ids.Perm (L.filter (fun i => !(K i).isEmpty)) := (List.perm_ext_iff_of_nodup (nodup_of h.1) (nodup_of h2)).2 (fun i => by
    rw [h.2, List.mem_filter]
    constructor
    · intro h3
      exact ⟨hsub i h3, by cases hK : K i with
        | nil => exact absurd hK h3
        | cons a r => rfl⟩
    · rintro ⟨_, h3⟩ e
      rw [e] at h3
      cases h3)
  exact hp.eq_of_pairwise (fun a b _ _ h3 h4 => by omega) h.1 h2
def L5 : List Int := [1, 2, 3, 4, 5]
theorem L5_up : L5.Pairwise (fun a b => a < b) := by unfold L5; simp
def cntB (tb : List Bool) : Nat := (tb.filter id).length
/-- The law's history: which tables are there. -/
structure TI (h : Hs) (tb : List Bool) : Prop where
  le : ∀ i n, n ∈ h.K i → n.l ≤ h.l
  out : ∀ i, h.K i ≠ [] → i ∈ L5
  sz : h.sz = sumL h.K L5
  th : tb = L5.map (fun i => lastT (h.K i))
  T : h.T = h.sz
  b : h.b = 1
theorem TI.zero : TI (hs0 1) [false, false, false, false, false] := ⟨fun i n hn => (by cases hn), fun i h => absurd rfl h, rfl, rfl, rfl, rfl⟩
theorem TI.len {h : Hs} {tb : List Bool} (H : TI h tb) : tb.length = 5 := by rw [H.th]; rfl
theorem mem_L5 {p : Nat} (hp : p < 5) : ((p : Int) + 1) ∈ L5 := by
  unfold L5
  have : p = 0 ∨ p = 1 ∨ p = 2 ∨ p = 3 ∨ p = 4 := by omega
  rcases this with rfl | rfl | rfl | rfl | rfl <;> simp
theorem TI.add {h : Hs} {tb : List Bool} (H : TI h tb) {p : Nat} (hp : p < 5) {n : Nt} (hn : h.l < n.l) : TI (h.add ((p : Int) + 1) n) (tb.set p n.th) := by
  refine ⟨fun i m hm => ?_, fun i hi => ?_, ?_, ?_, ?_, H.b⟩
  · show m.l ≤ n.l
    have hm' : m ∈ updK h.K ((p : Int) + 1) (h.K ((p : Int) + 1) ++ [n]) i := hm
    by_cases e : i = (p : Int) + 1
    · subst e
      rw [updK_same] at hm'
      rcases List.mem_append.1 hm' with h1 | h1
      · have := H.le _ m h1; omega
      · rw [List.mem_singleton.1 h1]; omega
    · rw [updK_ne _ _ e] at hm'
      have := H.le _ m hm'
      omega
  · by_cases e : i = (p : Int) + 1
    · rw [e]; exact mem_L5 hp
    · refine H.out i (fun e2 => hi ?_)
      show updK h.K ((p : Int) + 1) (h.K ((p : Int) + 1) ++ [n]) i = []
      rw [updK_ne _ _ e]
      exact e2
  · show h.sz + 1 = sumL (updK h.K ((p : Int) + 1) (h.K ((p : Int) + 1) ++ [n])) L5
    have h1 := sumL_upd h.K ((p : Int) + 1) (h.K ((p : Int) + 1) ++ [n]) L5 (nodup_of L5_up) (mem_L5 hp)
    have h2 := H.sz
    rw [List.length_append, List.length_singleton] at h1
    omega
  · rw [H.th]
    show _ = L5.map (fun i => lastT (updK h.K ((p : Int) + 1) (h.K ((p : Int) + 1) ++ [n]) i))
    have hc : p = 0 ∨ p = 1 ∨ p = 2 ∨ p = 3 ∨ p = 4 := by omega
    rcases hc with rfl | rfl | rfl | rfl | rfl <;> simp [L5, updK, lastT_snoc]
  · show h.T + 1 = h.sz + 1
    rw [H.T]
theorem TI.get {h : Hs} {tb : List Bool} (H : TI h tb) {p : Nat} (hp : p < 5) : tb[p]? = some (lastT (h.K ((p : Int) + 1))) := by
  rw [H.th]
  have hc : p = 0 ∨ p = 1 ∨ p = 2 ∨ p = 3 ∨ p = 4 := by omega
  rcases hc with rfl | rfl | rfl | rfl | rfl <;> rfl
theorem sum_filter {K : Int → List Nt} (g : Int → Nat) (h0 : ∀ i, K i = [] → g i = 0) : ∀ L : List Int, ((L.filter (fun i => !(K i).isEmpty)).map g).sum = (L.map g).sum
  | [] => rfl
  | a :: r => by
    have ih := sum_filter g h0 r
    rw [List.filter_cons]
    cases hK : K a with
    | nil =>
      simp only [List.isEmpty_nil, Bool.not_true, Bool.false_eq_true, if_false, List.map_cons, List.sum_cons, h0 a hK]
      rw [ih]
      omega
    | cons b s =>
      simp only [List.isEmpty_cons, Bool.not_false, if_true, List.map_cons, List.sum_cons]
      rw [ih]
theorem fg_sum {K : Int → List Nt} {x : Int} (h : ∀ i n, n ∈ K i → n.l ≤ x) : ∀ L : List Int, (L.map (fun i => fgN (K i) x)).sum + cntB (L.map (fun i => lastT (K i))) = sumL K L
  | [] => rfl
  | a :: r => by
    have ih := fg_sum h r
    rw [sumL_cons, List.map_cons, List.map_cons, List.sum_cons, fgN_all (h a)]
    unfold cntB at ih ⊢
    rw [List.filter_cons]
    cases hl : lastT (K a) with
    | true =>
      have := List.length_pos_iff.2 (lastT_ne hl)
      simp only [id, if_true, List.length_cons]
      omega
    | false =>
      simp only [id, Bool.false_eq_true, if_false]
      omega
/-- Behind the Trim at the end. -/
theorem TI.trim {h : Hs} {tb : List Bool} (H : TI h tb) {x : Int} (hx : h.l < x) {ids : List Int} (hi : IdsOf h.K ids) :
    fgS (h.beg x) ids + cntB tb = h.sz ∧ ((h.beg x).tr ids).sz = cntB tb ∧ ((h.beg x).tr ids).b = x ∧ ((h.beg x).tr ids).T = h.T ∧ ∀ ids2, IdsOf ((h.beg x).tr ids).K ids2 → (tells ((h.beg x).tr ids) x ids2).length = cntB tb := by
  have hle : ∀ i n, n ∈ h.K i → n.l ≤ x := fun i n hn => by have := H.le i n hn; omega
  have hids := ids_eq hi L5_up H.out
  have e1 : fgS (h.beg x) ids = (L5.map (fun i => fgN (h.K i) x)).sum := by
    rw [hids]
    exact sum_filter (fun i => fgN (h.K i) x) (fun i e => by rw [e]; rfl) L5
  have e2 := fg_sum hle L5
  rw [← H.th, ← H.sz] at e2
  have e3 : fgS (h.beg x) ids + cntB tb = h.sz := by rw [e1]; exact e2
  refine ⟨e3, ?_, rfl, rfl, fun ids2 hi2 => ?_⟩
  · show h.sz - fgS (h.beg x) ids = cntB tb
    omega
  · have hK : ∀ i, ((h.beg x).tr ids).K i = (h.K i).drop (fgN (h.K i) x) := fun i => by
      show (if i ∈ ids then (h.K i).drop (fgN (h.K i) x) else h.K i) = _
      by_cases hm : i ∈ ids
      · rw [if_pos hm]
      · rw [if_neg hm]
        have : h.K i = [] := by
          cases hK : h.K i with
          | nil => rfl
          | cons a r => exact absurd ((hi.2 i).2 (by rw [hK]; simp)) hm
        rw [this]
        rfl
    have hids2 := ids_eq hi2 L5_up (fun i h2 => H.out i (fun e => h2 (by rw [hK, e]; rfl)))
    unfold tells
    rw [List.length_map, hids2, List.filter_filter, H.th]
    unfold cntB
    rw [← List.countP_eq_length_filter, ← List.countP_eq_length_filter, List.countP_map]
    congr 1
    funext i
    have hle2 : ∀ n ∈ ((h.beg x).tr ids).K i, n.l ≤ x := fun n hn => by
      rw [hK] at hn
      exact hle i n (List.mem_of_mem_drop hn)
    rw [wasT_all hle2, hK, left_last (hle i)]
    cases hl : lastT (h.K i) with
    | false => simp [hl]
    | true =>
      have hlen := left_len (hle i)
      rw [hl, if_pos rfl] at hlen
      rw [List.length_drop] at hlen
      simp [hl]
      omega
end Go.Proofs.Ytkcmpipipelgoaa
/- HistoryStays as mathematics. -/
namespace Go.Proofs.Ytkcmpipipelgoaa
open Go.RowKit Go
set_option maxRecDepth 100000

theorem up_snoc_lt {K : List Nt} {n : Nt} {x : Int} (h : x < n.l) : upL (K ++ [n]) x = upL K x := by
  obtain ⟨s1, s2⟩ := upL_spec K x
  refine upL_eq (by have := upL_le K x; rw [List.length_append]; omega) (fun j m hm hj => ?_) (fun j m hm hj => ?_)
  · rcases Nat.lt_or_ge j K.length with h1 | h1
    · rw [List.getElem?_append_left h1] at hm
      exact s1 j m hm hj
    · rw [List.getElem?_append_right h1] at hm
      have h2 := (List.getElem?_eq_some_iff.1 hm).1
      have e : j - K.length = 0 := by simpa using h2
      rw [e] at hm
      simp at hm
      subst hm
      exact h
  · have := upL_le K x
    rw [List.getElem?_append_left (by omega)] at hm
    exact s2 j m hm hj
theorem was_snoc_lt {K : List Nt} {n : Nt} {x : Int} (h : x < n.l) : wasL (K ++ [n]) x = wasL K x := by
  unfold wasL
  rw [up_snoc_lt h]
  by_cases h0 : upL K x = 0
  · rw [if_pos h0, if_pos h0]
  · rw [if_neg h0, if_neg h0]
    have := upL_le K x
    rw [List.getElem?_append_left (by omega)]
theorem was_snoc_ge {K : List Nt} {n : Nt} {x : Int} (h : n.l ≤ x) : wasL (K ++ [n]) x = n := by
  have hu : upL (K ++ [n]) x = K.length + 1 := upL_eq (by simp) (fun j m hm hj => by have := (List.getElem?_eq_some_iff.1 hm).1; simp at this; omega) (fun j m hm hj => by
    have e : j = K.length := by omega
    subst e
    simp at hm
    subst hm
    exact h)
  unfold wasL
  rw [hu, if_neg (by omega)]
  simp
/-- A Trim changes nothing that is told from its position on. -/
theorem was_drop {K : List Nt} {x0 x : Int} (h : x0 ≤ x) : (wasL (K.drop (fgN K x0)) x).th = (wasL K x).th ∧ ((wasL K x).th = true → wasL (K.drop (fgN K x0)) x = wasL K x) := by
  obtain ⟨a1, a2⟩ := upL_spec K x0
  obtain ⟨s1, s2⟩ := upL_spec K x
  have hl0 := upL_le K x0
  have hl := upL_le K x
  have hfg := fgN_le K x0
  have huu : upL K x0 ≤ upL K x := by
    rcases Nat.lt_or_ge (upL K x) (upL K x0) with h1 | h1
    · obtain ⟨n, hn⟩ : ∃ n, K[upL K x0 - 1]? = some n := ⟨_, List.getElem?_eq_getElem (by omega)⟩
      have b1 := a2 _ n hn (by omega)
      have b2 := s1 _ n hn (by omega)
      omega
    · exact h1
  have hfu : fgN K x0 ≤ upL K x0 := by unfold fgN; split <;> omega
  have hup : upL (K.drop (fgN K x0)) x = upL K x - fgN K x0 := upL_eq (by rw [List.length_drop]; omega) (fun j m hm hj => by
      rw [List.getElem?_drop] at hm
      exact s1 _ m hm (by omega)) (fun j m hm hj => by
      rw [List.getElem?_drop] at hm
      exact s2 _ m hm (by omega))
  by_cases h0 : upL K x - fgN K x0 = 0
  · have e1 : upL K x = upL K x0 := by omega
    have e2 : fgN K x0 = upL K x0 := by omega
    have hth : (wasL K x0).th = false ∨ upL K x0 = 0 := by
      unfold fgN at e2
      split at e2
      · exact .inr (by omega)
      · rename_i h2
        exact .inl (by cases hw : (wasL K x0).th with
          | true => exact absurd hw h2
          | false => rfl)
    have hw : (wasL K x).th = false := by
      rcases hth with h2 | h2
      · unfold wasL at h2 ⊢
        rw [e1]
        exact h2
      · unfold wasL
        rw [e1, if_pos h2]
        rfl
    have hw2 : (wasL (K.drop (fgN K x0)) x).th = false := by
      unfold wasL
      rw [hup, if_pos h0]
      rfl
    exact ⟨hw2.trans hw.symm, fun e => by rw [hw] at e; cases e⟩
  · have e : wasL (K.drop (fgN K x0)) x = wasL K x := by
      unfold wasL
      rw [hup, if_neg h0, if_neg (by omega), List.getElem?_drop, show fgN K x0 + (upL K x - fgN K x0 - 1) = upL K x - 1 by omega]
    exact ⟨by rw [e], fun _ => e⟩
def toldV (h : Hs) (x : Int) (k : Nat) : Int := if (wasL (h.K ((k : Int) + 1)) x).th = true then (wasL (h.K ((k : Int) + 1)) x).t.ver else 0
def L4 : List Int := [1, 2, 3, 4]
theorem L4_up : L4.Pairwise (fun a b => a < b) := by unfold L4; simp
theorem mem_L4 {p : Nat} (hp : p < 4) : ((p : Int) + 1) ∈ L4 := by
  unfold L4
  have : p = 0 ∨ p = 1 ∨ p = 2 ∨ p = 3 := by omega
  rcases this with rfl | rfl | rfl | rfl <;> simp
/-- The law's history: the versions at each position. -/
structure SI (h : Hs) (ver : Nat) (ws : List (List Int)) : Prop where
  ne : 1 ≤ ws.length
  l : h.l = 9 + ws.length
  b1 : 10 ≤ h.b
  b2 : h.b ≤ h.l
  le : ∀ i n, n ∈ h.K i → n.l ≤ h.l
  out : ∀ i, h.K i ≠ [] → i ∈ L4
  tb : ∀ i n, n ∈ h.K i → n.th = true → ∃ v, n.t = tabT i v ∧ 1 ≤ v ∧ v ≤ ver
  len : ∀ vs ∈ ws, vs.length = 4
  told : ∀ x, h.b ≤ x → ∀ k, k < 4 → ∀ vs, ws[((min x h.l) - 10).toNat]? = some vs → vs[k]? = some (toldV h x k)
theorem SI.zero : SI (hs0 10) 0 [[0, 0, 0, 0]] := by
  refine ⟨Nat.le_refl _, rfl, Int.le_refl _, Int.le_refl _, fun i n hn => (by cases hn), fun i h => absurd rfl h, fun i n hn => (by cases hn), fun vs hv => (by rw [List.mem_singleton.1 hv]; rfl), fun x hx k hk vs hv => ?_⟩
  have e : min x (hs0 10).l = 10 := by show min x 10 = 10; have : (10 : Int) ≤ x := hx; omega
  rw [e] at hv
  simp at hv
  subst hv
  have e2 : toldV (hs0 10) x k = 0 := rfl
  rw [e2]
  have hc : k = 0 ∨ k = 1 ∨ k = 2 ∨ k = 3 := by omega
  rcases hc with rfl | rfl | rfl | rfl <;> rfl
theorem SI.now {h : Hs} {ver : Nat} {ws : List (List Int)} (S : SI h ver ws) {x : Int} (hx : h.l ≤ x) {now : List Int} (hn : ws.getLast? = some now) {k : Nat} (hk : k < 4) : now[k]? = some (toldV h x k) := by
  refine S.told x (by have := S.b2; omega) k hk now ?_
  have e : ((min x h.l) - 10).toNat = ws.length - 1 := by have := S.l; have := S.ne; omega
  rw [e, ← List.getLast?_eq_getElem?]
  exact hn
theorem toldV_add_ne {h : Hs} {x : Int} {k p : Nat} {n : Nt} (hk : k ≠ p) : toldV (h.add ((p : Int) + 1) n) x k = toldV h x k := by
  have e : (h.add ((p : Int) + 1) n).K ((k : Int) + 1) = h.K ((k : Int) + 1) := updK_ne _ _ (by omega)
  unfold toldV
  rw [e]
theorem toldV_add_lt {h : Hs} {x : Int} {p : Nat} {n : Nt} (hx : x < n.l) : toldV (h.add ((p : Int) + 1) n) x p = toldV h x p := by
  have e : (h.add ((p : Int) + 1) n).K ((p : Int) + 1) = h.K ((p : Int) + 1) ++ [n] := updK_same _ _ _
  unfold toldV
  rw [e, was_snoc_lt hx]
theorem toldV_add_ge {h : Hs} {x : Int} {p : Nat} {n : Nt} (hx : n.l ≤ x) : toldV (h.add ((p : Int) + 1) n) x p = if n.th = true then n.t.ver else 0 := by
  have e : (h.add ((p : Int) + 1) n).K ((p : Int) + 1) = h.K ((p : Int) + 1) ++ [n] := updK_same _ _ _
  unfold toldV
  rw [e, was_snoc_ge hx]
/-- Behind one more note. -/
theorem SI.note {h : Hs} {ver ver' : Nat} {ws : List (List Int)} (S : SI h ver ws) {now : List Int} (hnow : ws.getLast? = some now) {p : Nat} (hp : p < 4) {n : Nt} (hn : h.l < n.l) (nv : Int) (hv : ver ≤ ver') (h1 : n.th = true → n.t = tabT ((p : Int) + 1) nv ∧ 1 ≤ nv ∧ nv ≤ ver') (h2 : n.th = false → nv = 0) :
    SI (h.add ((p : Int) + 1) n) ver' (ws ++ List.replicate (n.l - 1 - h.l).toNat now ++ [now.set p nv]) := by
  have hl := S.l
  have hne := S.ne
  have hnl : now.length = 4 := S.len now (List.mem_of_getLast? hnow)
  have hL : (ws ++ List.replicate (n.l - 1 - h.l).toNat now ++ [now.set p nv]).length = ws.length + (n.l - 1 - h.l).toNat + 1 := by simp; omega
  refine ⟨by rw [hL]; omega, ?_, S.b1, ?_, fun i m hm => ?_, fun i hi => ?_, fun i m hm hth => ?_, fun vs hvs => ?_, fun x hx k hk vs hvs => ?_⟩
  · show n.l = _
    rw [hL]
    omega
  · show h.b ≤ n.l
    have := S.b2
    omega
  · show m.l ≤ n.l
    have hm' : m ∈ updK h.K ((p : Int) + 1) (h.K ((p : Int) + 1) ++ [n]) i := hm
    by_cases e : i = (p : Int) + 1
    · subst e
      rw [updK_same] at hm'
      rcases List.mem_append.1 hm' with h3 | h3
      · have := S.le _ m h3; omega
      · rw [List.mem_singleton.1 h3]; omega
    · rw [updK_ne _ _ e] at hm'
      have := S.le _ m hm'
      omega
  · by_cases e : i = (p : Int) + 1
    · rw [e]; exact mem_L4 hp
    · refine S.out i (fun e2 => hi ?_)
      show updK h.K ((p : Int) + 1) (h.K ((p : Int) + 1) ++ [n]) i = []
      rw [updK_ne _ _ e]
      exact e2
  · have hm' : m ∈ updK h.K ((p : Int) + 1) (h.K ((p : Int) + 1) ++ [n]) i := hm
    have old : m ∈ h.K i → ∃ v, m.t = tabT i v ∧ 1 ≤ v ∧ v ≤ ver' := fun h3 => by
      obtain ⟨v, e1, e2, e3⟩ := S.tb i m h3 hth
      exact ⟨v, e1, e2, by omega⟩
    by_cases e : i = (p : Int) + 1
    · subst e
      rw [updK_same] at hm'
      rcases List.mem_append.1 hm' with h3 | h3
      · exact old h3
      · rw [List.mem_singleton.1 h3] at hth ⊢
        exact ⟨nv, h1 hth⟩
    · rw [updK_ne _ _ e] at hm'
      exact old hm'
  · rcases List.mem_append.1 hvs with h3 | h3
    · rcases List.mem_append.1 h3 with h3 | h3
      · exact S.len vs h3
      · rw [(List.mem_replicate.1 h3).2]; exact hnl
    · rw [List.mem_singleton.1 h3, List.length_set]; exact hnl
  · have hx' : h.b ≤ x := hx
    have hb1 := S.b1
    have hxl : (h.add ((p : Int) + 1) n).l = n.l := rfl
    rw [hxl] at hvs
    rcases Int.lt_or_le x n.l with hxn | hxn
    · have et : toldV (h.add ((p : Int) + 1) n) x k = toldV h x k := by
        by_cases e : k = p
        · subst e; exact toldV_add_lt hxn
        · exact toldV_add_ne e
      rw [et]
      rcases Int.lt_or_le h.l x with hxl2 | hxl2
      · have e9 : vs = now := by
          rw [List.append_assoc, List.getElem?_append_right (by omega), List.getElem?_append_left (by rw [List.length_replicate]; omega)] at hvs
          exact (List.mem_replicate.1 (List.mem_of_getElem? hvs)).2
        rw [e9]
        exact S.now (by omega) hnow hk
      · rw [List.append_assoc, List.getElem?_append_left (by omega)] at hvs
        exact S.told x hx' k hk vs (by rw [show min x h.l = min x n.l by omega]; exact hvs)
    · have e9 : vs = now.set p nv := by
        rw [List.getElem?_append_right (by simp; omega)] at hvs
        have h3 := (List.getElem?_eq_some_iff.1 hvs).1
        have h4 := List.mem_of_getElem? hvs
        exact List.mem_singleton.1 h4
      rw [e9]
      by_cases e : k = p
      · subst e
        rw [toldV_add_ge hxn, List.getElem?_set_self (by omega)]
        cases hth : n.th with
        | true =>
          obtain ⟨e1, _, _⟩ := h1 hth
          rw [e1]
          rfl
        | false => rw [h2 hth]; rfl
      · rw [toldV_add_ne e, List.getElem?_set_ne (fun e2 => e e2.symm)]
        exact S.now (by omega) hnow hk
theorem tr_all {h : Hs} {x : Int} {ids : List Int} (hi : IdsOf h.K ids) (i : Int) : ((h.beg x).tr ids).K i = (h.K i).drop (fgN (h.K i) x) := by
  show (if i ∈ ids then (h.K i).drop (fgN (h.K i) x) else h.K i) = _
  by_cases hm : i ∈ ids
  · rw [if_pos hm]
  · rw [if_neg hm]
    have : h.K i = [] := by
      cases hK : h.K i with
      | nil => rfl
      | cons a r => exact absurd ((hi.2 i).2 (by rw [hK]; simp)) hm
    rw [this]
    rfl
/-- Behind a Trim. -/
theorem SI.trim {h : Hs} {ver : Nat} {ws : List (List Int)} (S : SI h ver ws) {x0 : Int} (hx1 : h.b < x0) (hx2 : x0 ≤ h.l) {ids : List Int} (hi : IdsOf h.K ids) : SI ((h.beg x0).tr ids) ver ws := by
  have hl : ((h.beg x0).tr ids).l = h.l := by show max h.l x0 = h.l; omega
  have hsub : ∀ i n, n ∈ ((h.beg x0).tr ids).K i → n ∈ h.K i := fun i n hn => by rw [tr_all hi] at hn; exact List.mem_of_mem_drop hn
  refine ⟨S.ne, by rw [hl]; exact S.l, ?_, ?_, fun i n hn => by rw [hl]; exact S.le i n (hsub i n hn), fun i h2 => S.out i (fun e => h2 (by rw [tr_all hi, e, List.drop_nil])), fun i n hn => S.tb i n (hsub i n hn), S.len, fun x hx k hk vs hvs => ?_⟩
  · show 10 ≤ x0
    have := S.b1
    omega
  · rw [hl]
    exact hx2
  · rw [hl] at hvs
    have hx' : x0 ≤ x := hx
    rw [S.told x (by omega) k hk vs hvs]
    congr 1
    unfold toldV
    rw [tr_all hi]
    obtain ⟨w1, w2⟩ := was_drop (K := h.K ((k : Int) + 1)) hx'
    rw [w1]
    cases hth : (wasL (h.K ((k : Int) + 1)) x).th with
    | true => rw [w2 hth]
    | false => rfl
/-- What At tells. -/
theorem SI.at {h : Hs} {ver : Nat} {ws : List (List Int)} (S : SI h ver ws) {x : Int} {k : Nat} (hx : h.b ≤ x) : (toldV h x k = 0 ∧ atE h x ((k : Int) + 1) = 170) ∨ (1 ≤ toldV h x k ∧ toldV h x k ≤ ver ∧ atE h x ((k : Int) + 1) = 0 ∧ atT h x ((k : Int) + 1) = tabT ((k : Int) + 1) (toldV h x k)) := by
  have e0 : atE h x ((k : Int) + 1) = if (wasL (h.K ((k : Int) + 1)) x).th = true then 0 else 170 := by unfold atE; rw [if_neg (by omega)]
  cases hth : (wasL (h.K ((k : Int) + 1)) x).th with
  | false =>
    left
    rw [hth] at e0
    refine ⟨?_, e0⟩
    unfold toldV
    rw [hth]
    rfl
  | true =>
    right
    rw [hth, if_pos rfl] at e0
    obtain ⟨_, hm⟩ := wasL_th hth
    obtain ⟨v, e1, e2, e3⟩ := S.tb _ _ hm hth
    have ev : toldV h x k = v := by
      unfold toldV
      rw [if_pos hth, e1]
      rfl
    rw [ev]
    refine ⟨e2, e3, e0, ?_⟩
    unfold atT
    rw [if_pos e0, e1]
/-- The tables of versions. -/
def tvs : Nat → List Int → List Tbl
  | _, [] => []
  | k, v :: r => if v = 0 then tvs (k + 1) r else tabT ((k : Int) + 1) v :: tvs (k + 1) r
theorem tvs_append : ∀ (k : Nat) (l m : List Int), tvs k (l ++ m) = tvs k l ++ tvs (k + l.length) m
  | k, [], m => by simp [tvs]
  | k, v :: r, m => by
    have ih := tvs_append (k + 1) r m
    have e1 : tvs k (v :: r ++ m) = if v = 0 then tvs (k + 1) (r ++ m) else tabT ((k : Int) + 1) v :: tvs (k + 1) (r ++ m) := rfl
    have e2 : tvs k (v :: r) = if v = 0 then tvs (k + 1) r else tabT ((k : Int) + 1) v :: tvs (k + 1) r := rfl
    rw [e1, e2, ih, show k + 1 + r.length = k + (v :: r).length by rw [List.length_cons]; omega]
    split <;> rfl
/-- What List tells. -/
theorem SI.list {h : Hs} {ver : Nat} {ws : List (List Int)} (S : SI h ver ws) {x : Int} (hx : h.b ≤ x) {ids : List Int} (hi : IdsOf h.K ids) : tells h x ids = tvs 0 [toldV h x 0, toldV h x 1, toldV h x 2, toldV h x 3] := by
  have hids := ids_eq hi L4_up S.out
  have key : ∀ k : Nat, k < 4 → ((wasL (h.K ((k : Int) + 1)) x).th = true ∧ ¬ toldV h x k = 0 ∧ (wasL (h.K ((k : Int) + 1)) x).t = tabT ((k : Int) + 1) (toldV h x k) ∧ (h.K ((k : Int) + 1)).isEmpty = false) ∨ ((wasL (h.K ((k : Int) + 1)) x).th = false ∧ toldV h x k = 0) := fun k hk => by
    rcases S.at (k := k) hx with ⟨e1, e2⟩ | ⟨e1, _, e2, e3⟩
    · right
      refine ⟨?_, e1⟩
      cases hth : (wasL (h.K ((k : Int) + 1)) x).th with
      | false => rfl
      | true =>
        unfold atE at e2
        rw [if_neg (by omega), if_pos hth] at e2
        cases e2
    · left
      have hth : (wasL (h.K ((k : Int) + 1)) x).th = true := by
        unfold atE at e2
        rw [if_neg (by omega)] at e2
        split at e2
        · assumption
        · cases e2
      refine ⟨hth, by omega, ?_, ?_⟩
      · unfold atT at e3
        rw [if_pos e2] at e3
        exact e3
      · obtain ⟨_, hm⟩ := wasL_th hth
        cases hK : h.K ((k : Int) + 1) with
        | nil => rw [hK] at hm; cases hm
        | cons a r => rfl
  have k0 := key 0 (by omega)
  have k1 := key 1 (by omega)
  have k2 := key 2 (by omega)
  have k3 := key 3 (by omega)
  have c1 : ((1 : Nat) : Int) + 1 = 2 := rfl
  have c2 : ((2 : Nat) : Int) + 1 = 3 := rfl
  have c3 : ((3 : Nat) : Int) + 1 = 4 := rfl
  have c0 : ((0 : Nat) : Int) + 1 = 1 := rfl
  rw [c0] at k0
  rw [c1] at k1
  rw [c2] at k2
  rw [c3] at k3
  have et : tvs 0 [toldV h x 0, toldV h x 1, toldV h x 2, toldV h x 3] = (if toldV h x 0 = 0 then [] else [tabT 1 (toldV h x 0)]) ++ ((if toldV h x 1 = 0 then [] else [tabT 2 (toldV h x 1)]) ++ ((if toldV h x 2 = 0 then [] else [tabT 3 (toldV h x 2)]) ++ (if toldV h x 3 = 0 then [] else [tabT 4 (toldV h x 3)]))) := by
    show (if toldV h x 0 = 0 then _ else _) = _
    have e3 : tvs (0 + 1 + 1 + 1) [toldV h x 3] = if toldV h x 3 = 0 then [] else [tabT 4 (toldV h x 3)] := rfl
    have e2 : tvs (0 + 1 + 1) [toldV h x 2, toldV h x 3] = if toldV h x 2 = 0 then tvs (0 + 1 + 1 + 1) [toldV h x 3] else tabT 3 (toldV h x 2) :: tvs (0 + 1 + 1 + 1) [toldV h x 3] := rfl
    have e1 : tvs (0 + 1) [toldV h x 1, toldV h x 2, toldV h x 3] = if toldV h x 1 = 0 then tvs (0 + 1 + 1) [toldV h x 2, toldV h x 3] else tabT 2 (toldV h x 1) :: tvs (0 + 1 + 1) [toldV h x 2, toldV h x 3] := rfl
    rw [e1, e2, e3]
    by_cases h0 : toldV h x 0 = 0 <;> by_cases h1 : toldV h x 1 = 0 <;> by_cases h2 : toldV h x 2 = 0 <;> simp [h0, h1, h2] <;> rfl
  rw [et]
  have one : ∀ (i : Int) (v : Int), ((wasL (h.K i) x).th = true ∧ ¬ v = 0 ∧ (wasL (h.K i) x).t = tabT i v ∧ (h.K i).isEmpty = false) ∨ ((wasL (h.K i) x).th = false ∧ v = 0) → (([i].filter (fun i => !(h.K i).isEmpty)).filter (fun i => (wasL (h.K i) x).th)).map (fun i => (wasL (h.K i) x).t) = if v = 0 then [] else [tabT i v] := fun i v hc => by
    rcases hc with ⟨a1, a2, a3, a4⟩ | ⟨a1, a2⟩
    · rw [if_neg a2]
      simp [a1, a3, a4]
    · rw [if_pos a2]
      cases hK : (h.K i).isEmpty <;> simp [a1, hK]
  rw [← one 1 _ k0, ← one 2 _ k1, ← one 3 _ k2, ← one 4 _ k3]
  unfold tells
  rw [hids, ← List.map_append, ← List.map_append, ← List.map_append, ← List.filter_append, ← List.filter_append, ← List.filter_append, ← List.filter_append, ← List.filter_append, ← List.filter_append]
  rfl
end Go.Proofs.Ytkcmpipipelgoaa
