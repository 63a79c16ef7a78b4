import Derived.Test.YtkcmpipipelgoaaD8
import Derived.Test.YtkcmpipipelgoaaD6
import Derived.Test.YtkcmpipipelgoaaD5
import Derived.Test.YtkcmpipipelgoaaD4
import Derived.Test.YtkcmpipipelgoaaHSy0
/- The code's history and the document's, held against one another. -/
namespace Go.Proofs.Ytkcmpipipelgoaa
open Go

def core (n : Nt) : Int × Bool × Tbl := (n.l, n.th, n.t)
/-- The document's notes of a number. -/
def kof (L : List Dn) (i : Int) : List Dn := L.filter (fun n => decide (n.i = i))
def kofN (L : List Dn) (i : Int) : List Nt := (kof L i).map Dn.nt
theorem kof_pos {n : Dn} {r : List Dn} {i : Int} (h : n.i = i) : kof (n :: r) i = n :: kof r i := by unfold kof; rw [List.filter_cons, if_pos (by simpa using h)]
theorem kof_neg {n : Dn} {r : List Dn} {i : Int} (h : n.i ≠ i) : kof (n :: r) i = kof r i := by unfold kof; rw [List.filter_cons, if_neg (by simpa using h)]
theorem kof_app (L M : List Dn) (i : Int) : kof (L ++ M) i = kof L i ++ kof M i := by simp [kof]
theorem kofN_pos {n : Dn} {r : List Dn} {i : Int} (h : n.i = i) : kofN (n :: r) i = n.nt :: kofN r i := by unfold kofN; rw [kof_pos h]; rfl
theorem kofN_neg {n : Dn} {r : List Dn} {i : Int} (h : n.i ≠ i) : kofN (n :: r) i = kofN r i := by unfold kofN; rw [kof_neg h]
theorem nw_up : ∀ (L : List Dn) (x i : Int), (nwK L x i = 0 ↔ upL (kofN L i) x = 0) ∧ (nwK L x i ≠ 0 → (L[nwK L x i - 1]?).map Dn.nt = (kofN L i)[upL (kofN L i) x - 1]?)
  | [], x, i => ⟨⟨fun _ => rfl, fun _ => rfl⟩, fun h => absurd rfl h⟩
  | n :: r, x, i => by
    obtain ⟨h1, h2⟩ := nw_up r x i
    have e : nwK (n :: r) x i = if nwK r x i = 0 then (if n.i = i ∧ n.l ≤ x then 1 else 0) else nwK r x i + 1 := rfl
    by_cases hi : n.i = i
    · rw [kofN_pos hi]
      have e2 : upL (n.nt :: kofN r i) x = if upL (kofN r i) x = 0 then (if n.l ≤ x then 1 else 0) else upL (kofN r i) x + 1 := rfl
      by_cases h0 : nwK r x i = 0
      · have h0' := h1.1 h0
        rw [e, e2, if_pos h0, if_pos h0']
        by_cases hx : n.l ≤ x
        · rw [if_pos ⟨hi, hx⟩, if_pos hx]
          exact ⟨⟨fun h => by omega, fun h => by omega⟩, fun _ => rfl⟩
        · rw [if_neg (fun h => hx h.2), if_neg hx]
          exact ⟨⟨fun _ => rfl, fun _ => rfl⟩, fun h => absurd rfl h⟩
      · have h0' : ¬ upL (kofN r i) x = 0 := fun h => h0 (h1.2 h)
        rw [e, e2, if_neg h0, if_neg h0']
        refine ⟨⟨fun h => by omega, fun h => by omega⟩, fun _ => ?_⟩
        have := h2 h0
        obtain ⟨a, ha⟩ : ∃ a, nwK r x i = a + 1 := ⟨nwK r x i - 1, by omega⟩
        obtain ⟨c, hc⟩ : ∃ c, upL (kofN r i) x = c + 1 := ⟨upL (kofN r i) x - 1, by omega⟩
        rw [ha, hc] at this ⊢
        simpa using this
    · rw [kofN_neg hi]
      by_cases h0 : nwK r x i = 0
      · rw [e, if_pos h0, if_neg (fun h => hi h.1)]
        exact ⟨⟨fun _ => h1.1 h0, fun _ => rfl⟩, fun h => absurd rfl h⟩
      · rw [e, if_neg h0]
        refine ⟨⟨fun h => by omega, fun h => absurd (h1.2 h) h0⟩, fun _ => ?_⟩
        have := h2 h0
        obtain ⟨a, ha⟩ : ∃ a, nwK r x i = a + 1 := ⟨nwK r x i - 1, by omega⟩
        rw [ha] at this ⊢
        simpa using this
theorem dwas_eq (L : List Dn) (x i : Int) : dwas L x i = wasL (kofN L i) x := by
  obtain ⟨h1, h2⟩ := nw_up L x i
  unfold dwas wasL
  by_cases h : nwK L x i = 0
  · rw [if_pos h, if_pos (h1.1 h)]
  · rw [if_neg h, if_neg (fun e => h (h1.2 e)), h2 h]
theorem upL_core : ∀ (K K' : List Nt) (x : Int), K.map core = K'.map core → upL K x = upL K' x
  | [], [], _, _ => rfl
  | [], _ :: _, _, h => by cases h
  | _ :: _, [], _, h => by cases h
  | a :: r, b :: s, x, h => by
    simp only [List.map_cons, List.cons.injEq] at h
    have e := upL_core r s x h.2
    have e2 : a.l = b.l := congrArg Prod.fst h.1
    unfold upL
    rw [e, e2]
theorem wasL_core {K K' : List Nt} {x : Int} (h : K.map core = K'.map core) : core (wasL K x) = core (wasL K' x) := by
  unfold wasL
  rw [upL_core K K' x h]
  split
  · rfl
  · have e : (K[upL K' x - 1]?).map core = (K'[upL K' x - 1]?).map core := by rw [← List.getElem?_map, ← List.getElem?_map, h]
    cases ha : K[upL K' x - 1]? with
    | none =>
      cases hb : K'[upL K' x - 1]? with
      | none => rfl
      | some b => rw [ha, hb] at e; cases e
    | some a =>
      cases hb : K'[upL K' x - 1]? with
      | none => rw [ha, hb] at e; cases e
      | some b => rw [ha, hb] at e; injection e
theorem core_th {a b : Nt} (h : core a = core b) : a.th = b.th := congrArg (fun p => p.2.1) h
theorem core_t {a b : Nt} (h : core a = core b) : a.t = b.t := congrArg (fun p => p.2.2) h
theorem fgN_core {K K' : List Nt} {x : Int} (h : K.map core = K'.map core) : fgN K x = fgN K' x := by
  unfold fgN
  rw [core_th (wasL_core h), upL_core K K' x h]
/-- Both say the same. -/
structure Lk (h : Hs) (d : Dh) : Prop where
  b : h.b = d.b
  l : h.l = d.l
  K : ∀ i, (h.K i).map core = (kofN d.L i).map core
  sz : h.sz = d.L.length
theorem Lk.was {h : Hs} {d : Dh} (H : Lk h d) (x i : Int) : core (wasL (h.K i) x) = core (dwas d.L x i) := by rw [dwas_eq]; exact wasL_core (H.K i)
theorem Lk.atE {h : Hs} {d : Dh} (H : Lk h d) (x i : Int) : Go.Proofs.Ytkcmpipipelgoaa.atE h x i = datE d x i := by unfold Go.Proofs.Ytkcmpipipelgoaa.atE datE; rw [H.b, core_th (H.was x i)]
theorem Lk.atT {h : Hs} {d : Dh} (H : Lk h d) (x i : Int) : Go.Proofs.Ytkcmpipipelgoaa.atT h x i = datT d x i := by unfold Go.Proofs.Ytkcmpipipelgoaa.atT datT; rw [H.atE, core_t (H.was x i)]
theorem Lk.goneE {h : Hs} {d : Dh} (H : Lk h d) (x i : Int) : Go.Proofs.Ytkcmpipipelgoaa.goneE h x i = dgoneE d x i := by unfold Go.Proofs.Ytkcmpipipelgoaa.goneE dgoneE; rw [H.l, core_th (H.was d.l i)]
theorem Lk.putE {h : Hs} {d : Dh} (H : Lk h d) (x : Int) (t : Tbl) : Go.Proofs.Ytkcmpipipelgoaa.putE h x t = dputE d x t := by unfold Go.Proofs.Ytkcmpipipelgoaa.putE dputE; rw [H.l]
theorem kofN_app (L M : List Dn) (i : Int) : kofN (L ++ M) i = kofN L i ++ kofN M i := by unfold kofN; rw [kof_app, List.map_append]
/-- A note more. -/
theorem Lk.note {h : Hs} {d : Dh} (H : Lk h d) {i : Int} {n : Nt} {m : Dn} (hi : m.i = i) (hc : core n = core m.nt) : Lk (h.add i n) ⟨d.b, m.l, d.L ++ [m]⟩ := by
  refine ⟨H.b, congrArg Prod.fst hc, fun j => ?_, ?_⟩
  · show (updK h.K i (h.K i ++ [n]) j).map core = (kofN (d.L ++ [m]) j).map core
    rw [kofN_app]
    by_cases hj : j = i
    · subst hj
      rw [updK_same, kofN_pos hi, List.map_append, List.map_append, H.K j]
      simp [hc, kofN, kof]
    · rw [updK_ne _ _ hj, kofN_neg (fun e => hj (e.symm.trans hi)), H.K j]
      simp [kofN, kof]
  · show h.sz + 1 = (d.L ++ [m]).length
    rw [List.length_append, H.sz]; rfl
theorem Lk.gone {h : Hs} {d : Dh} (H : Lk h d) (x i : Int) : Lk (h.gone x i) (d.gone x i) := by
  unfold Hs.gone Dh.gone
  rw [H.goneE]
  split
  · exact H.note (m := dnG x i) rfl rfl
  · exact H
/-- The notes of a number that stay, by their places. -/
def selF : List Dn → Int → Nat → Nat → List Dn
  | [], _, _, _ => []
  | n :: r, i, u, j => (if n.i = i ∧ (u ≤ j ∨ (u = j + 1 ∧ n.g = false)) then [n] else []) ++ selF r i u (j + 1)
theorem selF_app : ∀ (L : List Dn) (n : Dn) (i : Int) (u j : Nat), selF (L ++ [n]) i u j = selF L i u j ++ (if n.i = i ∧ (u ≤ j + L.length ∨ (u = j + L.length + 1 ∧ n.g = false)) then [n] else [])
  | [], n, i, u, j => by simp [selF]
  | a :: r, n, i, u, j => by
    have e := selF_app r n i u (j + 1)
    show _ ++ selF (r ++ [n]) i u (j + 1) = _
    rw [e, List.length_cons, show j + 1 + r.length = j + (r.length + 1) by omega, ← List.append_assoc]
    rfl
theorem selF_shift : ∀ (L : List Dn) (i : Int) (u j : Nat), selF L i (u + 1) (j + 1) = selF L i u j
  | [], _, _, _ => rfl
  | n :: r, i, u, j => by
    have e := selF_shift r i u (j + 1)
    unfold selF
    rw [e]
    simp only [Nat.add_le_add_iff_right, Nat.add_right_cancel_iff]
theorem selF_zero : ∀ (L : List Dn) (i : Int) (j : Nat), selF L i 0 j = kof L i
  | [], _, _ => rfl
  | n :: r, i, j => by
    unfold selF
    rw [selF_zero r i (j + 1)]
    by_cases h : n.i = i
    · rw [kof_pos h, if_pos ⟨h, .inl (Nat.zero_le _)⟩]; rfl
    · rw [kof_neg h, if_neg (fun e => h e.1)]; rfl
theorem kof_kp (L : List Dn) (x i : Int) : ∀ k, k ≤ L.length → kof (kpN L x k) i = selF (L.take k) i (nwK L x i) 0
  | 0, _ => by simp [kpN, kof, selF]
  | k + 1, hk => by
    obtain ⟨d, hd⟩ : ∃ d, L[k]? = some d := ⟨_, List.getElem?_eq_getElem (by omega)⟩
    have e := kof_kp L x i k (by omega)
    rw [kpN_step hd, kof_app, e, List.take_add_one, hd]
    show _ = selF (L.take k ++ [d]) i _ 0
    rw [selF_app]
    congr 1
    have hl : (L.take k).length = k := by rw [List.length_take]; omega
    rw [hl, Nat.zero_add]
    have ek : (dkeep L x k d = true) ↔ (nwK L x d.i ≤ k ∨ (nwK L x d.i = k + 1 ∧ d.g = false)) := by unfold dkeep; simp
    by_cases hi : d.i = i
    · subst hi
      by_cases hc : nwK L x d.i ≤ k ∨ (nwK L x d.i = k + 1 ∧ d.g = false)
      · rw [if_pos (ek.2 hc), if_pos ⟨rfl, hc⟩]
        simp [kof]
      · rw [if_neg (fun h => hc (ek.1 h)), if_neg (fun h => hc h.2)]
        rfl
    · have e0 : (if d.i = i ∧ (nwK L x i ≤ k ∨ (nwK L x i = k + 1 ∧ d.g = false)) then [d] else ([] : List Dn)) = [] := if_neg (fun h => hi h.1)
      rw [e0]
      split
      · rw [kof_neg hi]; rfl
      · rfl
theorem sel_drop : ∀ (L : List Dn) (x i : Int), selF L i (nwK L x i) 0 = (kof L i).drop (fgN (kofN L i) x)
  | [], x, i => by simp [selF, kof]
  | n :: r, x, i => by
    have ih := sel_drop r x i
    obtain ⟨h1, h2⟩ := nw_up r x i
    have e : nwK (n :: r) x i = if nwK r x i = 0 then (if n.i = i ∧ n.l ≤ x then 1 else 0) else nwK r x i + 1 := rfl
    have z0 : ∀ K : List Nt, upL K x = 0 → fgN K x = 0 := fun K h => by unfold fgN wasL; rw [if_pos h, h]; rfl
    by_cases h0 : nwK r x i = 0
    · have h0' := h1.1 h0
      rw [if_pos h0] at e
      by_cases hi : n.i = i
      · have e2 : upL (n.nt :: kofN r i) x = if upL (kofN r i) x = 0 then (if n.l ≤ x then 1 else 0) else upL (kofN r i) x + 1 := rfl
        rw [if_pos h0'] at e2
        by_cases hx : n.l ≤ x
        · rw [if_pos ⟨hi, hx⟩] at e
          rw [if_pos hx] at e2
          rw [e, kof_pos hi, kofN_pos hi]
          show (if n.i = i ∧ (1 ≤ 0 ∨ (1 = 0 + 1 ∧ n.g = false)) then [n] else []) ++ selF r i 1 1 = _
          rw [show selF r i 1 1 = kof r i from (selF_shift r i 0 0).trans (selF_zero r i 0)]
          have ew : wasL (n.nt :: kofN r i) x = n.nt := by unfold wasL; rw [if_neg (by omega), e2]; rfl
          unfold fgN
          rw [ew, e2]
          cases hg : n.g with
          | false =>
            rw [if_pos ⟨hi, .inr ⟨rfl, rfl⟩⟩, if_pos (by simp [Dn.nt, hg])]
            rfl
          | true =>
            rw [if_neg (fun h => by rcases h.2 with h | h; omega; cases h.2), if_neg (by simp [Dn.nt, hg])]
            rfl
        · rw [if_neg (fun h => hx h.2)] at e
          rw [if_neg hx] at e2
          rw [e, selF_zero, kofN_pos hi, z0 _ e2]
          rfl
      · rw [if_neg (fun h => hi h.1)] at e
        rw [e, selF_zero, kofN_neg hi, z0 _ h0']
        rfl
    · have h0' : ¬ upL (kofN r i) x = 0 := fun h => h0 (h1.2 h)
      rw [if_neg h0] at e
      rw [e]
      have es : selF (n :: r) i (nwK r x i + 1) 0 = selF r i (nwK r x i) 0 := by
        show (if n.i = i ∧ (nwK r x i + 1 ≤ 0 ∨ (nwK r x i + 1 = 0 + 1 ∧ n.g = false)) then [n] else []) ++ selF r i (nwK r x i + 1) 1 = _
        rw [if_neg (fun h => by rcases h.2 with h | h <;> omega), selF_shift]
        rfl
      rw [es, ih]
      by_cases hi : n.i = i
      · rw [kof_pos hi, kofN_pos hi]
        have e2 : upL (n.nt :: kofN r i) x = upL (kofN r i) x + 1 := if_neg h0'
        have ew : wasL (n.nt :: kofN r i) x = wasL (kofN r i) x := by
          unfold wasL
          rw [if_neg (by omega), if_neg h0', e2]
          obtain ⟨c, hc⟩ : ∃ c, upL (kofN r i) x = c + 1 := ⟨upL (kofN r i) x - 1, by omega⟩
          rw [hc]; rfl
        have ef : fgN (n.nt :: kofN r i) x = fgN (kofN r i) x + 1 := by
          unfold fgN
          rw [ew, e2]
          split <;> omega
        rw [ef, List.drop_succ_cons]
      · rw [kof_neg hi, kofN_neg hi]
theorem kof_tr (L : List Dn) (x i : Int) : kof (kpN L x L.length) i = (kof L i).drop (fgN (kofN L i) x) := by
  rw [kof_kp L x i _ (Nat.le_refl _), List.take_of_length_le (Nat.le_refl _), sel_drop]
theorem len_part {ids : List Int} (hn : ids.Nodup) : ∀ L : List Dn, (∀ n ∈ L, n.i ∈ ids) → (ids.map (fun i => (kof L i).length)).sum = L.length
  | [], _ => by
    have : ∀ l : List Int, (l.map (fun i => (kof [] i).length)).sum = 0 := fun l => by
      induction l with
      | nil => rfl
      | cons a r ih => rw [List.map_cons, List.sum_cons, ih]; rfl
    exact this ids
  | n :: r, h => by
    have ih := len_part hn r (fun m hm => h m (.tail _ hm))
    have key : ∀ l : List Int, l.Nodup → (l.map (fun i => (kof (n :: r) i).length)).sum = (l.map (fun i => (kof r i).length)).sum + (if n.i ∈ l then 1 else 0) := fun l => by
      induction l with
      | nil => intro _; rfl
      | cons a s ih =>
        intro hd
        obtain ⟨d1, d2⟩ := List.nodup_cons.1 hd
        rw [List.map_cons, List.sum_cons, List.map_cons, List.sum_cons, ih d2]
        by_cases ha : n.i = a
        · rw [kof_pos ha, if_neg (fun e => d1 (ha ▸ e)), if_pos (by rw [ha]; exact .head _), List.length_cons]
          omega
        · rw [kof_neg ha]
          by_cases hs : n.i ∈ s
          · rw [if_pos hs, if_pos (.tail _ hs)]; omega
          · rw [if_neg hs, if_neg (fun e => by rcases List.mem_cons.1 e with e | e; exact ha e; exact hs e)]; omega
    rw [key ids hn, ih, if_pos (h n (.head _)), List.length_cons]
theorem Lk.ids {h : Hs} {d : Dh} (H : Lk h d) {ids : List Int} (hi : IdsOf h.K ids) (n : Dn) (hn : n ∈ d.L) : n.i ∈ ids := by
  refine (hi.2 _).2 (fun e => ?_)
  have hk := H.K n.i
  rw [e] at hk
  have : n ∈ kof d.L n.i := List.mem_filter.2 ⟨hn, by simp⟩
  unfold kofN at hk
  cases hk2 : kof d.L n.i with
  | nil => rw [hk2] at this; cases this
  | cons a r => rw [hk2] at hk; cases hk
theorem Lk.trN {h : Hs} {d : Dh} (H : Lk h d) {x : Int} (hx : h.b < x) {ids : List Int} (hi : IdsOf h.K ids) : (fgS (h.beg x) ids : Int) = dtrN d x ∧ fgS (h.beg x) ids + (kpN d.L x d.L.length).length = d.L.length := by
  have hnd := nodup_of hi.1
  have e1 := len_part hnd d.L (H.ids hi)
  have e2 := len_part hnd (kpN d.L x d.L.length) (fun n hn => H.ids hi n (kpN_mem _ _ _ n hn))
  have key : ∀ l : List Int, (l.map (fun i => fgN (h.K i) x)).sum + (l.map (fun i => (kof (kpN d.L x d.L.length) i).length)).sum = (l.map (fun i => (kof d.L i).length)).sum := fun l => by
    induction l with
    | nil => rfl
    | cons a r ih =>
      rw [List.map_cons, List.sum_cons, List.map_cons, List.sum_cons, List.map_cons, List.sum_cons, kof_tr, List.length_drop, fgN_core (H.K a)]
      have := fgN_le (kofN d.L a) x
      have hl : (kofN d.L a).length = (kof d.L a).length := List.length_map _
      omega
  have k := key ids
  rw [e1, e2] at k
  have hs : fgS (h.beg x) ids = (ids.map (fun i => fgN (h.K i) x)).sum := rfl
  refine ⟨?_, by rw [hs]; exact k⟩
  unfold dtrN
  rw [if_neg (by have := H.b; omega), hs]
  omega
theorem Lk.trim {h : Hs} {d : Dh} (H : Lk h d) {x : Int} (hx : h.b < x) {ids : List Int} (hi : IdsOf h.K ids) : Lk ((h.beg x).tr ids) (d.tr x) := by
  have hd : d.tr x = ⟨x, max d.l x, kpN d.L x d.L.length⟩ := if_neg (by have := H.b; omega)
  rw [hd]
  refine ⟨rfl, ?_, fun i => ?_, ?_⟩
  · show max h.l x = max d.l x
    rw [H.l]
  · show (((h.beg x).tr ids).K i).map core = (kofN (kpN d.L x d.L.length) i).map core
    rw [tr_all hi]
    unfold kofN
    rw [kof_tr, List.map_drop, List.map_drop, List.map_drop, fgN_core (H.K i), H.K i]
    rfl
  · have := (H.trN hx hi).2
    have := H.sz
    show h.sz - fgS (h.beg x) ids = _
    show h.sz - fgS (h.beg x) ids = (kpN d.L x d.L.length).length
    omega
/-- What the document's list tells. -/
def dtells (d : Dh) (x : Int) (S : List Int) : List Tbl := (S.filter (fun i => (dwas d.L x i).th)).map (fun i => (dwas d.L x i).t)
theorem Lk.tells {h : Hs} {d : Dh} (H : Lk h d) (x : Int) {ids ids' : List Int} (hi : IdsOf h.K ids) (hj : IdL ids' d.L) : Go.Proofs.Ytkcmpipipelgoaa.tells h x ids = dtells d x ids' := by
  have hne : ∀ i, h.K i ≠ [] ↔ i ∈ ids' := fun i => by
    rw [hj.2.1]
    constructor
    · intro hk
      have e := H.K i
      cases hk2 : kof d.L i with
      | nil =>
        unfold kofN at e
        rw [hk2] at e
        cases hk3 : h.K i with
        | nil => exact absurd hk3 hk
        | cons a r => rw [hk3] at e; cases e
      | cons a r =>
        have : a ∈ kof d.L i := by rw [hk2]; exact .head _
        have h2 := List.mem_filter.1 this
        exact ⟨a, h2.1, by simpa using h2.2⟩
    · rintro ⟨n, hn, rfl⟩
      exact (hi.2 _).1 (H.ids hi n hn)
  have e : ids = ids' := by
    rw [ids_eq hi hj.1 (fun i hk => (hne i).1 hk)]
    refine List.filter_eq_self.2 (fun i hk => ?_)
    have := (hne i).2 hk
    cases hk2 : h.K i with
    | nil => exact absurd hk2 this
    | cons a r => rfl
  subst e
  unfold Go.Proofs.Ytkcmpipipelgoaa.tells dtells
  have e1 : (fun i => (wasL (h.K i) x).th) = (fun i => (dwas d.L x i).th) := funext fun i => core_th (H.was x i)
  have e2 : (fun i => (wasL (h.K i) x).t) = (fun i => (dwas d.L x i).t) := funext fun i => core_t (H.was x i)
  rw [e1, e2]
theorem Lk.adds : ∀ (l : List Nt) (m : List Dn) (h : Hs) (d : Dh) (x : Int), Lk h d → d.l = x → l.map (fun n => n.t) = m.map (fun n => n.t) → (∀ n ∈ l, n.l = x ∧ n.th = true) → (∀ n ∈ m, n.l = x ∧ n.g = false ∧ n.i = n.t.id) → Lk (h.adds l) ⟨d.b, x, d.L ++ m⟩
  | [], [], h, d, x, H, hl, _, _, _ => by
    subst hl
    rw [List.append_nil]
    exact H
  | [], _ :: _, _, _, _, _, _, h, _, _ => by cases h
  | _ :: _, [], _, _, _, _, _, h, _, _ => by cases h
  | a :: r, b :: s, h, d, x, H, hl, hm, h1, h2 => by
    simp only [List.map_cons, List.cons.injEq] at hm
    obtain ⟨a1, a2⟩ := h1 a (.head _)
    obtain ⟨b1, b2, b3⟩ := h2 b (.head _)
    have hc : core a = core b.nt := by
      unfold core Dn.nt
      simp only [a1, a2, b1, b2, hm.1, Bool.not_false]
    have H1 := H.note (i := a.t.id) (n := a) (m := b) (by rw [b3, hm.1]) hc
    have := Lk.adds r s _ _ x H1 b1 hm.2 (fun n hn => h1 n (.tail _ hn)) (fun n hn => h2 n (.tail _ hn))
    rw [List.append_assoc] at this
    exact this
theorem Lk.new {T : List Tbl} {x : Int} {l : List Nt} {m : List Dn} (h1 : NotesOf x T l) (h2 : DNotesOf x T m) : Lk ((hs0 x).adds l) ⟨x, x, m⟩ := by
  have := Lk.adds l m (hs0 x) ⟨x, x, []⟩ x ⟨rfl, rfl, fun i => rfl, rfl⟩ rfl (h1.1.trans h2.1.symm) h1.2 h2.2
  exact this
end Go.Proofs.Ytkcmpipipelgoaa
