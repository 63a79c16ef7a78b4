import Derived.Test.YtolobljlkdacjaaXRel
/- What each call does to the document's list. -/
namespace Go.Proofs.Ytolobljlkdacjaa

theorem posN_congr : ∀ {L L' : List Nm}, L'.map (·.n) = L.map (·.n) → ∀ n, posN L' n = posN L n
  | [], [], _, _ => rfl
  | [], _ :: _, h, _ => by cases h
  | _ :: _, [], h, _ => by cases h
  | a :: L, b :: L', h, n => by
    simp only [List.map_cons, List.cons.injEq] at h
    unfold posN
    rw [h.1, posN_congr h.2 n]
theorem posN_snoc (L : List Nm) (a : Nm) (n : Int) : posN (L ++ [a]) n = match posN L n with | some j => some j | none => if (a.n : Int) = n then some L.length else none := by
  induction L with
  | nil => simp [posN]
  | cons q r ih =>
    simp only [List.cons_append, posN, ih]
    split
    · rfl
    · cases posN r n with
      | none =>
        simp only [Option.map_none]
        split <;> simp
      | some k => simp
theorem map_get {L L' : List Nm} (h : L'.map (·.n) = L.map (·.n)) (j : Nat) : (L'[j]?).map (·.n) = (L[j]?).map (·.n) := by
  have := congrArg (fun l => l[j]?) h
  simpa [List.getElem?_map] using this
/-- Numbers stay as they are. -/
theorem Rel.upd {m m' : Mg} {L L' : List Nm} (h : Rel m L) (hw : Wf m') (φ : Tx → Tx) (hf : ∀ n, fnd m'.tx n = (fnd m.tx n).map (fun p => (φ p.1, p.2))) (hn : L'.map (·.n) = L.map (·.n))
    (hk : ∀ (j : Nat) a a' t i, L[j]? = some a → L'[j]? = some a' → fnd m.tx (a.n : Int) = some (t, i) → NmOk t i a → NmOk (φ t) i a') : Rel m' L' := by
  refine ⟨hw, ?_, fun n e => ?_, fun n t i e => ?_⟩
  · have h1 : (L.map (·.n)).Pairwise (· < ·) := by rw [List.pairwise_map]; exact h.up
    have h2 : (L'.map (·.n)).Pairwise (· < ·) := by rw [hn]; exact h1
    rw [List.pairwise_map] at h2
    exact h2
  · rw [hf] at e
    rw [posN_congr hn]
    cases hm : fnd m.tx n with
    | none => exact h.no n hm
    | some p => rw [hm] at e; cases e
  · rw [hf] at e
    cases hm : fnd m.tx n with
    | none => rw [hm] at e; cases e
    | some p =>
      rw [hm] at e
      obtain ⟨t0, i0⟩ := p
      simp only [Option.map_some, Option.some.injEq, Prod.mk.injEq] at e
      obtain ⟨rfl, rfl⟩ := e
      obtain ⟨j, a, h1, h2, h3, h4⟩ := h.yes n t0 i0 hm
      have hg := map_get hn j
      rw [h2] at hg
      cases ha : L'[j]? with
      | none => rw [ha] at hg; cases hg
      | some a' =>
        rw [ha] at hg
        simp only [Option.map_some, Option.some.injEq] at hg
        exact ⟨j, a', by rw [posN_congr hn]; exact h1, ha, by rw [hg]; exact h3, hk j a a' t0 i0 h2 ha (by rw [h3]; exact hm) h4⟩
theorem map_set (L : List Nm) (j : Nat) (a a' : Nm) (ha : L[j]? = some a) (hn : a'.n = a.n) : (L.set j a').map (·.n) = L.map (·.n) := by
  rw [List.map_set, hn]
  apply List.ext_getElem?
  intro k
  rw [List.getElem?_set]
  split
  · rename_i e
    subst e
    split
    · rw [List.getElem?_map, ha]; rfl
    · rename_i hl
      rw [List.getElem?_eq_none (by omega)]
  · rfl
theorem set_get (L : List Nm) (j : Nat) (a' : Nm) (k : Nat) (b b' : Nm) (hb : L[k]? = some b) (hb' : (L.set j a')[k]? = some b') : (k = j ∧ b' = a') ∨ (k ≠ j ∧ b' = b) := by
  rw [List.getElem?_set] at hb'
  split at hb'
  · rename_i e
    split at hb'
    · injection hb' with hb'; exact Or.inl ⟨e.symm, hb'.symm⟩
    · cases hb'
  · rename_i e
    rw [hb] at hb'
    injection hb' with hb'
    exact Or.inr ⟨fun h => e h.symm, hb'.symm⟩
/-- A transaction stands otherwise. -/
theorem Rel.setS {m m' : Mg} {L : List Nm} (h : Rel m L) (hw : Wf m') {x s : Nat} (ht : m'.tx = Go.Proofs.Ytolobljlkdacjaa.upd m.tx x (Go.Proofs.Ytolobljlkdacjaa.setS s)) {j : Nat} {a : Nm} (hj : posN L (x : Int) = some j) (ha : L[j]? = some a) (hx : ∃ t, fnd m.tx (x : Int) = some (t, -1)) : Rel m' (L.set j { a with st := s }) := by
  refine h.upd hw (fun t => if t.x = x then Go.Proofs.Ytolobljlkdacjaa.setS s t else t) (fun n => by rw [ht, fnd_setS]) (map_set L j a _ ha rfl) (fun k b b' t i hb hb' hf hok => ?_)
  obtain ⟨t0, hx0⟩ := hx
  obtain ⟨-, ea, e2, e3, e4, e5⟩ := h.root hx0 hj ha
  have htx : t0.x = x := by
    obtain ⟨a0, g1, g2⟩ := posN_some hj
    rw [ha] at g1
    injection g1 with g1
    subst g1
    omega
  rcases set_get L j _ k b b' hb hb' with ⟨rfl, rfl⟩ | ⟨hne, rfl⟩
  · rw [hb] at ha
    injection ha with ha
    subst ha
    have : fnd m.tx (b.n : Int) = some (t0, -1) := by rw [ea, htx]; exact hx0
    rw [this] at hf
    injection hf with hf
    injection hf with h1 h2
    subst h1 h2
    rw [if_pos htx]
    exact ⟨fun _ => ⟨e2, rfl, e4, e5⟩, fun k p hk _ => by omega⟩
  · by_cases hx2 : t.x = x
    · rw [if_pos hx2]
      refine ⟨fun hi => ?_, hok.pt⟩
      exfalso
      subst hi
      obtain ⟨hb1, -⟩ := h.at hb
      have htm := (fnd_mem hf).2
      rcases htm with ⟨_, e⟩ | ⟨_, _, e, _⟩
      · rw [← e, hx2, hj] at hb1
        injection hb1 with hb1
        exact hne hb1.symm
      · omega
    · rw [if_neg hx2]; exact hok
/-- A part, and all within it, get a fate: what that is to the list. -/
theorem fate_endPs (t : Tx) (o : Int) (f : Nat) (i : Int) (hi : i = -1 ∨ ∃ k : Nat, i = k ∧ k < t.ps.length) (ho : 0 ≤ o) : fate { t with ps := endPs t.ps o f } i = if within t.ps o t.ps.length i then max (fate t i) f else fate t i := by
  rcases hi with rfl | ⟨k, rfl, hk⟩
  · rw [fate_tx, fate_tx, within_stop _ (by omega)]
    rw [if_neg (by simp; omega)]
  · have hp : t.ps[k]? = some t.ps[k] := List.getElem?_eq_getElem hk
    rw [fate_pt hp]
    have : (endPs t.ps o f)[k]? = some (if within t.ps o t.ps.length k then { t.ps[k] with ft := max t.ps[k].ft f } else t.ps[k]) := by
      simp only [endPs, List.getElem?_mapIdx, hp, Option.map_some]
    rw [fate_pt (t := { t with ps := endPs t.ps o f }) this]
    split <;> rfl
theorem endPs_get (t : Tx) (o : Int) (f : Nat) (k : Nat) (p' : Pt) (h : (endPs t.ps o f)[k]? = some p') : ∃ p, t.ps[k]? = some p ∧ p'.ar = p.ar ∧ p'.x = p.x := by
  simp only [endPs, List.getElem?_mapIdx] at h
  cases hp : t.ps[k]? with
  | none => rw [hp] at h; cases h
  | some p =>
    rw [hp] at h
    simp only [Option.map_some, Option.some.injEq] at h
    refine ⟨p, rfl, ?_, ?_⟩ <;> rw [← h] <;> split <;> rfl
theorem parN_endPs (t : Tx) (o : Int) (f : Nat) (i : Int) : parN { t with ps := endPs t.ps o f } i = parN t i := by
  unfold parN
  split
  · have : ((endPs t.ps o f)[i.toNat]?).map (·.x) = (t.ps[i.toNat]?).map (·.x) := by
      have := congrArg (fun l => l[i.toNat]?) (endPs_x t.ps o f)
      simpa [List.getElem?_map] using this
    show (match (endPs t.ps o f)[i.toNat]? with | some p => p.x | none => 0) = _
    cases h1 : (endPs t.ps o f)[i.toNat]? with
    | none => cases h2 : t.ps[i.toNat]? with
      | none => rfl
      | some p => rw [h1, h2] at this; cases this
    | some p => cases h2 : t.ps[i.toNat]? with
      | none => rw [h1, h2] at this; cases this
      | some q => rw [h1, h2] at this; simpa using this
  · rfl
theorem fnd_endp (m : Mg) (x : Nat) (o : Int) (f : Nat) (n : Int) : fnd (m.endp x o f).tx n = (fnd m.tx n).map (fun p => ((fun t => if t.x = x then { t with ps := endPs t.ps o f } else t) p.1, p.2)) :=
  fnd_upd x (fun t => { t with ps := endPs t.ps o f }) (fun t => ⟨rfl, endPs_x t.ps o f⟩) n m.tx
/-- Release and Back, said once: what the list's entry b' must be for b. -/
theorem Rel.endp {m : Mg} {L L' : List Nm} (h : Rel m L) {t : Tx} {o : Nat} {n : Int} (ht : fnd m.tx n = some (t, (o : Int))) {f : Nat} (hf : f = 1 ∨ f = 2) (hn : L'.map (·.n) = L.map (·.n))
    (hs : ∀ (j : Nat) b b', L[j]? = some b → L'[j]? = some b' → b'.par = b.par ∧ b'.st = b.st ∧ b'.had = b.had)
    (h1 : ∀ (j : Nat) b b' u i, L[j]? = some b → L'[j]? = some b' → fnd m.tx (b.n : Int) = some (u, i) → (f = 1 → b'.bk = b.bk ∧ b'.rl = (b.rl || (decide (u.x = t.x) && within t.ps o t.ps.length i))) ∧ (f = 2 → b'.rl = b.rl ∧ b'.bk = (b.bk || decide ((b.n : Int) = n)))) : Rel (m.endp t.x o f) L' := by
  have htm := (fnd_mem ht).1
  have hfn := (fnd_mem ht).2
  refine h.upd (h.wf.endp t.x o (by omega)) (fun u => if u.x = t.x then { u with ps := endPs u.ps o f } else u) (fnd_endp m t.x o f) hn (fun j b b' u i hb hb' hu hok => ?_)
  obtain ⟨s1, s2, s3⟩ := hs j b b' hb hb'
  obtain ⟨r1, r2⟩ := h1 j b b' u i hb hb' hu
  have hum := (fnd_mem hu).1
  by_cases hx : u.x = t.x
  · have e := h.wf.uniq u hum t htm hx
    subst e
    rw [if_pos rfl]
    have har : ∀ (i : Nat) p, u.ps[i]? = some p → -1 ≤ p.ar ∧ p.ar < i := fun i p hp => ⟨(h.wf.ar u hum i p hp).1, (h.wf.ar u hum i p hp).2.1⟩
    refine ⟨fun hi => ?_, fun k p' hk hp' => ?_⟩
    · obtain ⟨k1, k2, k3, k4⟩ := hok.tx hi
      refine ⟨by rw [s1]; exact k1, by rw [s2]; exact k2, by rw [s3, k3]; exact (endPs_len _ _ _).symm, ?_⟩
      rcases hf with rfl | rfl
      · rw [(r1 rfl).1]; exact k4
      · rw [(r2 rfl).2, k4]
        have : (b.n : Int) ≠ n := fun e => by
          rw [e, ht] at hu
          injection hu with hu
          injection hu with _ hu
          omega
        simp [this]
    · obtain ⟨p, hp, ear, -⟩ := endPs_get u o f k p' hp'
      obtain ⟨k1, k2, k3⟩ := hok.pt k p hk hp
      subst hk
      have hkl := (List.getElem?_eq_some_iff.1 hp).1
      have hpl := har k p hp
      have hft : p'.ft = if within u.ps o u.ps.length k then max p.ft f else p.ft := by
        have e1 := fate_endPs u o f k (Or.inr ⟨k, rfl, hkl⟩) (by omega)
        rw [fate_pt (t := { u with ps := endPs u.ps o f }) hp', fate_pt hp] at e1
        exact e1
      have hfa : fate { u with ps := endPs u.ps o f } p.ar = if within u.ps o u.ps.length p.ar then max (fate u p.ar) f else fate u p.ar := by
        refine fate_endPs u o f p.ar ?_ (by omega)
        by_cases hz : p.ar = -1
        · exact Or.inl hz
        · exact Or.inr ⟨p.ar.toNat, by omega, by omega⟩
      have hft2 : p.ft ≤ 2 := (h.wf.ar u hum k p hp).2.2
      refine ⟨by rw [s1, k1, ear]; exact (parN_endPs u o f p.ar).symm, ?_, ?_⟩
      · rw [ear, hft, hfa]
        rcases hf with rfl | rfl
        · rw [(r1 rfl).1]
          have e1 : (if within u.ps o u.ps.length k then max p.ft 1 else p.ft) = 2 ↔ p.ft = 2 := by split <;> omega
          have e2 : (if within u.ps o u.ps.length p.ar then max (fate u p.ar) 1 else fate u p.ar) = 2 ↔ fate u p.ar = 2 := by split <;> omega
          rw [e1, e2]; exact k2
        · rw [(r2 rfl).2]
          have hfl := fate_le (t := u) (fun i p hp => (h.wf.ar u hum i p hp).2.2) p.ar
          have hko : (b.n : Int) = n ↔ k = o := by
            constructor
            · intro e
              rw [e, ht] at hu
              injection hu with hu
              injection hu with _ hu
              omega
            · intro e
              subst e
              rcases hfn with ⟨e, _⟩ | ⟨k9, p9, e9, _, hp9, e8, _⟩
              · omega
              · have : k9 = k := by omega
                subst this
                rcases (fnd_mem hu).2 with ⟨e, _⟩ | ⟨k7, p7, e7, _, hp7, e6, _⟩
                · omega
                · have : k7 = k9 := by omega
                  subst this
                  rw [hp9] at hp7
                  injection hp7 with hp7
                  subst hp7
                  omega
          by_cases hk0 : k = o
          · rw [decide_eq_true (hko.2 hk0)]
            have : within u.ps o u.ps.length k = true := by rw [within_stop _ (by omega)]; simp [hk0]
            rw [this]
            simp; omega
          · rw [decide_eq_false (fun e => hk0 (hko.1 e)), Bool.or_false]
            by_cases hlt : (o : Int) < k
            · rw [within_up har (by omega) hp hlt]
              split
              · constructor
                · intro _; exact Or.inr (by omega)
                · intro _; omega
              · exact k2
            · rw [within_stop _ hlt, within_stop _ (by omega)]
              have n1 : ((k : Int) == (o : Int)) = false := beq_eq_false_iff_ne.2 (by omega)
              have n2 : (p.ar == (o : Int)) = false := beq_eq_false_iff_ne.2 (by omega)
              rw [n1, n2]
              exact k2
      · rcases hf with rfl | rfl
        · rw [(r1 rfl).2, hft]
          simp only [decide_true, Bool.true_and, Bool.or_eq_true]
          by_cases hw : within u.ps o u.ps.length k = true
          · simp [hw]
          · simp [hw]; exact k3
        · rw [(r2 rfl).1, hft]
          split
          · constructor
            · intro _; exact Or.inr (by omega)
            · intro _; omega
          · exact k3
  · rw [if_neg hx]
    refine ⟨fun hi => ?_, fun k p hk hp => ?_⟩
    · obtain ⟨k1, k2, k3, k4⟩ := hok.tx hi
      refine ⟨by rw [s1]; exact k1, by rw [s2]; exact k2, by rw [s3]; exact k3, ?_⟩
      rcases hf with rfl | rfl
      · rw [(r1 rfl).1]; exact k4
      · rw [(r2 rfl).2, k4]
        have : (b.n : Int) ≠ n := fun e => by
          rw [e, ht] at hu
          injection hu with hu
          injection hu with hu
          exact hx (by rw [hu])
        simp [this]
    · obtain ⟨k1, k2, k3⟩ := hok.pt k p hk hp
      rcases hf with rfl | rfl
      · refine ⟨by rw [s1]; exact k1, by rw [(r1 rfl).1]; exact k2, ?_⟩
        rw [(r1 rfl).2]
        simp only [decide_eq_false hx, Bool.false_and, Bool.or_false]
        exact k3
      · refine ⟨by rw [s1]; exact k1, ?_, by rw [(r2 rfl).1]; exact k3⟩
        have : (b.n : Int) ≠ n := fun e => by
          rw [e, ht] at hu
          injection hu with hu
          injection hu with hu
          exact hx (by rw [hu])
        rw [(r2 rfl).2, decide_eq_false this, Bool.or_false]
        exact k2
theorem Rel.new (n : Nat) (h1 : 1 ≤ n) (h2 : n ≤ 2147483648) (hw : Wf ⟨n, [], []⟩) : Rel ⟨n, [], []⟩ [] := by
  have _ := h1
  have _ := h2
  exact ⟨hw, List.Pairwise.nil, fun _ _ => rfl, fun n t i h => by cases h⟩
theorem Rel.begin {m : Mg} {L : List Nm} (h : Rel m L) (hn : m.nx ≤ 2147483647) : Rel m.begin (L ++ [⟨m.nx, 0, 1, 0, false, false⟩]) := by
  have hlt : ∀ (j : Nat) a, L[j]? = some a → a.n < m.nx := fun j a ha => by
    obtain ⟨-, t, i, hf, -⟩ := h.at ha
    have := h.wf.fnd_lt hf
    omega
  have hno : posN L (m.nx : Int) = none := posN_no (fun j a ha e => by have := hlt j a ha; omega)
  refine ⟨h.wf.begin hn, ?_, fun n e => ?_, fun n t i e => ?_⟩
  · rw [List.pairwise_append]
    refine ⟨h.up, by simp, fun a ha b hb => ?_⟩
    simp only [List.mem_singleton] at hb
    subst hb
    obtain ⟨j, hj⟩ := List.getElem?_of_mem ha
    exact hlt j a hj
  · rw [fnd_begin h.wf] at e
    split at e
    · cases e
    · rename_i hne
      rw [posN_snoc, h.no n e]
      simp only []
      rw [if_neg (fun h => hne h.symm)]
  · rw [fnd_begin h.wf] at e
    split at e
    · rename_i he
      injection e with e
      injection e with e1 e2
      subst e1 e2 he
      refine ⟨L.length, ⟨m.nx, 0, 1, 0, false, false⟩, ?_, by simp, rfl, fun _ => ⟨rfl, rfl, rfl, rfl⟩, fun k p hk => by omega⟩
      rw [posN_snoc, hno]
      simp
    · obtain ⟨j, a, f1, f2, f3, f4⟩ := h.yes n t i e
      refine ⟨j, a, by rw [posN_snoc, f1], ?_, f3, f4⟩
      rw [List.getElem?_append_left (List.getElem?_eq_some_iff.1 f2).1]; exact f2
end Go.Proofs.Ytolobljlkdacjaa
/- Part, Forget, the lists: what they are to the document's list. -/
namespace Go.Proofs.Ytolobljlkdacjaa

theorem fate_addP {t : Tx} {p : Pt} {i : Int} (hi : i = -1 ∨ ∃ k : Nat, i = k ∧ k < t.ps.length) : fate (addP p t) i = fate t i := by
  rcases hi with rfl | ⟨k, rfl, hk⟩
  · rw [fate_tx, fate_tx]
  · have hp : t.ps[k]? = some t.ps[k] := List.getElem?_eq_getElem hk
    rw [fate_pt hp]
    exact fate_pt (t := addP p t) (by show (t.ps ++ [p])[k]? = _; rw [List.getElem?_append_left hk]; exact hp)
theorem parN_addP {t : Tx} {p : Pt} {i : Int} (hi : i = -1 ∨ ∃ k : Nat, i = k ∧ k < t.ps.length) : parN (addP p t) i = parN t i := by
  rcases hi with rfl | ⟨k, rfl, hk⟩
  · rfl
  · unfold parN
    rw [if_pos (by omega), if_pos (by omega)]
    show (match (t.ps ++ [p])[(k : Int).toNat]? with | some p => p.x | none => 0) = _
    rw [List.getElem?_append_left (by simpa using hk)]
    cases t.ps[(k : Int).toNat]? <;> rfl
theorem parN_fnd {m : Mg} {n : Int} {t : Tx} {i : Int} (h : fnd m.tx n = some (t, i)) : (parN t i : Int) = n := by
  rcases (fnd_mem h).2 with ⟨rfl, e⟩ | ⟨k, p, rfl, _, hp, e, _⟩
  · exact e
  · unfold parN
    rw [if_pos (by omega)]
    simp [hp, e]
theorem ar_cases {m : Mg} (h : Wf m) {t : Tx} (ht : t ∈ m.tx) {k : Nat} {p : Pt} (hp : t.ps[k]? = some p) : p.ar = -1 ∨ ∃ j : Nat, p.ar = j ∧ j < t.ps.length := by
  have h1 := h.ar t ht k p hp
  have h2 := (List.getElem?_eq_some_iff.1 hp).1
  by_cases hz : p.ar = -1
  · exact Or.inl hz
  · exact Or.inr ⟨p.ar.toNat, by omega, by omega⟩
theorem Rel.lt {m : Mg} {L : List Nm} (h : Rel m L) {j : Nat} {a : Nm} (ha : L[j]? = some a) : 1 ≤ a.n ∧ a.n < m.nx := by
  obtain ⟨-, t, i, hf, -⟩ := h.at ha
  have := h.wf.fnd_lt hf
  omega
theorem Rel.part {m : Mg} {L : List Nm} (h : Rel m L) {n : Int} {t : Tx} {i : Int} (hf : fnd m.tx n = some (t, i)) {jt : Nat} {a : Nm} (hj : posN L (t.x : Int) = some jt) (ha : L[jt]? = some a) (hmay : may t i = true) (hlen : t.ps.length < 64) (hn : m.nx ≤ 2147483647) :
    Rel (m.part t i) (L.set jt { a with had := a.had + 1 } ++ [⟨m.nx, n.toNat, 0, 0, false, false⟩]) := by
  have htm := (fnd_mem hf).1
  have hi := fnd_cases hf
  have hnn : posN L (m.nx : Int) = none := posN_no (fun j a ha e => by have := h.lt ha; omega)
  have hmap := map_set L jt a { a with had := a.had + 1 } ha rfl
  have hroot := h.root (h.wf.fnd_tx htm) hj ha
  have hnew : fnd m.tx (m.nx : Int) = none := by
    cases hq : fnd m.tx (m.nx : Int) with
    | none => rfl
    | some z => obtain ⟨t', i'⟩ := z; have := h.wf.fnd_lt hq; omega
  refine ⟨h.wf.part htm (by rcases hi with e | ⟨k, e, hk⟩ <;> omega) hn hlen, ?_, fun k e => ?_, fun k u i' e => ?_⟩
  · rw [List.pairwise_append]
    refine ⟨?_, by simp, fun x hx y hy => ?_⟩
    · have h1 : (L.map (·.n)).Pairwise (· < ·) := by rw [List.pairwise_map]; exact h.up
      rw [← hmap, List.pairwise_map] at h1
      exact h1
    · simp only [List.mem_singleton] at hy
      subst hy
      obtain ⟨j, hj'⟩ := List.getElem?_of_mem hx
      have hg := map_get hmap j
      rw [hj'] at hg
      cases hb : L[j]? with
      | none => rw [hb] at hg; cases hg
      | some b =>
        rw [hb] at hg
        simp only [Option.map_some, Option.some.injEq] at hg
        have := h.lt hb
        show x.n < m.nx
        omega
  · by_cases hk : k = m.nx
    · subst hk
      rw [fnd_part_new h.wf htm] at e
      cases e
    · rw [fnd_part_old i hk] at e
      rw [posN_snoc, posN_congr hmap]
      cases hq : fnd m.tx k with
      | some z => rw [hq] at e; cases e
      | none =>
        rw [h.no k hq]
        simp only []
        rw [if_neg (fun h => hk h.symm)]
  · by_cases hk : k = m.nx
    · subst hk
      rw [fnd_part_new h.wf htm] at e
      injection e with e
      injection e with e1 e2
      subst e1 e2
      refine ⟨(L.set jt { a with had := a.had + 1 }).length, ⟨m.nx, n.toNat, 0, 0, false, false⟩, ?_, by simp, rfl, fun hh => by omega, fun k p hk hp => ?_⟩
      · rw [posN_snoc, posN_congr hmap, hnn]
        simp
      · have hk' : k = t.ps.length := by omega
        subst hk'
        have hp' : (t.ps ++ [(⟨m.nx, i, 0⟩ : Pt)])[t.ps.length]? = some p := hp
        simp only [List.getElem?_concat_length, Option.some.injEq] at hp'
        subst hp'
        have hft : fate t i = 0 := by
          unfold may at hmay
          simp only [Bool.and_eq_true, decide_eq_true_eq] at hmay
          exact hmay.2
        refine ⟨?_, ?_, ?_⟩
        · show n.toNat = parN (addP ⟨m.nx, i, 0⟩ t) i
          rw [parN_addP hi]
          have := parN_fnd hf
          omega
        · show (0 : Nat) = 2 ↔ _
          rw [show fate (addP ⟨m.nx, i, 0⟩ t) (Pt.mk m.nx i 0).ar = fate t i from fate_addP hi, hft]
          simp
        · show (0 : Nat) ≠ 0 ↔ _
          simp
    · rw [fnd_part_old i hk] at e
      cases hq : fnd m.tx k with
      | none => rw [hq] at e; cases e
      | some z =>
        obtain ⟨u0, i0⟩ := z
        rw [hq] at e
        simp only [Option.map_some, Option.some.injEq, Prod.mk.injEq] at e
        obtain ⟨rfl, rfl⟩ := e
        obtain ⟨j, b, h1, h2, h3, h4⟩ := h.yes k u0 i0 hq
        have hum := (fnd_mem hq).1
        have hg := map_get hmap j
        rw [h2] at hg
        cases hb : (L.set jt { a with had := a.had + 1 })[j]? with
        | none => rw [hb] at hg; cases hg
        | some b' =>
          rw [hb] at hg
          simp only [Option.map_some, Option.some.injEq] at hg
          refine ⟨j, b', by rw [posN_snoc, posN_congr hmap, h1], by rw [List.getElem?_append_left (List.getElem?_eq_some_iff.1 hb).1]; exact hb, by rw [hg]; exact h3, ?_⟩
          have hold : u0.x = t.x → ∀ b9 : Nm, b9.par = b.par → b9.bk = b.bk → b9.rl = b.rl → (i0 = -1 → b9.st = b.st ∧ b9.had = b.had + 1) → NmOk (addP ⟨m.nx, i, 0⟩ u0) i0 b9 := fun hx b9 g1 g2 g3 g4 => by
            have e := h.wf.uniq u0 hum t htm hx
            subst e
            refine ⟨fun hi0 => ?_, fun k9 p9 hk9 hp9 => ?_⟩
            · obtain ⟨k1, k2, k3, k4⟩ := h4.tx hi0
              obtain ⟨k5, k6⟩ := g4 hi0
              refine ⟨by rw [g1]; exact k1, by rw [k5]; exact k2, ?_, by rw [g2]; exact k4⟩
              rw [k6, k3]
              simp [addP]
            · have hl9 : k9 < u0.ps.length := by rcases fnd_cases hq with e | ⟨k8, e, hk8⟩ <;> omega
              have hp8 : u0.ps[k9]? = some p9 := by
                have : (u0.ps ++ [(⟨m.nx, i, 0⟩ : Pt)])[k9]? = some p9 := hp9
                rw [List.getElem?_append_left hl9] at this
                exact this
              obtain ⟨k1, k2, k3⟩ := h4.pt k9 p9 hk9 hp8
              have hac := ar_cases h.wf hum hp8
              refine ⟨by rw [g1, k1, parN_addP hac], ?_, by rw [g3]; exact k3⟩
              rw [g2, fate_addP hac]
              exact k2
          rcases set_get L jt _ j b b' h2 hb with ⟨rfl, rfl⟩ | ⟨hne, rfl⟩
          · rw [ha] at h2
            injection h2 with h2
            subst h2
            have hx : u0.x = t.x := by
              have hbn : (a.n : Int) = t.x := by omega
              have : fnd m.tx k = some (t, -1) := by rw [← h3, hbn]; exact h.wf.fnd_tx htm
              rw [this] at hq
              injection hq with hq
              injection hq with hq
              rw [← hq]
            rw [if_pos hx]
            exact hold hx _ rfl rfl rfl (fun _ => ⟨rfl, rfl⟩)
          · split
            · rename_i hx
              refine hold hx _ rfl rfl rfl (fun hi0 => ?_)
              exfalso
              subst hi0
              have e := h.wf.uniq u0 hum t htm hx
              subst e
              rcases (fnd_mem hq).2 with ⟨_, e⟩ | ⟨_, _, e, _⟩
              · rw [← e, hj] at h1
                injection h1 with h1
                exact hne h1.symm
              · omega
            · exact h4
theorem posN_mem {L : List Nm} (hp : L.Pairwise (fun a b => a.n < b.n)) {a : Nm} (ha : a ∈ L) : ∃ j, posN L (a.n : Int) = some j ∧ L[j]? = some a := by
  obtain ⟨j, hj⟩ := List.getElem?_of_mem ha
  exact ⟨j, posN_is hj rfl (fun i b hi hb e => by have := pw_get hp i j b a hi hb hj; omega), hj⟩
theorem Rel.forget {m : Mg} {L : List Nm} (h : Rel m L) (below : Int) : Rel (m.forget below) (L.filter (fun a => !goneN m below a.n)) := by
  refine ⟨h.wf.forget below, h.up.filter _, fun n e => ?_, fun n t i e => ?_⟩
  · have e' : fnd (m.tx.filter (fun t => !goneT t below)) n = none := e
    rw [fnd_filter h.wf] at e'
    refine posN_no (fun j a ha hn => ?_)
    have hm := List.mem_of_getElem? ha
    obtain ⟨h1, h2⟩ := List.mem_filter.1 hm
    obtain ⟨j', hj'⟩ := List.getElem?_of_mem h1
    obtain ⟨-, t, i, hf, -⟩ := h.at hj'
    unfold goneN at h2
    rw [hf] at h2
    rw [← hn, hf] at e'
    simp only [] at e' h2
    rw [if_pos h2] at e'
    cases e'
  · have e' : fnd (m.tx.filter (fun t => !goneT t below)) n = some (t, i) := e
    rw [fnd_filter h.wf] at e'
    cases hq : fnd m.tx n with
    | none => rw [hq] at e'; cases e'
    | some z =>
      obtain ⟨t0, i0⟩ := z
      rw [hq] at e'
      simp only [] at e'
      split at e'
      · rename_i hg
        injection e' with e'
        injection e' with e1 e2
        subst e1 e2
        obtain ⟨j, a, h1, h2, h3, h4⟩ := h.yes n _ _ hq
        have hm : a ∈ L.filter (fun a => !goneN m below a.n) := List.mem_filter.2 ⟨List.mem_of_getElem? h2, by
          unfold goneN
          rw [h3, hq]
          exact hg⟩
        obtain ⟨j', g1, g2⟩ := posN_mem (h.up.filter _) hm
        exact ⟨j', a, by rw [← h3]; exact g1, g2, h3, h4⟩
      · cases e'
theorem Rel.many {m : Mg} {L : List Nm} (h : Rel m L) (below : Int) : L.length = (L.filter (fun a => !goneN m below a.n)).length + m.many below := by
  have e : (L.filter (fun a => goneN m below a.n)).map (·.n) = (List.range m.nx).filter (goneN m below) := by
    refine rise_ext ?_ ?_ (fun x => ?_)
    · rw [List.pairwise_map]; exact h.up.filter _
    · exact List.pairwise_lt_range.filter _
    · rw [List.mem_map, List.mem_filter]
      constructor
      · rintro ⟨a, ha, rfl⟩
        obtain ⟨h1, h2⟩ := List.mem_filter.1 ha
        obtain ⟨j, hj⟩ := List.getElem?_of_mem h1
        exact ⟨List.mem_range.2 (h.lt hj).2, h2⟩
      · rintro ⟨_, hg⟩
        have hg' := hg
        unfold goneN at hg
        cases hq : fnd m.tx (x : Int) with
        | none => rw [hq] at hg; cases hg
        | some z =>
          obtain ⟨t0, i0⟩ := z
          obtain ⟨j, a, h1, h2, h3, _⟩ := h.yes _ _ _ hq
          have hx : a.n = x := by omega
          exact ⟨a, List.mem_filter.2 ⟨List.mem_of_getElem? h2, by rw [hx]; exact hg'⟩, hx⟩
  have e2 := congrArg List.length e
  rw [List.length_map] at e2
  have e3 : ∀ (l : List Nm) (p : Nm → Bool), l.length = (l.filter (fun a => !p a)).length + (l.filter p).length := by
    intro l p
    induction l with
    | nil => rfl
    | cons x l ih =>
      by_cases hp : p x = true
      · simp [hp]; omega
      · simp [hp]; omega
  unfold Mg.many
  rw [← e2]
  exact e3 L (fun a => goneN m below a.n)
theorem goneT_iff {m : Mg} (h : Wf m) {t : Tx} (ht : t ∈ m.tx) (below : Int) : goneT t below = true ↔ 3 ≤ t.st ∧ (t.x : Int) < below ∧ ∀ p ∈ t.ps, (p.x : Int) < below := by
  unfold goneT
  simp only [Bool.and_eq_true, decide_eq_true_eq]
  refine and_congr_right (fun _ => ?_)
  unfold lastX
  cases hl : t.ps.getLast? with
  | none =>
    have : t.ps = [] := List.getLast?_eq_none_iff.1 hl
    rw [this]; simp
  | some q =>
    have hq : t.ps[t.ps.length - 1]? = some q := by rw [← List.getLast?_eq_getElem?]; exact hl
    have hqm := List.mem_of_getElem? hq
    constructor
    · intro h1
      have h2 := (h.pl t ht q hqm).1
      simp only [] at h1
      refine ⟨by omega, fun p hp => ?_⟩
      obtain ⟨k, hk⟩ := List.getElem?_of_mem hp
      have hkl := (List.getElem?_eq_some_iff.1 hk).1
      rcases Nat.lt_or_ge k (t.ps.length - 1) with hlt | hge
      · have := pw_get (h.pu t ht) k _ p q hlt hk hq; omega
      · have : k = t.ps.length - 1 := by omega
        rw [this, hq] at hk
        injection hk with hk
        rw [← hk]; exact h1
    · intro h1
      exact h1.2 q hqm
theorem within_all {ps : List Pt} (har : ∀ (i : Nat) p, ps[i]? = some p → -1 ≤ p.ar ∧ p.ar < i) : ∀ (n : Nat) (i : Int), -1 ≤ i → i < n → i < ps.length → within ps (-1) ps.length i = true
  | 0, i, h1, h2, _ => by rw [within_stop _ (by omega)]; simp; omega
  | n + 1, i, h1, h2, h3 => by
    by_cases hz : i = -1
    · rw [within_stop _ (by omega)]; simp [hz]
    · obtain ⟨k, rfl⟩ : ∃ k : Nat, i = k := ⟨i.toNat, by omega⟩
      have hp : ps[k]? = some ps[k] := List.getElem?_eq_getElem (by omega)
      have := har k _ hp
      rw [within_up har (by omega) hp (by omega)]
      exact within_all har n _ this.1 (by omega) (by omega)
/-- The parts' list. -/
def partP (m : Mg) (t : Tx) (a : Nm) : Bool := match fnd m.tx (a.n : Int) with
  | some (u, i) => decide (u.x = t.x) && (decide (i ≠ -1) && decide (stE (some (u, i)) ≠ 4))
  | none => false
theorem Rel.parts {m : Mg} {L : List Nm} (h : Rel m L) {t : Tx} (ht : t ∈ m.tx) : (L.filter (partP m t)).map (·.n) = survL t.st t.ps := by
  refine rise_ext ?_ ?_ (fun x => ?_)
  · rw [List.pairwise_map]; exact h.up.filter _
  · unfold survL
    rw [List.pairwise_map]
    exact (h.wf.pu t ht).filter _
  · unfold survL
    rw [List.mem_map, List.mem_map]
    constructor
    · rintro ⟨a, ha, rfl⟩
      obtain ⟨h1, h2⟩ := List.mem_filter.1 ha
      obtain ⟨j, hj⟩ := List.getElem?_of_mem h1
      obtain ⟨-, u, i, hf, -⟩ := h.at hj
      unfold partP at h2
      rw [hf] at h2
      simp only [Bool.and_eq_true, decide_eq_true_eq] at h2
      have e := h.wf.uniq u (fnd_mem hf).1 t ht h2.1
      subst e
      rcases (fnd_mem hf).2 with ⟨e, _⟩ | ⟨k, p, rfl, _, hp, e, _⟩
      · exact absurd e h2.2.1
      · refine ⟨p, List.mem_filter.2 ⟨List.mem_of_getElem? hp, ?_⟩, by omega⟩
        have h3 := h2.2.2
        unfold stE at h3
        simp only [fate_pt hp] at h3
        exact decide_eq_true h3
    · rintro ⟨p, hp, rfl⟩
      obtain ⟨h1, h2⟩ := List.mem_filter.1 hp
      obtain ⟨k, hk⟩ := List.getElem?_of_mem h1
      have hf := h.wf.fnd_pt ht hk
      obtain ⟨j, a, g1, g2, g3, -⟩ := h.yes _ _ _ hf
      refine ⟨a, List.mem_filter.2 ⟨List.mem_of_getElem? g2, ?_⟩, by omega⟩
      unfold partP
      rw [g3, hf]
      simp only [Bool.and_eq_true, decide_eq_true_eq]
      refine ⟨trivial, by omega, ?_⟩
      unfold stE
      simp only [fate_pt hk]
      exact of_decide_eq_true h2
/-- The list of those that are open. -/
def openP (a : Nm) : Bool := decide (a.par = 0) && (decide (a.st = 1) || decide (a.st = 2))
theorem Rel.opens {m : Mg} {L : List Nm} (h : Rel m L) : (L.filter openP).map (·.n) = m.on := by
  rw [h.wf.on]
  refine rise_ext ?_ ?_ (fun x => ?_)
  · rw [List.pairwise_map]; exact h.up.filter _
  · rw [List.pairwise_map]; exact h.wf.up.filter _
  · rw [List.mem_map, List.mem_map]
    constructor
    · rintro ⟨a, ha, rfl⟩
      obtain ⟨h1, h2⟩ := List.mem_filter.1 ha
      obtain ⟨j, hj⟩ := List.getElem?_of_mem h1
      obtain ⟨hp, u, i, hf, -⟩ := h.at hj
      unfold openP at h2
      simp only [Bool.and_eq_true, Bool.or_eq_true, decide_eq_true_eq] at h2
      rcases fnd_cases hf with rfl | ⟨k, rfl, _⟩
      · obtain ⟨-, e1, e2, e3, -⟩ := h.root hf hp hj
        exact ⟨u, List.mem_filter.2 ⟨(fnd_mem hf).1, by simp; omega⟩, e1.symm⟩
      · obtain ⟨_, _, _, e, _⟩ := h.step hf hp hj
        exact absurd h2.1 e
    · rintro ⟨t, ht, rfl⟩
      obtain ⟨h1, h2⟩ := List.mem_filter.1 ht
      have hf := h.wf.fnd_tx h1
      obtain ⟨j, a, g1, g2, g3, -⟩ := h.yes _ _ _ hf
      obtain ⟨-, e1, e2, e3, -⟩ := h.root hf g1 g2
      have hs := h.wf.st t h1
      simp only [decide_eq_true_eq] at h2
      refine ⟨a, List.mem_filter.2 ⟨List.mem_of_getElem? g2, ?_⟩, e1⟩
      unfold openP
      simp only [Bool.and_eq_true, Bool.or_eq_true, decide_eq_true_eq]
      exact ⟨e2, by omega⟩
end Go.Proofs.Ytolobljlkdacjaa
