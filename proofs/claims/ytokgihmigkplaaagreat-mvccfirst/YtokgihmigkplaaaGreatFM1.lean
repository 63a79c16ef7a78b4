import Derived.Test.YtokgihmigkplaaaGreatXForg2
import Derived.Test.YtokgihmigkplaaaGreatXFin2
namespace Go.Proofs.YtokgihmigkplaaaGreat
open Go.RowKit Go Go.Sort Go.Maps
end Go.Proofs.YtokgihmigkplaaaGreat
namespace Go.Proofs.YtokgihmigkplaaaGreat
theorem pw_get {α : Type} {R : α → α → Prop} : ∀ {l : List α}, l.Pairwise R → ∀ (i j : Nat) a b, i < j → l[i]? = some a → l[j]? = some b → R a b
  | [], _, i, j, a, b, _, h, _ => by simp at h
  | x :: l, hp, i, j, a, b, hij, ha, hb => by
    cases i with
    | zero =>
      simp at ha; subst ha
      cases j with
      | zero => omega
      | succ j => exact (List.pairwise_cons.1 hp).1 b (List.mem_of_getElem? (by simpa using hb))
    | succ i =>
      cases j with
      | zero => omega
      | succ j => exact pw_get (List.pairwise_cons.1 hp).2 i j a b (by omega) (by simpa using ha) (by simpa using hb)
theorem Wf.fnd_one {m : Mg} (h : Wf m) {t : Tx} (ht : t ∈ m.tx) {k : Int} (hk : (t.x : Int) = k ∨ ∃ p ∈ t.ps, (p.x : Int) = k) : ∃ i, fnd m.tx k = some (t, i) := by
  cases hf : fnd m.tx k with
  | none =>
    have := fnd_none hf t ht
    rcases hk with e | ⟨p, hp, e⟩
    · exact absurd e this.1
    · exact absurd e (this.2 p hp)
  | some a =>
    obtain ⟨u, i⟩ := a
    obtain ⟨hu, hc⟩ := fnd_mem hf
    have hc' : (u.x : Int) = k ∨ ∃ p ∈ u.ps, (p.x : Int) = k := by
      rcases hc with ⟨_, e⟩ | ⟨j, p, _, _, hp, e, _⟩
      · exact Or.inl e
      · exact Or.inr ⟨p, List.mem_of_getElem? hp, e⟩
    have : t = u := by
      obtain ⟨i1, hi1⟩ := List.getElem?_of_mem ht
      obtain ⟨i2, hi2⟩ := List.getElem?_of_mem hu
      have key : ∀ (j1 j2 : Nat) (a b : Tx), j1 < j2 → m.tx[j1]? = some a → m.tx[j2]? = some b → ((a.x : Int) = k ∨ ∃ p ∈ a.ps, (p.x : Int) = k) → ((b.x : Int) = k ∨ ∃ p ∈ b.ps, (p.x : Int) = k) → False := by
        intro j1 j2 a b hj ha hb hka hkb
        have h1 := pw_get h.up j1 j2 a b hj ha hb
        have h2 := pw_get h.ap j1 j2 a b hj ha hb
        rcases hka with e | ⟨p, hp, e⟩
        · rcases hkb with e2 | ⟨q, hq, e2⟩
          · omega
          · have := (h.pl b (List.mem_of_getElem? hb) q hq).1; omega
        · rcases hkb with e2 | ⟨q, hq, e2⟩
          · have := (h2 p hp).1; omega
          · have := (h2 p hp).2 q hq; omega
      rcases Nat.lt_trichotomy i1 i2 with hl | hl | hl
      · exact (key i1 i2 t u hl hi1 hi2 hk hc').elim
      · subst hl; rw [hi1] at hi2; injection hi2
      · exact (key i2 i1 u t hl hi2 hi1 hc' hk).elim
    subst this
    exact ⟨i, rfl⟩
theorem Wf.fnd_tx {m : Mg} (h : Wf m) {t : Tx} (ht : t ∈ m.tx) : fnd m.tx (t.x : Int) = some (t, -1) := by
  obtain ⟨i, hi⟩ := h.fnd_one ht (Or.inl rfl)
  rcases (fnd_mem hi).2 with ⟨e, _⟩ | ⟨k, p, _, _, _, _, e⟩
  · rw [hi, e]
  · exact absurd rfl e
theorem Wf.fnd_pt {m : Mg} (h : Wf m) {t : Tx} (ht : t ∈ m.tx) {k : Nat} {p : Pt} (hp : t.ps[k]? = some p) : fnd m.tx (p.x : Int) = some (t, (k : Int)) := by
  have hm := List.mem_of_getElem? hp
  obtain ⟨i, hi⟩ := h.fnd_one ht (Or.inr ⟨p, hm, rfl⟩)
  rcases (fnd_mem hi).2 with ⟨_, e⟩ | ⟨j, q, e, _, hq, e2, _⟩
  · have := (h.pl t ht p hm).1; omega
  · have : j = k := by
      rcases Nat.lt_trichotomy j k with hl | hl | hl
      · have := pw_get (h.pu t ht) j k q p hl hq hp; omega
      · exact hl
      · have := pw_get (h.pu t ht) k j p q hl hp hq; omega
    rw [hi, e, this]
theorem Wf.fnd_lt {m : Mg} (h : Wf m) {k : Int} {t : Tx} {i : Int} (hf : fnd m.tx k = some (t, i)) : 1 ≤ k ∧ k < m.nx := by
  obtain ⟨ht, ⟨_, e⟩ | ⟨j, p, _, _, hp, e, _⟩⟩ := fnd_mem hf
  · have := h.lo t ht; omega
  · have := h.pl t ht p (List.mem_of_getElem? hp); have := h.lo t ht; omega
end Go.Proofs.YtokgihmigkplaaaGreat
namespace Go.Proofs.YtokgihmigkplaaaGreat.F
structure Vn where
  wr : Nat
  gone : Bool
  n : Nat
def Vn.val (v : Vn) : Nat := if v.gone then 0 else v.n + 1
structure Wt where
  pt : Int
  key : Nat
  gone : Bool
  n : Nat
structure Pr where
  x : Nat
  par : Int
  live : Bool
  bk : Bool
structure Se where
  op : Bool
  pp : Bool
  x : Nat
  mn : Nat
  mx : Nat
  on : List Nat
  base : List Nat
  wh : Nat
  ps : List Pr
  ws : List Wt
structure Mo where
  l : List Se
  now : List Nat
  wn : List Nat
  n : Nat
def se0 : Se := ⟨false, false, 0, 0, 0, [], [0, 0, 0, 0, 0, 0], 0, [], []⟩
def stdI (s : Se) (i : Int) : Bool := if 0 ≤ i then (match s.ps[i.toNat]? with | some p => !p.bk | none => true) else true
def wrN (s : Se) (i : Int) : Nat := if 0 ≤ i then (match s.ps[i.toNat]? with | some p => p.x | none => 0) else s.x
def own (s : Se) (κ : Nat) : List Wt := s.ws.filter (fun w => stdI s w.pt && decide (w.key = κ))
def vnW (s : Se) (w : Wt) : Vn := ⟨wrN s w.pt, w.gone, w.n⟩
def ownV (s : Se) (κ : Nat) : List Vn := (own s κ).map (vnW s)
def lastV (l : List Vn) : Nat := match l.getLast? with | some v => v.val | none => 0
def seesS (s : Se) (κ : Nat) : Nat := match (ownV s κ).getLast? with | some v => v.val | none => s.base.getD κ 0
def wroteS (s : Se) (κ : Nat) : Bool := !(own s κ).isEmpty
def ptOf (p : Pr) : Pt := ⟨p.x, p.par, if p.bk then 2 else if p.live then 0 else 1⟩
structure SesTx (m : Mg) (s : Se) (t : Tx) : Prop where
  mem : t ∈ m.tx
  x : t.x = s.x
  st : t.st = if s.pp then 2 else 1
  ps : t.ps = s.ps.map ptOf
structure SesOk (m : Mg) (n : Nat) (s : Se) : Prop where
  tx : ∃ t, SesTx m s t
  ws : ∀ w ∈ s.ws, -1 ≤ w.pt ∧ w.pt < s.ps.length
  wh : s.wh ≤ n
def onI (s : Se) : List Int := s.on.map Int.ofNat
def ownO (q : Mo) (o : Option Nat) (κ : Nat) : List Vn := match o with
  | none => []
  | some k => match q.l[k]? with
    | some s => ownV s κ
    | none => []
structure KOk (m : Mg) (q : Mo) (σ : Nat → Nat) (κ : Nat) (c : List Vn) (cm : List (Vn × Nat)) (o : Option Nat) : Prop where
  has : ∀ v ∈ c, ∃ t i, fnd m.tx v.wr = some (t, i)
  eq : c.filter (fun v => m.state v.wr != 4) = cm.map (·.1) ++ ownO q o κ
  com : ∀ p ∈ cm, ∃ t i, fnd m.tx p.1.wr = some (t, i) ∧ stE (some (t, i)) = 3 ∧ σ t.x = p.2
  ow : ∀ (k : Nat), o = some k → ∃ s, q.l[k]? = some s ∧ s.op = true ∧ wroteS s κ = true ∧ q.wn.getD κ 0 ≤ s.wh
  one : ∀ (k : Nat) (s : Se), q.l[k]? = some s → s.op = true → wroteS s κ = true → o = some k
  now : q.now.getD κ 0 = lastV (cm.map (·.1))
  wn : q.wn.getD κ 0 = (match cm.getLast? with | some p => p.2 | none => 0)
  up : cm.Pairwise (fun a b => a.2 ≤ b.2)
  base : ∀ (k : Nat) (s : Se), q.l[k]? = some s → s.op = true → s.base.getD κ 0 = lastV ((cm.filter (fun p => decide (p.2 ≤ s.wh))).map (·.1))
def visT (s : Se) (t : Tx) : Prop := t.x < s.mx ∧ t.x ∉ s.on
structure Inv (m : Mg) (q : Mo) (K : Nat → List Vn) (σ : Nat → Nat) : Prop where
  wf : Wf m
  ln : q.l.length = 5
  mx : ∀ (k : Nat) (s : Se), q.l[k]? = some s → s.op = true → s.mx ≤ m.nx
  ses : ∀ (k : Nat) (s : Se), q.l[k]? = some s → s.op = true → SesOk m q.n s
  ap : ∀ (k k' : Nat) (s s' : Se), q.l[k]? = some s → q.l[k']? = some s' → s.op = true → s'.op = true → k ≠ k' → s.x ≠ s'.x
  com : ∀ t ∈ m.tx, t.st = 3 → 1 ≤ σ t.x ∧ σ t.x ≤ q.n
  vis : ∀ (k : Nat) (s : Se), q.l[k]? = some s → s.op = true → ∀ t ∈ m.tx, (t.st = 3 → (visT s t ↔ σ t.x ≤ s.wh)) ∧ (t.st < 3 → ¬ visT s t)
  key : ∀ κ, κ < 6 → ∃ cm o, KOk m q σ κ (K κ) cm o
theorem stE_eq (t : Tx) (i : Int) : stE (some (t, i)) = if fate t i = 2 then 4 else t.st := rfl
theorem ses_fate {m : Mg} {s : Se} {t : Tx} (h : SesTx m s t) (i : Int) : fate t i = 2 ↔ stdI s i = false := by
  unfold fate stdI
  split
  · rw [h.ps, List.getElem?_map]
    cases s.ps[i.toNat]? with
    | none => simp
    | some p => cases hb : p.bk <;> simp [ptOf, hb] <;> split <;> omega
  · simp
theorem ses_fnd {m : Mg} (hw : Wf m) {s : Se} {t : Tx} (h : SesTx m s t) {i : Int} (h1 : -1 ≤ i) (h2 : i < s.ps.length) : fnd m.tx (wrN s i) = some (t, i) := by
  unfold wrN
  by_cases h0 : 0 ≤ i
  · rw [if_pos h0]
    obtain ⟨j, rfl⟩ : ∃ j : Nat, i = j := ⟨i.toNat, by omega⟩
    have hj : j < s.ps.length := by omega
    simp only [Int.toNat_natCast, List.getElem?_eq_getElem hj]
    have := hw.fnd_pt h.mem (k := j) (p := ptOf s.ps[j]) (by rw [h.ps, List.getElem?_map, List.getElem?_eq_getElem hj]; rfl)
    exact this
  · rw [if_neg h0]
    have e : i = -1 := by omega
    rw [e, ← h.x]
    exact hw.fnd_tx h.mem
theorem ses_state {m : Mg} (hw : Wf m) {s : Se} {t : Tx} (h : SesTx m s t) {i : Int} (h1 : -1 ≤ i) (h2 : i < s.ps.length) : m.state (wrN s i) = if stdI s i then t.st else 4 := by
  unfold Mg.state
  rw [ses_fnd hw h h1 h2, stE_eq]
  have := ses_fate h i
  cases hs : stdI s i with
  | false => rw [if_pos (this.2 hs)]; rfl
  | true => rw [if_neg (fun e => by rw [this.1 e] at hs; cases hs)]; rfl
theorem SesTx.lt3 {m : Mg} {s : Se} {t : Tx} (h : SesTx m s t) : 1 ≤ t.st ∧ t.st < 3 := by
  rw [h.st]; split <;> omega
theorem seen_eq {m : Mg} {q : Mo} {K : Nat → List Vn} {σ : Nat → Nat} (hI : Inv m q K σ) {k : Nat} {s : Se} (hs : q.l[k]? = some s) (ho : s.op = true) {t : Tx} (ht : SesTx m s t) {x i : Int} (hx : fnd m.tx x = some (t, i)) {κ : Nat} {cm : List (Vn × Nat)} {o : Option Nat} (hk : KOk m q σ κ (K κ) cm o) :
    (K κ).filter (fun v => m.sees s.mn s.mx (onI s) x v.wr) = (cm.filter (fun p => decide (p.2 ≤ s.wh))).map (·.1) ++ (if o = some k then ownV s κ else []) := by
  have hst : ∀ v ∈ K κ, m.sees s.mn s.mx (onI s) x v.wr = true → (m.state v.wr != 4) = true := fun v hv e => by
    obtain ⟨u, j, hf⟩ := hk.has v hv
    unfold Mg.sees at e
    unfold Mg.state
    rw [hf] at e ⊢
    simp only at e
    split at e
    · simpa using e
    · simp only [Bool.and_eq_true, decide_eq_true_eq] at e
      rw [e.1]; rfl
  have h1 : (K κ).filter (fun v => m.sees s.mn s.mx (onI s) x v.wr) = ((K κ).filter (fun v => m.state v.wr != 4)).filter (fun v => m.sees s.mn s.mx (onI s) x v.wr) := by
    rw [List.filter_filter]
    refine List.filter_congr (fun v hv => ?_)
    cases e : m.sees s.mn s.mx (onI s) x v.wr with
    | false => rfl
    | true => rw [hst v hv e]; rfl
  rw [h1, hk.eq, List.filter_append]
  congr 1
  · rw [List.filter_map]
    congr 1
    refine List.filter_congr (fun p hp => ?_)
    obtain ⟨u, j, hf, h3, hσ⟩ := hk.com p hp
    show m.sees s.mn s.mx _ x p.1.wr = _
    unfold Mg.sees
    rw [hf, hx]
    have hu3 : u.st = 3 := by
      rw [stE_eq] at h3
      split at h3
      · cases h3
      · exact h3
    have hne : ¬ t.x = u.x := fun e => by
      have := hI.wf.uniq t ht.mem u (fnd_mem hf).1 e
      subst this
      have := ht.lt3
      omega
    have hv := ((hI.vis k s hs ho u (fnd_mem hf).1).1 hu3)
    simp only [sameTx, decide_eq_false hne, h3]
    rw [← hσ]
    have hmem : ((u.x : Int) ∈ onI s) ↔ u.x ∈ s.on := by
      unfold onI
      simp only [List.mem_map]
      constructor
      · rintro ⟨a, ha, e⟩
        have : a = u.x := by injection e
        rw [← this]; exact ha
      · exact fun h => ⟨_, h, rfl⟩
    unfold visT at hv
    by_cases hle : σ u.x ≤ s.wh
    · have := hv.2 hle
      simp [hle, this.1, hmem, this.2]
    · have : ¬ (u.x < s.mx ∧ u.x ∉ s.on) := fun e => hle (hv.1 e)
      simp only [hle, decide_false, Bool.false_eq_true, if_false, decide_true, Bool.true_and]
      by_cases hlt : u.x < s.mx
      · have hin : u.x ∈ s.on := Classical.byContradiction fun e => this ⟨hlt, e⟩
        simp [hmem, hin]
      · simp [hlt]
  · cases o with
    | none => rfl
    | some k' =>
      obtain ⟨s', hs', ho', hwr', _⟩ := hk.ow k' rfl
      have e1 : ownO q (some k') κ = ownV s' κ := by simp only [ownO, hs']
      rw [e1]
      obtain ⟨t', ht'⟩ := (hI.ses k' s' hs' ho').tx
      have hall : ∀ v ∈ ownV s' κ, ∃ j, fnd m.tx v.wr = some (t', j) ∧ stE (some (t', j)) = t'.st := fun v hv => by
        obtain ⟨w, hw, rfl⟩ := List.mem_map.1 hv
        obtain ⟨hw1, hw2⟩ := List.mem_filter.1 hw
        simp only [Bool.and_eq_true, decide_eq_true_eq] at hw2
        have hb := (hI.ses k' s' hs' ho').ws w hw1
        refine ⟨w.pt, ses_fnd hI.wf ht' hb.1 hb.2, ?_⟩
        have := ses_state hI.wf ht' hb.1 hb.2
        rw [hw2.1] at this
        unfold Mg.state at this
        rw [ses_fnd hI.wf ht' hb.1 hb.2] at this
        exact this
      have hl3 := ht'.lt3
      by_cases hkk : k' = k
      · subst hkk
        rw [hs] at hs'
        injection hs' with hs'
        subst hs'
        rw [if_pos rfl]
        refine List.filter_eq_self.2 (fun v hv => ?_)
        obtain ⟨j, hf, h3⟩ := hall v hv
        unfold Mg.sees
        rw [hf, hx]
        have : t.x = t'.x := by rw [ht.x, ht'.x]
        simp only [sameTx, this, decide_true, if_true, h3]
        simp; omega
      · rw [if_neg (fun e => hkk (Option.some.inj e))]
        refine List.filter_eq_nil_iff.2 (fun v hv => ?_)
        obtain ⟨j, hf, h3⟩ := hall v hv
        unfold Mg.sees
        rw [hf, hx]
        have : ¬ t.x = t'.x := by rw [ht.x, ht'.x]; exact fun e => hI.ap k k' s s' hs hs' ho ho' (fun e => hkk e.symm) e
        simp only [sameTx, decide_eq_false this, h3]
        have : ¬ t'.st = 3 := by omega
        simp [this]
theorem seesS_eq {m : Mg} {q : Mo} {σ : Nat → Nat} {κ : Nat} {c : List Vn} {cm : List (Vn × Nat)} {o : Option Nat} (hk : KOk m q σ κ c cm o) {k : Nat} {s : Se} (hs : q.l[k]? = some s) (ho : s.op = true) :
    lastV ((cm.filter (fun p => decide (p.2 ≤ s.wh))).map (·.1) ++ (if o = some k then ownV s κ else [])) = seesS s κ := by
  unfold lastV seesS
  by_cases e : o = some k
  · obtain ⟨s', hs', _, hw, _⟩ := hk.ow k e
    rw [hs] at hs'; injection hs' with hs'; subst hs'
    rw [if_pos e]
    have hne : ownV s κ ≠ [] := by
      unfold wroteS at hw
      unfold ownV
      intro e2
      have := List.map_eq_nil_iff.1 e2
      rw [this] at hw; cases hw
    rw [List.getLast?_append]
    cases h : (ownV s κ).getLast? with
    | none => exact absurd (List.getLast?_eq_none_iff.1 h) hne
    | some v => rfl
  · rw [if_neg e, List.append_nil]
    have hn : own s κ = [] := by
      cases h : own s κ with
      | nil => rfl
      | cons a l =>
        have : wroteS s κ = true := by unfold wroteS; rw [h]; rfl
        exact absurd (hk.one k s hs ho this) e
    have : ownV s κ = [] := by unfold ownV; rw [hn]; rfl
    rw [this]
    show _ = s.base.getD κ 0
    rw [hk.base k s hs ho]
    rfl
end Go.Proofs.YtokgihmigkplaaaGreat.F
