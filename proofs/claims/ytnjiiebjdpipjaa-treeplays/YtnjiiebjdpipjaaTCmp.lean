import Derived.Test.YtnjiiebjdpipjaaProg
import Derived.WalkSpells
import Derived.WalkLawsBesides
import Derived.Deep.DeepMust
import Derived.Outline
import Derived.Deep.QuietTactic
import Derived.BigQuiet
import Derived.Lib.Strings
import Derived.Maps.AppendAt
import Derived.Lib.BufferMore
import Derived.Laws.CopyRow
import Derived.Lib.Bytealg
/- Trees of keys, as plain mathematics: by their height, so that all leaves are on one floor. -/
namespace Go.Proofs.Ytnjiiebjdpipjaa

/-- A node over so many floors: its items; its kids. -/
def Nd (β : Type) : Nat → Type
  | 0 => List β
  | h + 1 => List β × List (Nd β h)
def Nd.its {β : Type} : {h : Nat} → Nd β h → List β
  | 0, t => t
  | _ + 1, t => t.1
/-- Items and what stands between them, one behind the other. -/
def mix {β : Type} : List β → List (List β) → List β
  | _, [] => []
  | [], f :: _ => f
  | i :: is, f :: fs => f ++ i :: mix is fs
/-- All that is in a node and under it, in its order. -/
def Nd.flat {β : Type} : (h : Nat) → Nd β h → List β
  | 0, t => t
  | h + 1, t => mix t.1 (t.2.map (Nd.flat h))
/-- A node as it may be, but for how few items it has. -/
def Nd.ok {β : Type} : (h : Nat) → Nd β h → Prop
  | 0, t => t.its.length ≤ 15
  | h + 1, t => t.its.length ≤ 15 ∧ t.2.length = t.1.length + 1 ∧ ∀ k ∈ t.2, Nd.ok h k ∧ 7 ≤ k.its.length

theorem mix_app {β : Type} (i : β) : ∀ (a b : List β) (fa fb : List (List β)), fa.length = a.length + 1 → mix (a ++ i :: b) (fa ++ fb) = mix a fa ++ i :: mix b fb
  | [], b, [f], fb, _ => rfl
  | [], b, [], fb, h => by simp at h
  | [], b, f :: g :: fa, fb, h => by simp at h
  | x :: a, b, [], fb, h => by simp at h
  | x :: a, b, f :: fa, fb, h => by
    have ih := mix_app i a b fa fb (by simpa using h)
    show f ++ x :: mix (a ++ i :: b) (fa ++ fb) = (f ++ x :: mix a fa) ++ i :: mix b fb
    rw [ih]
    simp
/-- What stands at a place may be told apart. -/
theorem mix_kid {β : Type} : ∀ (a b : List β) (fa : List (List β)) (f : List β) (fb : List (List β)), fa.length = a.length → mix (a ++ b) (fa ++ f :: fb) = mix a (fa ++ [[]]) ++ mix b (f :: fb)
  | [], b, [], f, fb, _ => by cases b <;> rfl
  | [], b, _ :: _, f, fb, h => by simp at h
  | x :: a, b, [], f, fb, h => by simp at h
  | x :: a, b, g :: fa, f, fb, h => by
    have ih := mix_kid a b fa f fb (by simpa using h)
    show g ++ x :: mix (a ++ b) (fa ++ f :: fb) = (g ++ x :: mix a (fa ++ [[]])) ++ mix b (f :: fb)
    rw [ih]
    simp
theorem mix_len {β : Type} : ∀ (a : List β) (fa : List (List β)), fa.length = a.length + 1 → (mix a fa).length = a.length + (fa.map List.length).sum
  | [], [f], _ => by simp [mix]
  | [], [], h => by simp at h
  | [], f :: g :: fa, h => by simp at h
  | x :: a, [], h => by simp at h
  | x :: a, f :: fa, h => by
    have ih := mix_len a fa (by simpa using h)
    show (f ++ x :: mix a fa).length = _
    simp only [List.length_append, List.length_cons, ih, List.map_cons, List.sum_cons]
    omega
theorem sum_ge (c : Nat) : ∀ l : List Nat, (∀ x ∈ l, c ≤ x) → l.length * c ≤ l.sum
  | [], _ => by simp
  | x :: l, h => by
    have ih := sum_ge c l (fun y hy => h y (by simp [hy]))
    have := h x (by simp)
    simp only [List.length_cons, List.sum_cons, Nat.succ_mul]
    omega
theorem sum_le (c : Nat) : ∀ l : List Nat, (∀ x ∈ l, x ≤ c) → l.sum ≤ l.length * c
  | [], _ => by simp
  | x :: l, h => by
    have ih := sum_le c l (fun y hy => h y (by simp [hy]))
    have := h x (by simp)
    simp only [List.length_cons, List.sum_cons, Nat.succ_mul]
    omega
/-- How many items there are under a node with so many of its own. -/
theorem flat_low {β : Type} : ∀ (h : Nat) (t : Nd β h), t.ok → 1 ≤ t.its.length → (t.its.length + 1) * 8 ^ h ≤ (t.flat h).length + 1
  | 0, t, _, _ => by
    show (t.its.length + 1) * 1 ≤ t.its.length + 1
    omega
  | h + 1, t, hok, _ => by
    obtain ⟨_, h2, h3⟩ := hok
    have hl : (t.flat (h + 1)).length = t.1.length + ((t.2.map (Nd.flat h)).map List.length).sum := mix_len t.1 (t.2.map (Nd.flat h)) (by simpa using h2)
    have hs := sum_ge (8 ^ (h + 1) - 1) ((t.2.map (Nd.flat h)).map List.length) (fun x hx => by
      simp only [List.map_map, List.mem_map, Function.comp] at hx
      obtain ⟨k, hk, rfl⟩ := hx
      obtain ⟨k1, k2⟩ := h3 k hk
      have := flat_low h k k1 (by omega)
      have h8 : 8 * 8 ^ h ≤ (k.its.length + 1) * 8 ^ h := Nat.mul_le_mul_right _ (by omega)
      have : 8 ^ (h + 1) = 8 * 8 ^ h := by rw [Nat.pow_succ]; omega
      omega)
    simp only [List.length_map] at hs
    have hp : 1 ≤ 8 ^ (h + 1) := Nat.pow_pos (by omega)
    show (t.1.length + 1) * 8 ^ (h + 1) ≤ (t.flat (h + 1)).length + 1
    rw [hl]
    rw [h2, Nat.mul_sub, Nat.mul_one] at hs
    have hq : t.1.length + 1 ≤ (t.1.length + 1) * 8 ^ (h + 1) := Nat.le_mul_of_pos_right _ (by omega)
    omega
theorem flat_high {β : Type} : ∀ (h : Nat) (t : Nd β h), t.ok → (t.flat h).length + 1 ≤ 16 ^ (h + 1)
  | 0, t, hok => by
    have : t.its.length ≤ 15 := hok
    show t.its.length + 1 ≤ 16
    omega
  | h + 1, t, hok => by
    obtain ⟨h1, h2, h3⟩ := hok
    have hl : (t.flat (h + 1)).length = t.1.length + ((t.2.map (Nd.flat h)).map List.length).sum := mix_len t.1 (t.2.map (Nd.flat h)) (by simpa using h2)
    have hs := sum_le (16 ^ (h + 1) - 1) ((t.2.map (Nd.flat h)).map List.length) (fun x hx => by
      simp only [List.map_map, List.mem_map, Function.comp] at hx
      obtain ⟨k, hk, rfl⟩ := hx
      have := flat_high h k (h3 k hk).1
      omega)
    simp only [List.length_map] at hs
    have h15 : t.1.length ≤ 15 := h1
    have hp : 1 ≤ 16 ^ (h + 1) := Nat.pow_pos (by omega)
    rw [hl]
    rw [h2, Nat.mul_sub, Nat.mul_one] at hs
    have hq : (t.1.length + 1) * 16 ^ (h + 1) ≤ 16 * 16 ^ (h + 1) := Nat.mul_le_mul_right _ (by omega)
    have hr : 16 ^ (h + 1 + 1) = 16 * 16 ^ (h + 1) := by rw [Nat.pow_succ]; omega
    have hq2 : t.1.length + 1 ≤ (t.1.length + 1) * 16 ^ (h + 1) := Nat.le_mul_of_pos_right _ (by omega)
    omega
/-- What stands first may begin sooner. -/
theorem mix_first {β : Type} (x : List β) : ∀ (b : List β) (y : List β) (fb : List (List β)), mix b ((x ++ y) :: fb) = x ++ mix b (y :: fb)
  | [], y, fb => rfl
  | i :: b, y, fb => by
    show (x ++ y) ++ i :: mix b fb = x ++ (y ++ i :: mix b fb)
    simp
theorem mix_last {β : Type} (a : List β) (fa : List (List β)) (f : List β) (h : fa.length = a.length) : mix a (fa ++ [f]) = mix a (fa ++ [[]]) ++ f := by
  have := mix_kid a [] fa f [] h
  simpa [mix] using this
/-- Two that stand beside each other, and the item between them, are as one. -/
theorem mix_pair {β : Type} (a b : List β) (fa : List (List β)) (fl : List β) (m : β) (fr : List β) (fb : List (List β)) (h : fa.length = a.length) :
    mix (a ++ m :: b) (fa ++ fl :: fr :: fb) = mix (a ++ b) (fa ++ (fl ++ m :: fr) :: fb) := by
  have h1 := mix_app m a b (fa ++ [fl]) (fr :: fb) (by simp [h])
  have h2 := mix_kid a b fa (fl ++ m :: fr) fb h
  have h3 := mix_first (fl ++ [m]) b fr fb
  simp only [List.append_assoc, List.cons_append, List.nil_append] at h1 h3
  rw [h1, h2, h3, mix_last a fa fl h]
  simp
/-- Two nodes and an item between them, as one. -/
def Nd.glue {β : Type} : (h : Nat) → Nd β h → β → Nd β h → Nd β h
  | 0, l, m, r => l.its ++ m :: r.its
  | _ + 1, l, m, r => (l.1 ++ m :: r.1, l.2 ++ r.2)
/-- There is one kid more than items. -/
def Nd.even {β : Type} : (h : Nat) → Nd β h → Prop
  | 0, _ => True
  | _ + 1, t => t.2.length = t.1.length + 1
theorem Nd.ok_even {β : Type} : ∀ (h : Nat) (t : Nd β h), t.ok → t.even
  | 0, _, _ => trivial
  | _ + 1, _, h => h.2.1
theorem glue_its {β : Type} : ∀ (h : Nat) (l : Nd β h) (m : β) (r : Nd β h), (Nd.glue h l m r).its = l.its ++ m :: r.its
  | 0, _, _, _ => rfl
  | _ + 1, _, _, _ => rfl
theorem glue_flat {β : Type} : ∀ (h : Nat) (l : Nd β h) (m : β) (r : Nd β h), l.even → (Nd.glue h l m r).flat h = l.flat h ++ m :: r.flat h
  | 0, _, _, _, _ => rfl
  | h + 1, l, m, r, he => by
    show mix (l.1 ++ m :: r.1) ((l.2 ++ r.2).map (Nd.flat h)) = mix l.1 (l.2.map (Nd.flat h)) ++ m :: mix r.1 (r.2.map (Nd.flat h))
    rw [List.map_append]
    exact mix_app m l.1 r.1 _ _ ((List.length_map ..).trans he)
theorem glue_even {β : Type} : ∀ (h : Nat) (l : Nd β h) (m : β) (r : Nd β h), l.even → r.even → (Nd.glue h l m r).even
  | 0, _, _, _, _, _ => trivial
  | h + 1, l, m, r, hl, hr => by
    have h1 : l.2.length = l.1.length + 1 := hl
    have h2 : r.2.length = r.1.length + 1 := hr
    show (l.2 ++ r.2).length = (l.1 ++ m :: r.1).length + 1
    simp only [List.length_append, List.length_cons]
    omega
/-- A kid in the stead of two and the item between them, or the other way: nothing of the order is other. -/
theorem glue_in {β : Type} (h : Nat) (a b : List β) (ka kb : List (Nd β h)) (l : Nd β h) (m : β) (r : Nd β h) (hk : ka.length = a.length) (he : l.even) :
    Nd.flat (h + 1) ((a ++ m :: b, ka ++ l :: r :: kb) : Nd β (h + 1)) = Nd.flat (h + 1) ((a ++ b, ka ++ Nd.glue h l m r :: kb) : Nd β (h + 1)) := by
  show mix (a ++ m :: b) ((ka ++ l :: r :: kb).map (Nd.flat h)) = mix (a ++ b) ((ka ++ Nd.glue h l m r :: kb).map (Nd.flat h))
  simp only [List.map_append, List.map_cons]
  rw [glue_flat h l m r he]
  exact mix_pair a b _ _ m _ _ (by simpa using hk)
/-- The parts of a node on both sides of an item. -/
def Nd.lo {β : Type} : (h : Nat) → Nat → Nd β h → Nd β h
  | 0, i, t => List.take i t
  | _ + 1, i, t => (t.1.take i, t.2.take (i + 1))
def Nd.hi {β : Type} : (h : Nat) → Nat → Nd β h → Nd β h
  | 0, i, t => List.drop (i + 1) t
  | _ + 1, i, t => (t.1.drop (i + 1), t.2.drop (i + 1))
theorem lo_its {β : Type} : ∀ (h i : Nat) (t : Nd β h), (Nd.lo h i t).its = t.its.take i
  | 0, _, _ => rfl
  | _ + 1, _, _ => rfl
theorem hi_its {β : Type} : ∀ (h i : Nat) (t : Nd β h), (Nd.hi h i t).its = t.its.drop (i + 1)
  | 0, _, _ => rfl
  | _ + 1, _, _ => rfl
theorem list_cut {β : Type} (l : List β) (i : Nat) (m : β) (hm : l[i]? = some m) : l.take i ++ m :: l.drop (i + 1) = l := by
  obtain ⟨hi, e⟩ := List.getElem?_eq_some_iff.mp hm
  rw [← e, ← List.drop_eq_getElem_cons hi, List.take_append_drop]
theorem glue_cut {β : Type} : ∀ (h i : Nat) (t : Nd β h) (m : β), t.its[i]? = some m → Nd.glue h (Nd.lo h i t) m (Nd.hi h i t) = t
  | 0, i, t, m, hm => list_cut (Nd.its t) i m hm
  | _ + 1, i, t, m, hm => Prod.ext (list_cut t.1 i m hm) (List.take_append_drop (i + 1) t.2)
theorem lo_even {β : Type} : ∀ (h i : Nat) (t : Nd β h), t.even → i < t.its.length → (Nd.lo h i t).even
  | 0, _, _, _, _ => trivial
  | h + 1, i, t, he, hi => by
    have h1 : t.2.length = t.1.length + 1 := he
    have h2 : i < t.1.length := hi
    show (t.2.take (i + 1)).length = (t.1.take i).length + 1
    simp only [List.length_take]
    omega
theorem hi_even {β : Type} : ∀ (h i : Nat) (t : Nd β h), t.even → i < t.its.length → (Nd.hi h i t).even
  | 0, _, _, _, _ => trivial
  | h + 1, i, t, he, hi => by
    have h1 : t.2.length = t.1.length + 1 := he
    have h2 : i < t.1.length := hi
    show (t.2.drop (i + 1)).length = (t.1.drop (i + 1)).length + 1
    simp only [List.length_drop]
    omega
/-- What is in a kid, between all that is ahead of it and all that is behind it. -/
theorem mix_mid {β : Type} (a b : List β) (fa : List (List β)) (f : List β) (fb : List (List β)) (h : fa.length = a.length) :
    mix (a ++ b) (fa ++ f :: fb) = mix a (fa ++ [[]]) ++ (f ++ mix b ([] :: fb)) := by
  have h3 := mix_first f b [] fb
  rw [List.append_nil] at h3
  rw [mix_kid a b fa f fb h, h3]
theorem kid_mid {β : Type} (h : Nat) (a b : List β) (ka kb : List (Nd β h)) (k : Nd β h) (hk : ka.length = a.length) :
    Nd.flat (h + 1) ((a ++ b, ka ++ k :: kb) : Nd β (h + 1)) = mix a (ka.map (Nd.flat h) ++ [[]]) ++ (k.flat h ++ mix b ([] :: kb.map (Nd.flat h))) := by
  have := mix_mid a b (ka.map (Nd.flat h)) (k.flat h) (kb.map (Nd.flat h)) (by simpa using hk)
  rw [← this]
  show mix (a ++ b) ((ka ++ k :: kb).map (Nd.flat h)) = _
  simp only [List.map_append, List.map_cons]
/-- All that is asked of a node, but for how many items it has itself. -/
def Nd.sub {β : Type} : (h : Nat) → Nd β h → Prop
  | 0, _ => True
  | h + 1, t => t.2.length = t.1.length + 1 ∧ ∀ k ∈ t.2, Nd.ok h k ∧ 7 ≤ k.its.length
theorem ok_iff {β : Type} : ∀ (h : Nat) (t : Nd β h), t.ok ↔ t.its.length ≤ 15 ∧ t.sub
  | 0, _ => ⟨fun h => ⟨h, trivial⟩, fun h => h.1⟩
  | _ + 1, _ => Iff.rfl
theorem sub_even {β : Type} : ∀ (h : Nat) (t : Nd β h), t.sub → t.even
  | 0, _, _ => trivial
  | _ + 1, _, h => h.1
theorem lo_sub {β : Type} : ∀ (h i : Nat) (t : Nd β h), t.sub → i < t.its.length → (Nd.lo h i t).sub
  | 0, _, _, _, _ => trivial
  | h + 1, i, t, hs, hi => ⟨lo_even (h + 1) i t (sub_even (h + 1) t hs) hi, fun k hk => hs.2 k (List.mem_of_mem_take hk)⟩
theorem hi_sub {β : Type} : ∀ (h i : Nat) (t : Nd β h), t.sub → i < t.its.length → (Nd.hi h i t).sub
  | 0, _, _, _, _ => trivial
  | h + 1, i, t, hs, hi => ⟨hi_even (h + 1) i t (sub_even (h + 1) t hs) hi, fun k hk => hs.2 k (List.mem_of_mem_drop hk)⟩
theorem glue_sub {β : Type} : ∀ (h : Nat) (l : Nd β h) (m : β) (r : Nd β h), l.sub → r.sub → (Nd.glue h l m r).sub
  | 0, _, _, _, _, _ => trivial
  | h + 1, l, m, r, hl, hr => ⟨glue_even (h + 1) l m r (sub_even (h + 1) l hl) (sub_even (h + 1) r hr), fun k hk => (List.mem_append.mp hk).elim (hl.2 k) (hr.2 k)⟩
/-- A node with an item too many makes two that may be. -/
theorem cut_ok {β : Type} (h : Nat) (t : Nd β h) (hs : t.sub) (hl : t.its.length = 16) :
    (Nd.lo h 7 t).ok ∧ (Nd.lo h 7 t).its.length = 7 ∧ (Nd.hi h 7 t).ok ∧ (Nd.hi h 7 t).its.length = 8 := by
  have h1 : (Nd.lo h 7 t).its.length = 7 := by rw [lo_its, List.length_take]; omega
  have h2 : (Nd.hi h 7 t).its.length = 8 := by rw [hi_its, List.length_drop]; omega
  exact ⟨(ok_iff h _).mpr ⟨by omega, lo_sub h 7 t hs (by omega)⟩, h1, (ok_iff h _).mpr ⟨by omega, hi_sub h 7 t hs (by omega)⟩, h2⟩
/-- Two that have no item to give make one that may be. -/
theorem join_ok {β : Type} (h : Nat) (l : Nd β h) (m : β) (r : Nd β h) (hl : l.sub) (hr : r.sub) (h1 : l.its.length + r.its.length ≤ 14) (h2 : 6 ≤ l.its.length + r.its.length) :
    (Nd.glue h l m r).ok ∧ 7 ≤ (Nd.glue h l m r).its.length := by
  have h3 : (Nd.glue h l m r).its.length = l.its.length + r.its.length + 1 := by
    rw [glue_its, List.length_append, List.length_cons]
    omega
  exact ⟨(ok_iff h _).mpr ⟨by omega, glue_sub h l m r hl hr⟩, by omega⟩
/-- The same at any item that leaves enough on both its sides: so an item is moved on from a node to the next, as the cut of the two of them at another place. -/
theorem cut_at {β : Type} (h i : Nat) (t : Nd β h) (hs : t.sub) (h1 : 7 ≤ i) (h2 : i ≤ 15) (h3 : i + 8 ≤ t.its.length) (h4 : t.its.length ≤ i + 16) :
    ((Nd.lo h i t).ok ∧ 7 ≤ (Nd.lo h i t).its.length) ∧ (Nd.hi h i t).ok ∧ 7 ≤ (Nd.hi h i t).its.length := by
  have e1 : (Nd.lo h i t).its.length = i := by rw [lo_its, List.length_take]; omega
  have e2 : (Nd.hi h i t).its.length = t.its.length - (i + 1) := by rw [hi_its, List.length_drop]
  exact ⟨⟨(ok_iff h _).mpr ⟨by omega, lo_sub h i t hs (by omega)⟩, by omega⟩, (ok_iff h _).mpr ⟨by omega, hi_sub h i t hs (by omega)⟩, by omega⟩
/-- Two kids and the item between them, cut at another place: nothing of the order is other. -/
theorem shift_in {β : Type} (h i : Nat) (a b : List β) (ka kb : List (Nd β h)) (l : Nd β h) (m : β) (r : Nd β h) (m' : β) (hk : ka.length = a.length) (hl : l.even) (hr : r.even)
    (hm : (Nd.glue h l m r).its[i]? = some m') :
    Nd.flat (h + 1) ((a ++ m' :: b, ka ++ Nd.lo h i (Nd.glue h l m r) :: Nd.hi h i (Nd.glue h l m r) :: kb) : Nd β (h + 1)) = Nd.flat (h + 1) ((a ++ m :: b, ka ++ l :: r :: kb) : Nd β (h + 1)) := by
  have hi := (List.getElem?_eq_some_iff.mp hm).1
  rw [glue_in h a b ka kb _ m' _ hk (lo_even h i _ (glue_even h l m r hl hr) hi), glue_in h a b ka kb l m r hk hl, glue_cut h i _ m' hm]
/-- All that is ahead of a kid is below what the item just ahead of it is below. -/
theorem ahead_all {β : Type} (R : β → β → Prop) (L : β → Prop) (hL : ∀ e e', R e e' → L e' → L e) : ∀ (a : List β) (fa : List (List β)), fa.length = a.length →
    (mix a (fa ++ [[]])).Pairwise R → (∀ e ∈ a, L e) → ∀ e ∈ mix a (fa ++ [[]]), L e
  | [], [], _, _, _, e, he => by simp [mix] at he
  | [], _ :: _, h, _, _, _, _ => by simp at h
  | _ :: _, [], h, _, _, _, _ => by simp at h
  | x :: a, f :: fa, h, hp, ha, e, he => by
    replace hp : (f ++ x :: mix a (fa ++ [[]])).Pairwise R := hp
    replace he : e ∈ f ++ x :: mix a (fa ++ [[]]) := he
    obtain ⟨_, h2, h3⟩ := List.pairwise_append.mp hp
    rcases List.mem_append.mp he with h' | h'
    · exact hL e x (h3 e h' x (by simp)) (ha x (by simp))
    · rcases List.mem_cons.mp h' with rfl | h'
      · exact ha _ (by simp)
      · exact ahead_all R L hL a fa (by simpa using h) (List.pairwise_cons.mp h2).2 (fun y hy => ha y (by simp [hy])) e h'
/-- And all that is behind it is above what the item just behind it is above. -/
theorem behind_all {β : Type} (R : β → β → Prop) (G : β → Prop) (hG : ∀ e e', R e e' → G e → G e') : ∀ (b : List β) (fb : List (List β)),
    (mix b ([] :: fb)).Pairwise R → (∀ e ∈ b, G e) → ∀ e ∈ mix b ([] :: fb), G e
  | [], _, _, _, e, he => by simp [mix] at he
  | y :: b, fb, hp, hb, e, he => by
    replace hp : (y :: mix b fb).Pairwise R := hp
    replace he : e ∈ y :: mix b fb := he
    rcases List.mem_cons.mp he with rfl | h'
    · exact hb _ (by simp)
    · exact hG y e ((List.pairwise_cons.mp hp).1 e h') (hb y (by simp))
/-- Before and behind: an item more, where all ahead of it are below and all behind it are above. -/
def Ins {β : Type} (L G : β → Prop) (it : β) (l l' : List β) : Prop := ∃ x y, (∀ e ∈ x, L e) ∧ (∀ e ∈ y, G e) ∧ l = x ++ y ∧ l' = x ++ it :: y
/-- An item in another one's stead. -/
def Subst {β : Type} (L G : β → Prop) (old it : β) (l l' : List β) : Prop := ∃ x y, (∀ e ∈ x, L e) ∧ (∀ e ∈ y, G e) ∧ l = x ++ old :: y ∧ l' = x ++ it :: y
theorem Ins.around {β : Type} {L G : β → Prop} {it : β} {l l' : List β} (h : Ins L G it l l') (X Y : List β) (hX : ∀ e ∈ X, L e) (hY : ∀ e ∈ Y, G e) : Ins L G it (X ++ (l ++ Y)) (X ++ (l' ++ Y)) := by
  obtain ⟨x, y, h1, h2, rfl, rfl⟩ := h
  exact ⟨X ++ x, y ++ Y, fun e he => (List.mem_append.mp he).elim (hX e) (h1 e), fun e he => (List.mem_append.mp he).elim (h2 e) (hY e), by simp, by simp⟩
theorem Subst.around {β : Type} {L G : β → Prop} {old it : β} {l l' : List β} (h : Subst L G old it l l') (X Y : List β) (hX : ∀ e ∈ X, L e) (hY : ∀ e ∈ Y, G e) : Subst L G old it (X ++ (l ++ Y)) (X ++ (l' ++ Y)) := by
  obtain ⟨x, y, h1, h2, rfl, rfl⟩ := h
  exact ⟨X ++ x, y ++ Y, fun e he => (List.mem_append.mp he).elim (hX e) (h1 e), fun e he => (List.mem_append.mp he).elim (h2 e) (hY e), by simp, by simp⟩
/-- What is done in a kid is done in the whole, if the items ahead of the kid are below and those behind it above. An item taken away is Ins read the other way round. -/
theorem kid_ins {β : Type} (R : β → β → Prop) (L G : β → Prop) (hL : ∀ e e', R e e' → L e' → L e) (hG : ∀ e e', R e e' → G e → G e') (h : Nat) (a b : List β) (ka kb : List (Nd β h)) (k k' : Nd β h)
    (hk : ka.length = a.length) (ha : ∀ e ∈ a, L e) (hb : ∀ e ∈ b, G e) (hp : (Nd.flat (h + 1) ((a ++ b, ka ++ k :: kb) : Nd β (h + 1))).Pairwise R) :
    (∀ it, Ins L G it (k.flat h) (k'.flat h) → Ins L G it (Nd.flat (h + 1) ((a ++ b, ka ++ k :: kb) : Nd β (h + 1))) (Nd.flat (h + 1) ((a ++ b, ka ++ k' :: kb) : Nd β (h + 1))))
    ∧ (∀ it, Ins L G it (k'.flat h) (k.flat h) → Ins L G it (Nd.flat (h + 1) ((a ++ b, ka ++ k' :: kb) : Nd β (h + 1))) (Nd.flat (h + 1) ((a ++ b, ka ++ k :: kb) : Nd β (h + 1))))
    ∧ (∀ o it, Subst L G o it (k.flat h) (k'.flat h) → Subst L G o it (Nd.flat (h + 1) ((a ++ b, ka ++ k :: kb) : Nd β (h + 1))) (Nd.flat (h + 1) ((a ++ b, ka ++ k' :: kb) : Nd β (h + 1)))) := by
  rw [kid_mid h a b ka kb k hk] at hp
  obtain ⟨p1, p2, _⟩ := List.pairwise_append.mp hp
  obtain ⟨_, p3, _⟩ := List.pairwise_append.mp p2
  have hX := ahead_all R L hL a (ka.map (Nd.flat h)) (by simpa using hk) p1 ha
  have hY := behind_all R G hG b (kb.map (Nd.flat h)) p3 hb
  rw [kid_mid h a b ka kb k hk, kid_mid h a b ka kb k' hk]
  exact ⟨fun it hi => hi.around _ _ hX hY, fun it hi => hi.around _ _ hX hY, fun o it hi => hi.around _ _ hX hY⟩
/-- An item of a node that has kids, between all that is ahead of it and all that is behind it. -/
theorem item_mid {β : Type} (h : Nat) (a b : List β) (m : β) (ka kb : List (Nd β h)) (hk : ka.length = a.length + 1) :
    Nd.flat (h + 1) ((a ++ m :: b, ka ++ kb) : Nd β (h + 1)) = mix a (ka.map (Nd.flat h)) ++ m :: mix b (kb.map (Nd.flat h)) := by
  show mix (a ++ m :: b) ((ka ++ kb).map (Nd.flat h)) = _
  rw [List.map_append]
  exact mix_app m a b _ _ (by simpa using hk)
/-- The last of the last kid is the last of all. -/
theorem last_gone {β : Type} (h : Nat) (a : List β) (ka : List (Nd β h)) (k k' : Nd β h) (m : β) (hk : ka.length = a.length) (hm : k.flat h = k'.flat h ++ [m]) :
    Nd.flat (h + 1) ((a, ka ++ [k]) : Nd β (h + 1)) = Nd.flat (h + 1) ((a, ka ++ [k']) : Nd β (h + 1)) ++ [m] := by
  show mix a ((ka ++ [k]).map (Nd.flat h)) = mix a ((ka ++ [k']).map (Nd.flat h)) ++ [m]
  simp only [List.map_append, List.map_cons, List.map_nil]
  rw [mix_last a _ (k.flat h) (by simpa using hk), mix_last a _ (k'.flat h) (by simpa using hk), hm]
  simp
/-- The last of the kid ahead of an item comes in that item's stead: the item is gone, and nothing else. -/
theorem item_gone {β : Type} (h : Nat) (a b : List β) (it m : β) (ka kb : List (Nd β h)) (k k' : Nd β h) (hk : ka.length = a.length) (hm : k.flat h = k'.flat h ++ [m]) :
    ∃ X Y, Nd.flat (h + 1) ((a ++ it :: b, ka ++ k :: kb) : Nd β (h + 1)) = X ++ it :: Y ∧ Nd.flat (h + 1) ((a ++ m :: b, ka ++ k' :: kb) : Nd β (h + 1)) = X ++ Y := by
  have h1 := item_mid h a b it (ka ++ [k]) kb (by simp [hk])
  have h2 := item_mid h a b m (ka ++ [k']) kb (by simp [hk])
  have h3 := last_gone h a ka k k' m hk hm
  simp only [List.append_assoc, List.cons_append, List.nil_append] at h1 h2
  refine ⟨_, _, h1, ?_⟩
  rw [h2]
  replace h3 : mix a ((ka ++ [k]).map (Nd.flat h)) = mix a ((ka ++ [k']).map (Nd.flat h)) ++ [m] := h3
  rw [h3]
  simp
/-- How many are ahead of a kid. -/
theorem ahead_len {β : Type} (a : List β) (fa : List (List β)) (h : fa.length = a.length) : (mix a (fa ++ [[]])).length = a.length + (fa.map List.length).sum := by
  rw [mix_len a (fa ++ [[]]) (by simp [h])]
  simp
/-- An item more leaves all in order. -/
theorem Ins.sorted {β : Type} {R : β → β → Prop} {L G : β → Prop} {it : β} {l l' : List β} (h : Ins L G it l l') (hp : l.Pairwise R) (hL : ∀ e, L e → R e it) (hG : ∀ e, G e → R it e) : l'.Pairwise R := by
  obtain ⟨x, y, h1, h2, rfl, rfl⟩ := h
  obtain ⟨p1, p2, p3⟩ := List.pairwise_append.mp hp
  refine List.pairwise_append.mpr ⟨p1, List.pairwise_cons.mpr ⟨fun e he => hG e (h2 e he), p2⟩, fun e he e' he' => ?_⟩
  rcases List.mem_cons.mp he' with rfl | h'
  · exact hL e (h1 e he)
  · exact p3 e he e' h'
theorem Ins.sorted_back {β : Type} {R : β → β → Prop} {L G : β → Prop} {it : β} {l l' : List β} (h : Ins L G it l l') (hp : l'.Pairwise R) : l.Pairwise R := by
  obtain ⟨x, y, _, _, rfl, rfl⟩ := h
  exact hp.sublist (List.Sublist.append_left (List.sublist_cons_self _ _) x)
theorem Subst.sorted {β : Type} {R : β → β → Prop} {L G : β → Prop} {old it : β} {l l' : List β} (h : Subst L G old it l l') (hp : l.Pairwise R) (hL : ∀ e, L e → R e it) (hG : ∀ e, G e → R it e) : l'.Pairwise R := by
  obtain ⟨x, y, h1, h2, rfl, rfl⟩ := h
  exact Ins.sorted ⟨x, y, h1, h2, rfl, rfl⟩ (hp.sublist (List.Sublist.append_left (List.sublist_cons_self _ _) x)) hL hG
theorem Ins.len {β : Type} {L G : β → Prop} {it : β} {l l' : List β} (h : Ins L G it l l') : l'.length = l.length + 1 := by
  obtain ⟨x, y, _, _, rfl, rfl⟩ := h
  simp only [List.length_append, List.length_cons]
  omega
theorem Subst.len {β : Type} {L G : β → Prop} {old it : β} {l l' : List β} (h : Subst L G old it l l') : l'.length = l.length := by
  obtain ⟨x, y, _, _, rfl, rfl⟩ := h
  simp
end Go.Proofs.Ytnjiiebjdpipjaa
/- What a call may turn: 'Tch S w w'': of the blocks of w none is turned but those in S.  -/
namespace Go.Proofs.Ytnjiiebjdpipjaa
open Go.RowKit

structure Tch (S : Nat → Prop) (w w' : World) : Prop where
  os : w'.os = w.os
  tape : w'.tape = w.tape
  output : w'.output = w.output
  size : w.heap.size ≤ w'.heap.size
  block : ∀ k, k < w.heap.size → ¬ S k → w'.heap[k]? = w.heap[k]?

theorem Tch.refl (S : Nat → Prop) (w : World) : Tch S w w := ⟨rfl, rfl, rfl, Nat.le_refl _, fun _ _ _ => rfl⟩
theorem Tch.trans {S T : Nat → Prop} {a b c : World} (h : Tch S a b) (k : Tch T b c) (hT : ∀ i, i < a.heap.size → T i → S i) : Tch S a c :=
  ⟨k.os.trans h.os, k.tape.trans h.tape, k.output.trans h.output, Nat.le_trans h.size k.size,
    fun i hi hn => (k.block i (Nat.lt_of_lt_of_le hi h.size) (fun ht => hn (hT i hi ht))).trans (h.block i hi hn)⟩
theorem Tch.trans' {S : Nat → Prop} {a b c : World} (h : Tch S a b) (k : Tch S b c) : Tch S a c := h.trans k (fun _ _ h => h)
theorem Tch.mono {S T : Nat → Prop} {a b : World} (h : Tch S a b) (hT : ∀ i, i < a.heap.size → S i → T i) : Tch T a b :=
  ⟨h.os, h.tape, h.output, h.size, fun i hi hn => h.block i hi (fun hs => hn (hT i hi hs))⟩
theorem Tch.drew {S : Nat → Prop} {a b : World} (h : Tch S a b) : Tch S a b.drew := ⟨h.os, h.tape, h.output, h.size, h.block⟩
theorem Tch.drewL {S : Nat → Prop} {a b : World} (h : Tch S a b) : Tch S a.drew b := ⟨h.os, h.tape, h.output, h.size, h.block⟩
theorem Tch.of_drew {S : Nat → Prop} {a b : World} (h : Tch S a.drew b) : Tch S a b := ⟨h.os, h.tape, h.output, h.size, h.block⟩
theorem Tch.drewN {S : Nat → Prop} {a b : World} (h : Tch S a b) (n : Nat) : Tch S a (b.drewN n) := by
  have hb : Below b.heap.size b (b.drewN n) := below_drewN (Below.refl _ _) n
  exact ⟨hb.os.trans h.os, hb.tape.trans h.tape, hb.output.trans h.output, Nat.le_trans h.size hb.size, fun i hi hn => (hb.block i (Nat.lt_of_lt_of_le hi h.size)).trans (h.block i hi hn)⟩
theorem Tch.of_below {S : Nat → Prop} {B : Nat} {a b : World} (h : Below B a b) (hB : a.heap.size ≤ B) : Tch S a b := ⟨h.os, h.tape, h.output, h.size, fun i hi _ => h.block i (by omega)⟩
theorem Tch.below {S : Nat → Prop} {B : Nat} {a b : World} (h : Tch S a b) (hB : B ≤ a.heap.size) (hS : ∀ k, k < B → ¬ S k) : Below B a b :=
  ⟨h.os, h.tape, h.output, h.size, fun i hi => h.block i (by omega) (hS i hi)⟩
theorem Tch.setCell (S : Nat → Prop) (w : World) (p : Addr) (v : Value) (hp : S p.block) : Tch S w (w.setCell p v) :=
  ⟨rfl, rfl, rfl, by simp [World.setCell], fun k _ hn => Below.heap_setCell _ _ _ _ (fun e => hn (e ▸ hp))⟩
theorem Tch.alloc (S : Nat → Prop) (w : World) (o : Obj) : Tch S w (w.alloc o) :=
  ⟨rfl, rfl, rfl, by simp, fun k hk _ => Below.heap_alloc _ _ _ hk⟩
theorem Tch.allocR {S : Nat → Prop} {a b : World} (h : Tch S a b) (o : Obj) : Tch S a (b.alloc o) := h.trans' (Tch.alloc S b o)
theorem Tch.setCellR {S : Nat → Prop} {a b : World} (h : Tch S a b) (p : Addr) (v : Value) (hp : S p.block) : Tch S a (b.setCell p v) := h.trans' (Tch.setCell S b p v hp)
theorem Tch.cell {S : Nat → Prop} {w w' : World} (h : Tch S w w') {p : Addr} (hp : p.block < w.heap.size) (hn : ¬ S p.block) : w'.cell? p = w.cell? p := World.cell?_of_block (w := w) (h.block p.block hp hn)
theorem Tch.frozen {S : Nat → Prop} {w w' : World} (h : Tch S w w') {p : Addr} (hp : p.block < w.heap.size) (hn : ¬ S p.block) : w'.frozen? p = w.frozen? p := World.frozen?_of_block (w := w) (h.block p.block hp hn)

theorem empty_of_size {r : ByteArray} (h : r.size = 0) : r.toList.isEmpty = true := by
  have : r.toList = [] := by
    rw [Lib.toList_data]; exact List.eq_nil_of_length_eq_zero (by simpa using h)
  rw [this]; rfl
theorem nonempty_of_size {r : ByteArray} (h : 0 < r.size) : r.toList.isEmpty = false := by
  rw [Lib.toList_data]
  cases hl : r.data.toList with
  | nil => have : r.data.toList.length = r.size := by simp
           rw [hl] at this; simp at this; omega
  | cons a t => rfl
theorem cell_lt {w : World} {p : Addr} {v : Value} (h : w.cell? p = some v) : p.block < w.heap.size := by
  rcases Nat.lt_or_ge p.block w.heap.size with h1 | h1
  · exact h1
  · simp [World.cell?, Array.getElem?_eq_none h1] at h

end Go.Proofs.Ytnjiiebjdpipjaa
/- Cells, blocks, copies in the world. -/
namespace Go.Proofs.Ytnjiiebjdpipjaa
open Go.RowKit Go

theorem blk_lt {w : World} {b : Nat} {o : Obj} (h : w.heap[b]? = some o) : b < w.heap.size := (Array.getElem?_eq_some_iff.1 h).1
theorem blk_cell {w : World} {b : Nat} {cs : Array Value} {t : TypeId} {fr : Nat × Nat} (h : w.heap[b]? = some (.cells cs t fr)) (i : Nat) : w.cell? ⟨b, i, none⟩ = cs[i]? := by
  simp [World.cell?, h]
theorem blk_frozen {w : World} {b : Nat} {cs : Array Value} {t : TypeId} (h : w.heap[b]? = some (.cells cs t (0, 0))) (i : Nat) : w.frozen? ⟨b, i, none⟩ = false := by
  simp [World.frozen?, h]
theorem blk_set {w : World} {b i : Nat} {cs : Array Value} {t : TypeId} {fr : Nat × Nat} (h : w.heap[b]? = some (.cells cs t fr)) (v : Value) : (w.setCell ⟨b, i, none⟩ v).heap[b]? = some (.cells (cs.setIfInBounds i v) t fr) := by
  have hl := blk_lt h
  simp only [World.setCell]
  rw [Array.getElem?_modify]
  simp [h]
theorem Tch.of_grown {S : Nat → Prop} {w w' : World} {row : Option Nat} (h : w.grownBy w' row) (hS : ∀ g, row = some g → S g) : Tch S w w' :=
  ⟨h.os, h.tape, h.output, h.size, fun k hk hn => h.block k hk (fun e => hn (hS k e.symm))⟩
theorem alloc_new (w : World) (o : Obj) : (w.alloc o).heap[w.heap.size]? = some o := by show (w.heap.push o)[w.heap.size]? = _; simp
theorem row_slice {w : World} {base : Nat} {t : TypeId} {sz n : Nat} {v : Value} {xs : List Value} (h : w.ownsRow base t sz v n xs) : ∃ ao c, v = .slice ao n c := by
  rcases h.2 with ⟨h1, h2⟩ | ⟨g, c, cur, h1, _⟩
  · exact ⟨none, 0, by rw [h1, h2]⟩
  · exact ⟨_, c, h1⟩
theorem own_tch {S : Nat → Prop} {W W' : World} {base sz n : Nat} {t : TypeId} {v : Value} {xs : List Value} (h : W.ownsRow base t sz v n xs) (tc : Tch S W W') (hS : ∀ g, v.ownBlock = some g → ¬ S g) : W'.ownsRow base t sz v n xs := by
  obtain ⟨h1, h2⟩ := h
  refine ⟨h1, ?_⟩
  rcases h2 with h2 | ⟨g, c, cur, hv, hb, hh, hr⟩
  · exact Or.inl h2
  · exact Or.inr ⟨g, c, cur, hv, hb, by rw [tc.block g (blk_lt hh) (hS g (by rw [hv]; rfl))]; exact hh, hr⟩
theorem own_low {W : World} {base base' sz n : Nat} {t : TypeId} {v : Value} {xs : List Value} (h : W.ownsRow base t sz v n xs) (hb : base' ≤ base) : W.ownsRow base' t sz v n xs := by
  obtain ⟨h1, h2⟩ := h
  refine ⟨h1, ?_⟩
  rcases h2 with h2 | ⟨g, c, cur, hv, hb', hr⟩
  · exact Or.inl h2
  · exact Or.inr ⟨g, c, cur, hv, by omega, hr⟩
/-- These cells stand there. -/
def At (w : World) (g o : Nat) (cs : List Value) : Prop := ∀ j u, cs[j]? = some u → w.cell? ⟨g, o + j, none⟩ = some u
theorem At.lt {w : World} {g o : Nat} {cs : List Value} (h : At w g o cs) (hc : cs ≠ []) : g < w.heap.size := by
  cases cs with
  | nil => exact absurd rfl hc
  | cons a l => exact cell_lt (h 0 a rfl)
theorem At.tch {S : Nat → Prop} {w w' : World} {g o : Nat} {cs : List Value} (h : At w g o cs) (t : Tch S w w') (hg : cs ≠ [] → ¬ S g) : At w' g o cs := fun j u hu => by
  have hc : cs ≠ [] := by rintro rfl; simp at hu
  rw [t.cell (p := ⟨g, o + j, none⟩) (h.lt hc) (hg hc)]; exact h j u hu
theorem blk_at {w : World} {g : Nat} {cs : Array Value} {t : TypeId} {fr : Nat × Nat} (h : w.heap[g]? = some (.cells cs t fr)) : At w g 0 cs.toList := fun j u hu => by
  rw [Nat.zero_add, blk_cell h, ← Array.getElem?_toList]; exact hu
/-- A row that has something, opened. -/
theorem own_open {W : World} {base sz n : Nat} {t : TypeId} {v : Value} {xs : List Value} (h : W.ownsRow base t sz v n xs) (hn : 0 < n) : ∃ g cap cur, v = .slice (some ⟨g, 0, none⟩) n cap ∧ base ≤ g ∧ W.heap[g]? = some (.cells cur t (0, 0)) ∧ n ≤ cap ∧ cap ≤ maxLen ∧ cur.size = cap * sz ∧ cur.toList.take (n * sz) = xs := by
  rcases h.2 with ⟨_, h2⟩ | h
  · omega
  · exact h
theorem own_at {W : World} {base sz n : Nat} {t : TypeId} {v : Value} {xs : List Value} (h : W.ownsRow base t sz v n xs) (hn : 0 < n) : ∃ g c, v = .slice (some ⟨g, 0, none⟩) n c ∧ n ≤ c ∧ c ≤ maxLen ∧ g < W.heap.size ∧ At W g 0 xs ∧ ∀ i, W.frozen? ⟨g, i, none⟩ = false := by
  obtain ⟨g, c, cur, hv, hb, hh, hc, hm, hs, ht⟩ := own_open h hn
  refine ⟨g, c, hv, hc, hm, blk_lt hh, fun j u hu => ?_, blk_frozen hh⟩
  rw [Nat.zero_add, blk_cell hh, ← Array.getElem?_toList]
  rw [← ht, List.getElem?_take] at hu
  split at hu
  · exact hu
  · simp at hu
theorem add_plain (b o j : Nat) : (⟨b, o, none⟩ : Addr).add j = ⟨b, o + j, none⟩ := by unfold Addr.add; split <;> simp_all
/-- Copy, at elements of so many cells. -/
theorem run_copy_any {P : Program} (w : World) (dT sT ty elem : TypeId) (sz g o dLen dCap : Nat) (a : Addr) (sLen sCap : Nat) (cur : Array Value) (t : TypeId) (cs : List Value)
    (hu : P.underlying dT = some (.slice elem)) (hs : (P.info? elem).map (·.size) = some sz)
    (hg : w.heap[g]? = some (.cells cur t (0, 0))) (hn : cs.length = Nat.min sLen dLen * sz)
    (hsrc : ∀ j v, cs[j]? = some v → w.cell? (a.add j) = some v) (hfit : o + cs.length ≤ cur.size) (h1 : ∀ v ∈ cs, v.oneCell' = true) :
    (Builtin.copy_ #[dT, sT] ty #[.slice (some ⟨g, o, none⟩) dLen dCap, .slice (some a) sLen sCap]).run P w =
      .ok (goInt (Nat.min sLen dLen)) (w.setRow g (cur.toList.take o ++ cs ++ cur.toList.drop (o + cs.length)).toArray) := by
  have hl := run_loadCells_list (P := P) w a cs hsrc
  have hst := run_storeCells_at P g o t cs 0 cur w hg (by simpa using hfit) h1
  cases hq : P.info? elem with
  | none => simp [hq] at hs
  | some i =>
    have hi : i.size = sz := by simpa [hq] using hs
    simp [Builtin.copy_, run_underlying hu, Builtin.lenOf, Builtin.firstCells, sizeOf, typeInfo, hq, hi, ← hn, hl, hst]
theorem setRow_blk {w : World} {g : Nat} {cur cur' : Array Value} {t : TypeId} {fr : Nat × Nat} (h : w.heap[g]? = some (.cells cur t fr)) : (w.setRow g cur').heap[g]? = some (.cells cur' t fr) := by
  simp [World.setRow, Array.getElem?_modify, h]
theorem setRow_tch (w : World) (g : Nat) (cur : Array Value) : Tch (fun i => i = g) w (w.setRow g cur) := ⟨rfl, rfl, rfl, by simp [World.setRow], fun k _ hk => setRow_other w g k _ hk⟩
theorem set_blk {g : Nat} {t : TypeId} : ∀ (vs : List Value) (o : Nat) (W : World) (cur : Array Value), W.heap[g]? = some (.cells cur t (0, 0)) → o + vs.length ≤ cur.size → (W.setCells g o vs).heap[g]? = some (.cells (cur.toList.take o ++ vs ++ cur.toList.drop (o + vs.length)).toArray t (0, 0))
  | [], o, W, cur, h, hs => by
    have e : (cur.toList.take o ++ [] ++ cur.toList.drop (o + ([] : List Value).length)).toArray = cur := by simp
    rw [e]; exact h
  | v :: vs, o, W, cur, h, hs => by
    simp only [List.length_cons] at hs
    have h2 := set_blk vs (o + 1) (W.setCell ⟨g, o, none⟩ v) (cur.setIfInBounds o v) (blk_set h v) (by simp; omega)
    have ho : o < cur.toList.length := by simp; omega
    have e : (cur.setIfInBounds o v).toList.take (o + 1) ++ vs ++ (cur.setIfInBounds o v).toList.drop (o + 1 + vs.length) = cur.toList.take o ++ (v :: vs) ++ cur.toList.drop (o + (v :: vs).length) := by
      rw [Array.toList_setIfInBounds, List.drop_set_of_lt (by omega), List.take_set, List.take_succ_eq_append_getElem ho, List.set_append_right _ _ (by simp; omega)]
      have e3 : o - (cur.toList.take o).length = 0 := by simp; omega
      rw [e3]
      simp [Nat.add_assoc, Nat.add_comm 1]
    rw [e] at h2
    exact h2
theorem tch_cells (g : Nat) : ∀ (vs : List Value) (o : Nat) (W : World), Tch (fun i => i = g) W (W.setCells g o vs)
  | [], _, _ => Tch.refl _ _
  | v :: vs, o, W => (Tch.setCell (fun i => i = g) W ⟨g, o, none⟩ v rfl).trans' (tch_cells g vs (o + 1) _)
/-- copy as an operation whose run is known. -/
theorem wp_copy_run {P : Program} (w : World) {o : Oper} {a : Act} {K : Act → World → Prop} {Q : Exit → Act → World → Prop} (d s : Operand) (t t' : TypeId)
    (ho : o.op = .call { callee := .builtin .copy, args := #[d, s], argTypes := #[t, t'] }) (v u : Value) (hd : a.eval d = v) (hs : a.eval s = u) {v' : Value} {w' : World}
    (hr : (Builtin.copy_ #[t, t'] o.type #[v, u]).run P w = .ok v' w') (h : K (a.put o.dst v') w') : o.wp P a w K Q := by
  unfold Oper.wp execOp
  simp only [ho, resolve, invoke, builtin, Sem.run_bind, Sem.run_pure, Result.andThen_ok, List.map_toArray, List.map_cons, List.map_nil, hd, hs, hr]
  exact h
theorem wpList_copy_run {P : Program} (w : World) {ops : Array Oper} {rest : List Oper} {o : Oper} {a : Act} {Q : Exit → Act → World → Prop} (hgd : o.guard = none) (d s : Operand) (t t' : TypeId)
    (ho : o.op = .call { callee := .builtin .copy, args := #[d, s], argTypes := #[t, t'] }) (v u : Value) (hd : a.eval d = v) (hs : a.eval s = u) {v' : Value} {w' : World}
    (hr : (Builtin.copy_ #[t, t'] o.type #[v, u]).run P w = .ok v' w') (h : wpList P ops Q rest (a.put o.dst v') w') : wpList P ops Q (o :: rest) a w :=
  wpList_plain hgd fun _ hK => wp_copy_run w d s t t' ho v u hd hs hr (hK _ _ h)
theorem step_copy_run {P : Program} {ops : Array Oper} {o : Oper} {a : Act} {w : World} {K : Act → World → Prop} {Q : Exit → Act → World → Prop} {E : Prop}
    (hg : o.guard = none) (d x : Operand) (dT sT : TypeId) (hop : o.op = Op.call { callee := Callee.builtin Builtin.copy, args := #[d, x], argTypes := #[dT, sT] })
    (v u : Value) (hd : a.eval d = v) (hx : a.eval x = u) {v' : Value} {w' : World} (hr : (Builtin.copy_ #[dT, sT] o.type #[v, u]).run P w = .ok v' w') (hK : K (a.put o.dst v') w') :
    if Region.wanted o (yielded ops a.tmps) = true then Oper.wp P o a w K Q else E := by
  have hw : Region.wanted o (yielded ops a.tmps) = true := by simp [Region.wanted, hg]
  rw [if_pos hw]
  unfold Oper.wp
  simp [execOp, hop, resolve, invoke, builtin, hd, hx, hr, Result.andThen]
  exact hK
theorem info_item : (Try.prog.info? 74).map (fun i => (i.zero, i.size, i.bytes)) = some (some (.agg #[.string ⟨#[]⟩, .int .i64 0]), 2, 24) := by kernel_rfl
theorem info_kid : (Try.prog.info? 62).map (fun i => (i.zero, i.size, i.bytes)) = some (some (.pointer none), 1, 8) := by kernel_rfl
theorem info_item2 : (Try.prog.info? 74).map (·.size) = some 2 := by kernel_rfl
theorem info_kid1 : (Try.prog.info? 62).map (·.size) = some 1 := by kernel_rfl
end Go.Proofs.Ytnjiiebjdpipjaa
/- The order of keys; find. -/
namespace Go.Proofs.Ytnjiiebjdpipjaa
open Go.RowKit Go

set_option maxRecDepth 100000 in
theorem cmpstr0_any (a b : ByteArray) (w : World) : Calls Try.prog 91 #[.string a, .string b] w fun x w' => x = .returned (.int .i64 (Lib.compareBytes a.data.toList b.data.toList)) ∧ w' = w := by
  go_enter Try.func91, Try.ntmps91
  go_wp2
  rw [run_callFunc_extern Try.func106 (by kernel_rfl) (by kernel_rfl) (by kernel_rfl) (e := Extern.BytealgCompare.compare) (by kernel_rfl), Lib.run_compareString]
  simp only [Result.andThen]
  rw [Oper.upon_value]
  go_wp2
  go_ret
  exact ⟨rfl, rfl⟩
theorem cmpstr_any (a b : ByteArray) (w : World) : Calls Try.prog 65 #[.string a, .string b] w fun x w' => x = .returned (.int .i64 (Lib.compareBytes a.data.toList b.data.toList)) ∧ w' = w := by
  go_enter Try.func65, Try.ntmps65
  go_wp2_with (go_at_call 91; refine (cmpstr0_any _ _ _).mono ?_; rintro x w1 ⟨rfl, rfl⟩)
  go_ret
  exact ⟨rfl, rfl⟩
end Go.Proofs.Ytnjiiebjdpipjaa
