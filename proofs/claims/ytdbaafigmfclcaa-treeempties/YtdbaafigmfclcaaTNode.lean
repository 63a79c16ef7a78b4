import Derived.Test.YtdbaafigmfclcaaTFind
/- Nodes in the world. -/
namespace Go.Proofs.Ytdbaafigmfclcaa
open Go.RowKit Go

abbrev pv (q : Nat) : Value := .pointer (some ⟨q, 0, none⟩)
/-- The cells of kids. -/
def pcl (qs : List Nat) : List Value := qs.map pv
theorem pcl_len (qs : List Nat) : (pcl qs).length = qs.length * 1 := by simp [pcl]
theorem pcl_one (qs : List Nat) : ∀ u ∈ pcl qs, u.oneCell' = true := fun u hu => by
  unfold pcl at hu
  rw [List.mem_map] at hu
  obtain ⟨q, _, rfl⟩ := hu
  rfl
theorem pcl_app (a b : List Nat) : pcl (a ++ b) = pcl a ++ pcl b := by simp [pcl]
theorem pcl_take (a : List Nat) (k : Nat) : (pcl a).take (k * 1) = pcl (a.take k) := by simp [pcl, List.map_take]
theorem pcl_drop (a : List Nat) (k : Nat) : (pcl a).drop (k * 1) = pcl (a.drop k) := by simp [pcl, List.map_drop]
theorem pcl_get (qs : List Nat) (k : Nat) (hk : k < qs.length) : (pcl qs)[k]? = some (pv qs[k]) := by simp [pcl, hk]
/-- The block of a row, if there is one. -/
def bl (v : Value) : List Nat := v.ownBlock.toList
/-- A node and its two rows. -/
structure FN (w : World) (p : Nat) (iv kv : Value) (l : List It) (qs : List Nat) (s : Int) : Prop where
  nd : ND w p iv kv s
  its : w.ownsRow 0 74 2 iv l.length (icl l)
  kids : w.ownsRow 0 62 1 kv qs.length (pcl qs)
/-- Its blocks. -/
def fb (p : Nat) (iv kv : Value) : List Nat := p :: (bl iv ++ bl kv)
theorem mem_bl {v : Value} {g : Nat} : g ∈ bl v ↔ v.ownBlock = some g := by
  unfold bl; cases h : v.ownBlock with
  | none => simp
  | some x => simp [eq_comm]
theorem FN.tch {S : Nat → Prop} {w w' : World} {p : Nat} {iv kv : Value} {l : List It} {qs : List Nat} {s : Int} (h : FN w p iv kv l qs s) (t : Tch S w w') (hS : ∀ b ∈ fb p iv kv, ¬ S b) : FN w' p iv kv l qs s :=
  ⟨h.nd.tch t (hS p (by simp [fb])), own_tch h.its t (fun g e => hS g (by simp [fb, mem_bl.2 e])), own_tch h.kids t (fun g e => hS g (by simp [fb, mem_bl.2 e]))⟩
theorem FN.lt {w : World} {p : Nat} {iv kv : Value} {l : List It} {qs : List Nat} {s : Int} (h : FN w p iv kv l qs s) : ∀ b ∈ fb p iv kv, b < w.heap.size := fun b hb => by
  unfold fb at hb
  simp only [List.mem_cons, List.mem_append] at hb
  rcases hb with rfl | hb | hb
  · exact blk_lt h.nd
  · exact (h.its.lt b (mem_bl.1 hb)).2
  · exact (h.kids.lt b (mem_bl.1 hb)).2
def KidsOf {h : Nat} (P : Nat → Nd It h → List Nat → Prop) (ts : List (Nd It h)) (qs FF : List Nat) : Prop := ∃ ks : List (Nat × Nd It h × List Nat), qs = ks.map (·.1) ∧ ts = ks.map (·.2.1) ∧ FF = ks.flatMap (·.2.2) ∧ ∀ k ∈ ks, P k.1 k.2.1 k.2.2
/-- A node of so many floors in the world, with all that is under it; its blocks. -/
def NW : (h : Nat) → World → Nat → Nd It h → List Nat → Prop
  | 0, w, p, t, F => ∃ iv kv, FN w p iv kv t.its [] (Nd.flat 0 t).length ∧ F = fb p iv kv ++ []
  | h + 1, w, p, t, F => ∃ iv kv qs FF, FN w p iv kv t.its qs (Nd.flat (h + 1) t).length ∧ KidsOf (NW h w) t.2 qs FF ∧ F = fb p iv kv ++ FF
def Kids : (h : Nat) → World → Nd It h → List Nat → List Nat → Prop
  | 0, _, _, qs, FF => qs = [] ∧ FF = []
  | h + 1, w, t, qs, FF => KidsOf (NW h w) t.2 qs FF
theorem NW_iff {h : Nat} {w : World} {p : Nat} {t : Nd It h} {F : List Nat} : NW h w p t F ↔ ∃ iv kv qs FF, FN w p iv kv t.its qs (Nd.flat h t).length ∧ Kids h w t qs FF ∧ F = fb p iv kv ++ FF := by
  cases h with
  | zero =>
    constructor
    · rintro ⟨iv, kv, h1, h2⟩; exact ⟨iv, kv, [], [], h1, ⟨rfl, rfl⟩, h2⟩
    · rintro ⟨iv, kv, qs, FF, h1, ⟨rfl, rfl⟩, h2⟩; exact ⟨iv, kv, h1, h2⟩
  | succ h => exact Iff.rfl
theorem NW.tch : ∀ {h : Nat} {S : Nat → Prop} {w w' : World} {p : Nat} {t : Nd It h} {F : List Nat}, NW h w p t F → Tch S w w' → (∀ b ∈ F, ¬ S b) → NW h w' p t F
  | 0, S, w, w', p, t, F, ⟨iv, kv, h1, h2⟩, tc, hS => ⟨iv, kv, h1.tch tc (fun b hb => hS b (by rw [h2]; simp [hb])), h2⟩
  | h + 1, S, w, w', p, t, F, ⟨iv, kv, qs, FF, h1, ⟨ks, e1, e2, e3, h3⟩, h2⟩, tc, hS => ⟨iv, kv, qs, FF, h1.tch tc (fun b hb => hS b (by rw [h2]; simp [hb])), ⟨ks, e1, e2, e3, fun k hk => (h3 k hk).tch tc (fun b hb => hS b (by rw [h2, e3]; simp only [List.mem_append, List.mem_flatMap]; exact Or.inr ⟨k, hk, hb⟩))⟩, h2⟩
theorem Kids.tch {h : Nat} {S : Nat → Prop} {w w' : World} {t : Nd It h} {qs FF : List Nat} (hk : Kids h w t qs FF) (tc : Tch S w w') (hS : ∀ b ∈ FF, ¬ S b) : Kids h w' t qs FF := by
  cases h with
  | zero => exact hk
  | succ h =>
    obtain ⟨ks, e1, e2, e3, h3⟩ := hk
    exact ⟨ks, e1, e2, e3, fun k hk => (h3 k hk).tch tc (fun b hb => hS b (by rw [e3]; simp only [List.mem_flatMap]; exact ⟨k, hk, hb⟩))⟩
theorem NW.lt : ∀ {h : Nat} {w : World} {p : Nat} {t : Nd It h} {F : List Nat}, NW h w p t F → ∀ b ∈ F, b < w.heap.size
  | 0, w, p, t, F, ⟨iv, kv, h1, h2⟩, b, hb => h1.lt b (by rw [h2] at hb; simpa using hb)
  | h + 1, w, p, t, F, ⟨iv, kv, qs, FF, h1, ⟨ks, e1, e2, e3, h3⟩, h2⟩, b, hb => by
    rw [h2, e3] at hb
    rcases List.mem_append.1 hb with hb | hb
    · exact h1.lt b hb
    · obtain ⟨k, hk, hb⟩ := List.mem_flatMap.1 hb
      exact (h3 k hk).lt b hb
theorem Kids.lt {h : Nat} {w : World} {t : Nd It h} {qs FF : List Nat} (hk : Kids h w t qs FF) : ∀ b ∈ FF, b < w.heap.size := fun b hb => by
  cases h with
  | zero => rw [hk.2] at hb; simp at hb
  | succ h =>
    obtain ⟨ks, e1, e2, e3, h3⟩ := hk
    rw [e3] at hb
    obtain ⟨k, hk, hb⟩ := List.mem_flatMap.1 hb
    exact (h3 k hk).lt b hb
theorem NW.mem {h : Nat} {w : World} {p : Nat} {t : Nd It h} {F : List Nat} (hn : NW h w p t F) : p ∈ F := by
  obtain ⟨iv, kv, qs, FF, _, _, rfl⟩ := NW_iff.1 hn
  simp [fb]
theorem Kids.mem {h : Nat} {w : World} {t : Nd It h} {qs FF : List Nat} (hk : Kids h w t qs FF) : ∀ q ∈ qs, q ∈ FF := fun q hq => by
  cases h with
  | zero => rw [hk.1] at hq; simp at hq
  | succ h =>
    obtain ⟨ks, rfl, e2, rfl, h3⟩ := hk
    obtain ⟨k, hk, rfl⟩ := List.mem_map.1 hq
    exact List.mem_flatMap.2 ⟨k, hk, (h3 k hk).mem⟩
theorem Kids.len {h : Nat} {w : World} {t : Nd It h} {qs FF : List Nat} (hk : Kids h w t qs FF) (he : t.even) : qs = [] ∨ qs.length = t.its.length + 1 := by
  cases h with
  | zero => exact Or.inl hk.1
  | succ h =>
    obtain ⟨ks, rfl, e2, rfl, h3⟩ := hk
    have : t.2.length = t.1.length + 1 := he
    rw [e2, List.length_map] at this
    exact Or.inr (by rw [List.length_map]; exact this)
/-- What a node's third cell says. -/
def zsz (w : World) (q : Nat) : Int := match w.cell? ⟨q, 2, none⟩ with | some (.int .i64 n) => n | _ => 0
def zsum (w : World) (qs : List Nat) : Int := (qs.map (zsz w)).sum
theorem NW.size {h : Nat} {w : World} {p : Nat} {t : Nd It h} {F : List Nat} (hn : NW h w p t F) : w.cell? ⟨p, 2, none⟩ = some (.int .i64 (Nd.flat h t).length) ∧ zsz w p = (Nd.flat h t).length := by
  obtain ⟨iv, kv, qs, FF, h1, _, _⟩ := NW_iff.1 hn
  have := h1.nd.cells.2.2.1
  exact ⟨this, by unfold zsz; rw [this]⟩
theorem sumI (ks : List Nat) : (((ks.sum : Nat)) : Int) = (ks.map (fun n : Nat => (n : Int))).sum := by
  induction ks with
  | nil => rfl
  | cons a l ih => simp only [List.sum_cons, List.map_cons, ← ih]; omega
theorem Kids.size {h : Nat} {w : World} {t : Nd It h} {qs FF : List Nat} (hk : Kids h w t qs FF) (he : t.even) : (t.its.length : Int) + zsum w qs = (Nd.flat h t).length := by
  cases h with
  | zero => rw [hk.1]; show (t.its.length : Int) + 0 = t.its.length; omega
  | succ h =>
    obtain ⟨ks, rfl, e2, rfl, h3⟩ := hk
    have hl : (t.flat (h + 1)).length = t.1.length + ((t.2.map (Nd.flat h)).map List.length).sum := mix_len t.1 (t.2.map (Nd.flat h)) (by rw [List.length_map]; exact he)
    rw [hl]
    have e : zsum w (ks.map (·.1)) = (((t.2.map (Nd.flat h)).map List.length).sum : Nat) := by
      rw [sumI, e2]
      unfold zsum
      simp only [List.map_map]
      congr 1
      exact List.map_congr_left (fun k hk => (h3 k hk).size.2)
    rw [e]
    show (t.1.length : Int) + _ = _
    omega
theorem Kids.cell {h : Nat} {w : World} {t : Nd It h} {qs FF : List Nat} (hk : Kids h w t qs FF) : ∀ q ∈ qs, w.cell? ⟨q, 2, none⟩ = some (.int .i64 (zsz w q)) ∧ 0 ≤ zsz w q := fun q hq => by
  cases h with
  | zero => rw [hk.1] at hq; simp at hq
  | succ h =>
    obtain ⟨ks, rfl, e2, rfl, h3⟩ := hk
    obtain ⟨k, hk, rfl⟩ := List.mem_map.1 hq
    have := (h3 k hk).size
    rw [this.2]
    exact ⟨this.1, by omega⟩
theorem Kids.cut {h : Nat} {w : World} {t : Nd It h} {qs FF : List Nat} (hk : Kids h w t qs FF) (i : Nat) : ∃ F1 F2, FF = F1 ++ F2 ∧ Kids h w (Nd.lo h i t) (qs.take (i + 1)) F1 ∧ Kids h w (Nd.hi h i t) (qs.drop (i + 1)) F2 := by
  cases h with
  | zero => obtain ⟨rfl, rfl⟩ := hk; exact ⟨[], [], rfl, ⟨rfl, rfl⟩, ⟨rfl, rfl⟩⟩
  | succ h =>
    obtain ⟨ks, rfl, e2, rfl, h3⟩ := hk
    refine ⟨(ks.take (i + 1)).flatMap (·.2.2), (ks.drop (i + 1)).flatMap (·.2.2), by rw [← List.flatMap_append, List.take_append_drop], ⟨ks.take (i + 1), by rw [List.map_take], ?_, rfl, fun k hk => h3 k (List.mem_of_mem_take hk)⟩, ⟨ks.drop (i + 1), by rw [List.map_drop], ?_, rfl, fun k hk => h3 k (List.mem_of_mem_drop hk)⟩⟩
    · show t.2.take (i + 1) = _
      rw [e2, List.map_take]
    · show t.2.drop (i + 1) = _
      rw [e2, List.map_drop]
theorem Kids.glue {h : Nat} {w : World} {l r : Nd It h} {ql qr Fl Fr : List Nat} (hl : Kids h w l ql Fl) (hr : Kids h w r qr Fr) (m : It) : Kids h w (Nd.glue h l m r) (ql ++ qr) (Fl ++ Fr) := by
  cases h with
  | zero => obtain ⟨rfl, rfl⟩ := hl; obtain ⟨rfl, rfl⟩ := hr; exact ⟨rfl, rfl⟩
  | succ h =>
    obtain ⟨ks, rfl, e2, rfl, h3⟩ := hl
    obtain ⟨ks', rfl, e2', rfl, h3'⟩ := hr
    refine ⟨ks ++ ks', by simp, ?_, by simp, fun k hk => (List.mem_append.1 hk).elim (h3 k) (h3' k)⟩
    show l.2 ++ r.2 = _
    rw [e2, e2', List.map_append]
/-- No block twice. -/
def Nod (F : List Nat) : Prop := ∀ b, F.count b ≤ 1
/-- Blocks that come in other ones' stead: old ones as before, new ones once. -/
def Fits (n : Nat) (F F' : List Nat) : Prop := ∀ b, (b < n → F'.count b ≤ F.count b) ∧ (n ≤ b → F'.count b ≤ 1)
theorem Fits.refl {n : Nat} {F : List Nat} (h : Nod F) : Fits n F F := fun b => ⟨fun _ => Nat.le_refl _, fun _ => h b⟩
theorem Fits.nod {n : Nat} {F F' : List Nat} (h : Fits n F F') (hF : Nod F) : Nod F' := fun b => by
  rcases Nat.lt_or_ge b n with hb | hb
  · exact Nat.le_trans ((h b).1 hb) (hF b)
  · exact (h b).2 hb
theorem Fits.trans {n m : Nat} {F F' F'' : List Nat} (h : Fits n F F') (h' : Fits m F' F'') (hnm : n ≤ m) : Fits n F F'' := fun b => by
  have h1 := h b
  have h2 := h' b
  constructor
  · intro hb; have := h1.1 hb; have := h2.1 (by omega); omega
  · intro hb
    rcases Nat.lt_or_ge b m with hm | hm
    · have := h1.2 hb; have := h2.1 hm; omega
    · exact h2.2 hm
theorem not_mem_of_count {F : List Nat} {b : Nat} (h : F.count b = 0) : b ∉ F := List.count_eq_zero.1 h
theorem Fits.old {n : Nat} {F F' : List Nat} (h : Fits n F F') {b : Nat} (hb : b ∈ F') : b ∈ F ∨ n ≤ b := by
  rcases Nat.lt_or_ge b n with hl | hl
  · have h1 := (h b).1 hl
    have h2 := List.count_pos_iff.2 hb
    exact Or.inl (List.count_pos_iff.1 (by omega))
  · exact Or.inr hl
end Go.Proofs.Ytdbaafigmfclcaa
