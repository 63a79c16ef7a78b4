import Derived.Test.YtdbaafigmfclcaaTMend
/- A step on a kid; on a node's own row. -/
namespace Go.Proofs.Ytdbaafigmfclcaa
open Go.RowKit Go

/-- The value that a missing key has. -/
abbrev gv0 : GV := 0
theorem mem_fbk {p g : Nat} {iv kv : Value} (h : kv.ownBlock = some g) : g ∈ fb p iv kv := List.mem_cons_of_mem _ (List.mem_append_right _ (mem_bl.2 h))
theorem mem_fbi {p g : Nat} {iv kv : Value} (h : iv.ownBlock = some g) : g ∈ fb p iv kv := List.mem_cons_of_mem _ (List.mem_append_left _ (mem_bl.2 h))
/-- A kid, and what becomes of the whole by a step on it. -/
theorem NWX.kid {h : Nat} {w : World} {p : Nat} {L : List It} {ka kb : List (Nd It h)} {k : Nd It h} {F : List Nat} {s : Int} (hN : NWX h w p L (ka ++ k :: kb) F s) (hn : Nod F) : ∃ q Fk kg kd, w.cell? ⟨p, 1, none⟩ = some (.slice (some ⟨kg, 0, none⟩) (ka ++ k :: kb).length kd) ∧ w.cell? ⟨kg, ka.length, none⟩ = some (pv q) ∧ NW h w q k Fk ∧ Nod Fk ∧ (∀ b ∈ Fk, b ∈ F) ∧ p ∉ Fk ∧ kg ∉ Fk ∧ (∀ g n c, w.cell? ⟨p, 0, none⟩ = some (.slice (some ⟨g, 0, none⟩) n c) → g ∉ Fk) ∧
    ∀ (w' : World) (k' : Nd It h) (Fk' : List Nat), NW h w' q k' Fk' → Fits w.heap.size Fk Fk' → Tch (fun i => i ∈ Fk) w w' → ∃ F', NWX h w' p L (ka ++ k' :: kb) F' s ∧ Fits w.heap.size F F' ∧ Tch (fun i => i ∈ F) w w' := by
  obtain ⟨iv, kv, qs, FF, hP, hK, rfl⟩ := hN
  obtain ⟨k1, k2, q, Fk, rfl, rfl, rfl, rfl, hq, h1, h2⟩ := kids_at hK
  have hlt : (kT k1).length < (kP k1 ++ q :: kP k2).length := by simp only [List.length_append, List.length_cons, kP_len]; omega
  obtain ⟨kg, kd, ek, -, -, -, k0, -⟩ := kid_at hP.kids hlt
  subst ek
  have hq0 : (kP k1 ++ q :: kP k2)[(kT k1).length]'hlt = q := by
    rw [List.getElem_append_right (by rw [kP_len]; exact Nat.le_refl _)]
    simp [kP_len]
  rw [hq0] at k0
  have hF0 : ∀ b, (fb p iv (.slice (some ⟨kg, 0, none⟩) (kP k1 ++ q :: kP k2).length kd) ++ (kF k1 ++ (Fk ++ kF k2))).count b = Fk.count b + (fb p iv (.slice (some ⟨kg, 0, none⟩) (kP k1 ++ q :: kP k2).length kd) ++ (kF k1 ++ kF k2)).count b := fun b => by simp only [List.count_append]; omega
  obtain ⟨hnod, hap⟩ := nodR hn hF0
  have hl : (kT k1 ++ k :: kT k2).length = (kP k1 ++ q :: kP k2).length := by simp only [List.length_append, List.length_cons, kP_len]
  refine ⟨q, Fk, kg, kd, by rw [hl]; exact hP.nd.cells.2.1, k0, hq, hnod, fun b hb => by simp [hb], hap p (by simp [fb]), hap kg (List.mem_append_left _ (mem_fbk (show (Value.slice (some ⟨kg, 0, none⟩) (kP k1 ++ q :: kP k2).length kd).ownBlock = some kg from rfl))), fun g n c hc => hap g (List.mem_append_left _ (mem_fbi (by have e1 := hP.nd.cells.1; rw [hc] at e1; injection e1 with e1; rw [← e1]; rfl))), fun w' k' Fk' hq' hf ht => ?_⟩
  have hR : ∀ b ∈ fb p iv (.slice (some ⟨kg, 0, none⟩) (kP k1 ++ q :: kP k2).length kd) ++ (kF k1 ++ kF k2), b < w.heap.size := fun b hb => by
    simp only [List.mem_append] at hb
    rcases hb with hb | hb | hb
    · exact hP.lt b hb
    · exact kF_lt h1 b hb
    · exact kF_lt h2 b hb
  refine ⟨fb p iv (.slice (some ⟨kg, 0, none⟩) (kP k1 ++ q :: kP k2).length kd) ++ (kF k1 ++ (Fk' ++ kF k2)), ⟨iv, _, _, _, hP.tch ht (fun b hb hb' => hap b (List.mem_append_left _ hb) hb'), ⟨k1 ++ (q, k', Fk') :: k2, by simp [kP], by simp [kT], by simp [kF], fun x hx => ?_⟩, rfl⟩, Fits.frame hf hR hn hF0 (fun b => by simp only [List.count_append]; omega), ht.mono (fun i _ hi => by simp [hi])⟩
  simp only [List.mem_append, List.mem_cons] at hx
  rcases hx with hx | rfl | hx
  · exact kids_tch h1 ht (fun b hb hb' => hap b (List.mem_append_right _ (List.mem_append_left _ hb)) hb') x hx
  · exact hq'
  · exact kids_tch h2 ht (fun b hb hb' => hap b (List.mem_append_right _ (List.mem_append_right _ hb)) hb') x hx
theorem NWX.setSz {h : Nat} {w : World} {p : Nat} {L : List It} {ts : List (Nd It h)} {F : List Nat} {s : Int} (hN : NWX h w p L ts F s) (hn : Nod F) (s' : Int) : NWX h (w.setCell ⟨p, 2, none⟩ (.int .i64 s')) p L ts F s' ∧ Tch (fun i => i ∈ F) w (w.setCell ⟨p, 2, none⟩ (.int .i64 s')) := by
  obtain ⟨iv, kv, qs, FF, hP, ⟨ks, rfl, rfl, rfl, h3⟩, rfl⟩ := hN
  have hs : Nod (fb p iv kv) := fun b => by have := hn b; rw [List.count_append] at this; omega
  have hp := nod_self hs
  have t : Tch (fun i => i = p) w (w.setCell ⟨p, 2, none⟩ (.int .i64 s')) := Tch.setCell _ _ _ _ rfl
  have hap : ∀ b ∈ kF ks, b ≠ p := fun b hb e => by
    have h0 : (fb p iv kv).count b + (kF ks).count b ≤ 1 := by have := hn b; rw [List.count_append] at this; exact this
    have h1 := count_mem hb
    have h2 : 1 ≤ (fb p iv kv).count b := count_mem (by rw [e]; simp [fb])
    omega
  exact ⟨⟨iv, kv, _, _, ⟨hP.nd.setSz, own_tch hP.its t (fun g e e' => hp.1 (by rw [← e']; exact e)), own_tch hP.kids t (fun g e e' => hp.2 (by rw [← e']; exact e))⟩, ⟨ks, rfl, rfl, rfl, kids_tch h3 t hap⟩, rfl⟩, t.mono (fun i _ e => by rw [e]; simp [fb])⟩
theorem NWX.cells {h : Nat} {w : World} {p : Nat} {L : List It} {ts : List (Nd It h)} {F : List Nat} {s : Int} (hN : NWX h w p L ts F s) : w.cell? ⟨p, 2, none⟩ = some (.int .i64 s) ∧ w.frozen? ⟨p, 2, none⟩ = false := by
  obtain ⟨iv, kv, qs, FF, hP, _, rfl⟩ := hN
  exact ⟨hP.nd.cells.2.2.1, hP.nd.cells.2.2.2 2⟩
/-- A node whose row of items was set in its place. -/
theorem NW.items {h : Nat} {w w' : World} {p : Nat} {t t' : Nd It h} {F : List Nat} {iv kv iv' : Value} {qs FF : List Nat} (hn : Nod F) (hK : Kids h w t qs FF) (hF : F = fb p iv kv ++ FF) (h1 : FN w' p iv' kv t'.its qs (Nd.flat h t').length) (hb : iv'.ownBlock = iv.ownBlock) (ht : Tch (fun i => iv.ownBlock = some i) w w') (hk : ∀ w qs FF, Kids h w t qs FF → Kids h w t' qs FF) : NW h w' p t' F ∧ Tch (fun i => i ∈ F) w w' := by
  have hap : ∀ b ∈ FF, ¬ iv.ownBlock = some b := fun b hb e => by
    have := hn b
    rw [hF, List.count_append] at this
    have h1 := count_mem hb
    have h2 : 1 ≤ (fb p iv kv).count b := count_mem (by simp [fb, mem_bl.2 e])
    omega
  refine ⟨NW_iff.2 ⟨iv', kv, qs, FF, h1, (hk _ _ _ hK).tch ht hap, ?_⟩, ht.mono (fun i _ e => by rw [hF]; simp [fb, mem_bl.2 e])⟩
  rw [hF]
  unfold fb
  rw [bl_of hb]
/-- What put does. -/
def PutRel (k : ByteArray) (v : GV) (fl fl' : List It) (old : GV) (th : Bool) : Prop := (th = true ∧ Subst (Lo k) (Hi k) (k, old) (k, v) fl fl') ∨ (th = false ∧ old = gv0 ∧ Ins (Lo k) (Hi k) (k, v) fl fl')
theorem its_sublist {h : Nat} (t : Nd It h) (he : t.even) : t.its.Sublist (t.flat h) := by
  cases h with
  | zero => exact List.Sublist.refl _
  | succ h =>
    have : ∀ (a : List It) (fa : List (List It)), fa.length = a.length + 1 → a.Sublist (mix a fa) := fun a => by
      induction a with
      | nil => intro fa _; exact List.nil_sublist _
      | cons x a ih =>
        intro fa hf
        cases fa with
        | nil => simp at hf
        | cons f fa =>
          show (x :: a).Sublist (f ++ x :: mix a fa)
          exact List.Sublist.trans ((ih fa (by simpa using hf)).cons_cons x) (List.sublist_append_right _ _)
    exact this t.1 _ (by rw [List.length_map]; exact he)
theorem its_sorted {h : Nat} (t : Nd It h) (he : t.even) (hs : Sorted (t.flat h)) : Sorted t.its := hs.sublist (its_sublist t he)
end Go.Proofs.Ytdbaafigmfclcaa
