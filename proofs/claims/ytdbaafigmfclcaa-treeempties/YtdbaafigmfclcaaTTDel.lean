import Derived.Test.YtdbaafigmfclcaaTTPut
/- Delete of a tree. -/
namespace Go.Proofs.Ytdbaafigmfclcaa
open Go.RowKit Go

def DelOut (w : World) (b : Nat) (l : List It) (F : List Nat) (k : ByteArray) (x : Ending) (w' : World) : Prop := ∃ (l' : List It) (ht' : Nat) (F' : List Nat) (old : GV) (th : Bool), x = .returned (.tuple #[ev old, .bool th]) ∧ TW w' b l' ht' F' ∧ RemRel k l l' old th ∧ Fits w.heap.size F F' ∧ Tch (fun i => i ∈ F) w w'
theorem RemRel.sorted {k : ByteArray} {old : GV} {l l' : List It} {th : Bool} (h : RemRel k l l' old th) (hs : Sorted l) : Sorted l' := by
  rcases h with ⟨_, h⟩ | ⟨_, _, e, _⟩
  · exact h.sorted_back hs
  · rw [e]; exact hs
set_option maxHeartbeats 4000000 in
set_option maxRecDepth 100000 in
theorem del_root (h : Nat) (w : World) (b p : Nat) (t : Nd It h) (G : List Nat) (k : ByteArray) (hb : w.heap[b]? = some (.cells #[pv p] 64 (0, 0))) (hN : NW h w p t G) (hn : Nod (b :: G)) (hs : t.sub) (hl : t.its.length ≤ 15) (hso : Sorted (t.flat h)) (hsz : (t.flat h).length < 900000000000000000) (hone : 1 ≤ t.its.length) :
    Calls Try.prog 14 #[pv b, .string k] w fun x w' => DelOut w b (t.flat h) (b :: G) k x w' := by
  obtain ⟨hnG, hbG⟩ := nod_tail hn
  have q := rem_any h w p k t G hN hnG hs hl (fun _ => hone) hso (by omega)
  have c0 : w.cell? ⟨b, 0, none⟩ = some (pv p) := by rw [blk_cell hb]; rfl
  have Hb : Hid (w.heap[b]? = some (.cells #[pv p] 64 (0, 0))) := hb
  have Hn : Hid (Nod (b :: G)) := hn
  have HbG : Hid (b ∉ G) := hbG
  have Hso : Hid (Sorted (t.flat h)) := hso
  have Hl15 : Hid (t.its.length ≤ 15) := hl
  clear hb hN hn hs hl hso hsz hnG hbG hone
  go_enter Try.func14, Try.ntmps14
  go_wp2_with fail
  clear c0
  refine q.mono ?_
  rintro x w1 ⟨t', G', old, th, rfl, nk, fk, tk, sk, lk, lk', pr⟩
  have hb1 : w1.heap[b]? = some (.cells #[pv p] 64 (0, 0)) := by rw [tk.block b (blk_lt Hb.out) HbG.out]; exact Hb.out
  have c0 : w1.cell? ⟨b, 0, none⟩ = some (pv p) := by rw [blk_cell hb1]; rfl
  obtain ⟨iv, kv, qs, FF, hP, hK, hFe⟩ := NW_iff.1 nk
  obtain ⟨io, ic, rfl⟩ := row_slice hP.its
  have c1 := hP.nd.cells.1
  obtain ⟨n, hnn⟩ : ∃ n, n = t'.its.length := ⟨_, rfl⟩
  rw [← hnn] at c1
  obtain ⟨nodG', fits'⟩ := nod_cons Hn.out fk (blk_lt Hb.out)
  have htc : Tch (fun i => i ∈ b :: G) w w1 := tk.mono (fun i _ hi => by simp [hi])
  have hsl := pr.sorted Hso.out
  have f0 := blk_frozen hb1 0
  have hl15 := Hl15.out
  rcases Nat.eq_zero_or_pos n with h0 | h0
  · subst h0
    have hbG' : b ∉ G' := (nod_tail nodG').2
    have he := sub_even h t' sk
    rcases hK.len he with e | e
    · -- a leaf: nothing is left
      subst e
      have qk := kid_none p 0 _ kv _ _ w1 hP
      have hfl : t'.flat h = [] := by
        cases h with
        | zero => exact List.eq_nil_of_length_eq_zero hnn.symm
        | succ h =>
          exfalso
          obtain ⟨ks, e1, e2, _, _⟩ := hK
          have h5 : t'.2.length = t'.1.length + 1 := sk.1
          rw [e2, List.length_map] at h5
          have h6 := congrArg List.length e1
          rw [List.length_map] at h6
          simp at h6
          omega
      rw [hfl] at pr hsl
      have ts : Tch (fun i => i = b) w1 (w1.setCell ⟨b, 0, none⟩ (.pointer none)) := Tch.setCell _ _ _ _ rfl
      have hb2 : (w1.setCell ⟨b, 0, none⟩ (.pointer none)).heap[b]? = some (.cells #[.pointer none] 64 (0, 0)) := by rw [blk_set hb1]; rfl
      have hnB : Nod [b] := fun x => by rw [List.count_singleton]; split <;> omega
      have hf : Fits w.heap.size (b :: G) [b] := fun x => by
        have e1 := hnB x
        refine ⟨fun _ => ?_, fun _ => e1⟩
        rw [List.count_singleton, List.count_cons]
        omega
      have HF : Hid (DelOut w b (t.flat h) (b :: G) k (.returned (.tuple #[ev old, .bool th])) (w1.setCell ⟨b, 0, none⟩ (.pointer none))) := ⟨[], 0, [b], old, th, rfl, ⟨hnB, List.Pairwise.nil, Or.inl ⟨rfl, rfl, rfl, hb2⟩⟩, pr, hf, htc.trans ts (fun i hi e => by rw [e]; simp)⟩
      clear nk fk tk sk lk lk' pr hP hK hFe hnn nodG' fits' htc hsl hb1 ts hb2 hnB hf he hfl hbG' q
      go_wp2_with (go_at_call 31; refine qk.mono ?_; rintro x w1' ⟨rfl, hwx⟩; subst hwx; clear qk)
      go_ret2
      exact HF.out
    · -- one kid is left: it is the root
      cases h with
      | zero => exfalso; rw [hK.1] at e; simp at e
      | succ h =>
        rw [← hnn] at e
        have h5 : t'.2.length = t'.1.length + 1 := sk.1
        have hn0 : t'.1.length = 0 := hnn.symm
        have qk := kid_some p 0 _ kv _ qs _ w1 hP (by omega) (by omega)
        obtain ⟨ks, rfl, e2, rfl, h3⟩ := hK
        rw [List.length_map] at e
        obtain ⟨x, rfl⟩ := List.length_eq_one_iff.1 e
        obtain ⟨q2, k2, F2⟩ := x
        have hk2 := h3 (q2, k2, F2) (by simp)
        have ok2 := sk.2 k2 (by rw [e2]; simp)
        simp only [List.map_cons, List.map_nil, List.getElem_cons_zero] at qk
        have hfl : Nd.flat (h + 1) t' = k2.flat h := by
          have h8 : t'.1 = [] := List.eq_nil_of_length_eq_zero hn0
          show mix t'.1 (t'.2.map (Nd.flat h)) = _
          rw [h8, e2]
          rfl
        have hF2 : ∀ x, F2.count x ≤ G'.count x := fun x => by rw [hFe, List.count_append]; simp
        have hbF2 : b ∉ F2 := fun hm => by
          have h9 := hF2 b
          have h10 := count_mem hm
          exact hbG' (List.count_pos_iff.1 (by omega))
        have ts : Tch (fun i => i = b) w1 (w1.setCell ⟨b, 0, none⟩ (pv q2)) := Tch.setCell _ _ _ _ rfl
        have hb2 : (w1.setCell ⟨b, 0, none⟩ (pv q2)).heap[b]? = some (.cells #[pv q2] 64 (0, 0)) := by rw [blk_set hb1]; rfl
        have hf2 : Fits w.heap.size (b :: G) (b :: F2) := fun x => by
          have h9 := fits' x
          have h10 := hF2 x
          rw [List.count_cons] at h9 ⊢
          exact ⟨fun hx => by have := h9.1 hx; rw [List.count_cons] at *; omega, fun hx => by have := h9.2 hx; omega⟩
        have HF : Hid (DelOut w b (t.flat (h + 1)) (b :: G) k (.returned (.tuple #[ev old, .bool th])) (w1.setCell ⟨b, 0, none⟩ (pv q2))) := ⟨t'.flat (h + 1), h + 1, b :: F2, old, th, rfl, ⟨hf2.nod Hn.out, hsl, Or.inr ⟨h, k2, q2, F2, rfl, hb2, hk2.tch ts (fun x hx e => hbF2 (e ▸ hx)), ok2.1, by omega, hfl.symm, rfl⟩⟩, pr, hf2, htc.trans ts (fun i hi e => by rw [e]; simp)⟩
        clear nk fk tk sk lk lk' pr hP hFe hnn nodG' fits' htc hsl hb1 ts hb2 hf2 he hfl hbG' h3 e2 hk2 ok2 hF2 hbF2 h5 hn0 e q
        go_wp2_with (go_at_call 31; refine qk.mono ?_; rintro x w1' ⟨rfl, hwx⟩; subst hwx; clear qk)
        go_ret2
        exact HF.out
  · have h0i : ¬ (n : Int) = 0 := by omega
    have HF : Hid (DelOut w b (t.flat h) (b :: G) k (.returned (.tuple #[ev old, .bool th])) w1) := ⟨t'.flat h, h + 1, b :: G', old, th, rfl, ⟨nodG', hsl, Or.inr ⟨h, t', p, G', rfl, hb1, nk, (ok_iff h t').2 ⟨by omega, sk⟩, by omega, rfl, rfl⟩⟩, pr, fits', htc⟩
    clear nk fk tk sk lk lk' pr hP hK hFe hnn nodG' fits' htc hsl hb1 f0 q
    go_wp2_with fail
    go_ret2
    exact HF.out
set_option maxHeartbeats 1000000 in
set_option maxRecDepth 100000 in
theorem del_empty (w : World) (b : Nat) (k : ByteArray) (hb : w.heap[b]? = some (.cells #[.pointer none] 64 (0, 0))) :
    Calls Try.prog 14 #[pv b, .string k] w fun x w' => DelOut w b [] [b] k x w' := by
  have c0 : w.cell? ⟨b, 0, none⟩ = some (.pointer none) := by rw [blk_cell hb]; rfl
  have hnB : Nod [b] := fun x => by rw [List.count_singleton]; split <;> omega
  have HF : Hid (DelOut w b [] [b] k (.returned (.tuple #[ev gv0, .bool false])) w) := ⟨[], 0, [b], gv0, false, rfl, ⟨hnB, List.Pairwise.nil, Or.inl ⟨rfl, rfl, rfl, hb⟩⟩, Or.inr ⟨rfl, rfl, rfl, [], [], rfl, by simp, by simp⟩, Fits.refl hnB, Tch.refl _ _⟩
  clear hb hnB
  go_enter Try.func14, Try.ntmps14
  go_wp2_with fail
  go_ret2
  exact HF.out
theorem del_t (w : World) (b : Nat) (l : List It) (ht : Nat) (F : List Nat) (k : ByteArray) (h : TW w b l ht F) (hsz : l.length < 900000000000000000) :
    Calls Try.prog 14 #[pv b, .string k] w fun x w' => DelOut w b l F k x w' := by
  obtain ⟨h1, h2, ⟨rfl, rfl, rfl, hb⟩ | ⟨h, t, p, G, rfl, hb, hN, h3, h4, rfl, rfl⟩⟩ := h
  · exact del_empty w b k hb
  · have h5 := (ok_iff h t).1 h3
    exact del_root h w b p t G k hb hN h1 h5.2 h5.1 h2 hsz h4
end Go.Proofs.Ytdbaafigmfclcaa
