import Derived.Test.YtmegkmhcfehnkaaGreatDoorVLx
import Derived.Test.YtmegkmhcfehnkaaGreatDoorVLrq
/- Print, by the code and by the document. -/
namespace Go.Proofs.YtmegkmhcfehnkaaGreatDoor
open Go.RowKit Go Go.Lib

/-- A value as it is printed. -/
def prB (v : Val) : ByteArray := if wrg v ≠ 0 then ⟨#[63]⟩ else if v.k = 0 then ⟨#[110, 117, 108, 108]⟩ else if v.k = 1 then ⟨(itoa v.n).toArray⟩ else if v.k = 3 then (if v.n = 1 then ⟨#[116, 114, 117, 101]⟩ else ⟨#[102, 97, 108, 115, 101]⟩) else ⟨(qtd v.s).toArray⟩
theorem empty_eq {s : ByteArray} (h : s.size = 0) : s = ⟨#[]⟩ := by
  apply ByteArray.ext
  exact Array.eq_empty_of_size_eq_zero h
theorem frm_of {v : Val} (h : wrg v = 0) : frm v ∧ v.s.size ≤ 200 := by
  unfold wrg at h
  split at h
  · split at h
    · exact ⟨by assumption, by assumption⟩
    · omega
  · omega
set_option maxHeartbeats 2000000 in
set_option maxRecDepth 100000 in
theorem print_by (v : Val) (w : World) (q : ByteArray) (hq : q = prB v) (hl : wrg v = 0 → ∀ W, Tch (fun _ => False) w W → Calls Tryz.prog 13 #[vA v.k v.n v.s] W fun x w' => x = .returned (.string q) ∧ Tch (fun _ => False) W w') :
    Calls Tryz.prog 7 #[vA v.k v.n v.s] w fun x w' => x = .returned (.string q) ∧ Tch (fun _ => False) w w' := by
  obtain ⟨k, n, s⟩ := v
  have Hl : Hid _ := hl
  have Hq : Hid _ := hq
  clear hl hq
  obtain ⟨e, he⟩ : ∃ e, e = wrg ⟨k, n, s⟩ := ⟨_, rfl⟩
  have q1 := fun W => wrong_any k n s W
  rw [← he] at q1
  have HQ1 : Hid _ := q1
  have He : Hid (e = wrg ⟨k, n, s⟩) := he
  clear q1 he
  by_cases h0 : e = 0
  · subst h0
    go_enter Tryz.func7, Tryz.ntmps7
    go_wp2_with fail
    refine (HQ1.out _).mono ?_
    rintro x w1 ⟨rfl, t1⟩
    obtain ⟨c0, c1, c2⟩ := box_tch t1
    have T1 : Tch (fun _ => False) w w1 := (Tch.alloc _ _ _).trans' t1
    have q2 := Hl.out He.out.symm w1 T1
    have HT1 : Hid _ := T1
    clear t1 T1
    go_wp2_with fail
    refine q2.mono ?_
    rintro x w2 ⟨rfl, t2⟩
    clear q2
    go_wp2_with fail
    go_ret
    exact ⟨rfl, HT1.out.trans' t2⟩
  · have h0b : (e == 0) = false := beq_eq_false_iff_ne.2 h0
    have HR : Hid (q = ⟨#[63]⟩) := by
      show _ = _
      rw [Hq.out]; unfold prB; rw [if_pos (by rw [← He.out]; exact h0)]
    go_enter Tryz.func7, Tryz.ntmps7
    go_wp2_with fail
    refine (HQ1.out _).mono ?_
    rintro x w1 ⟨rfl, t1⟩
    have T1 : Tch (fun _ => False) w w1 := (Tch.alloc _ _ _).trans' t1
    have HT1 : Hid _ := T1
    clear t1 T1
    go_wp2_with fail
    go_ret
    exact ⟨by rw [HR.out]; rfl, HT1.out⟩
theorem print_any (v : Val) (hi : i64v v.n) (w : World) (hw : HWd w) (hv : HV w) :
    Calls Tryz.prog 7 #[vA v.k v.n v.s] w fun x w' => x = .returned (.string (prB v)) ∧ Tch (fun _ => False) w w' := by
  refine print_by v w _ rfl (fun h0 W t => ?_)
  obtain ⟨hf, h200⟩ := frm_of h0
  have hpr : prB v = if v.k = 0 then ⟨#[110, 117, 108, 108]⟩ else if v.k = 1 then ⟨(itoa v.n).toArray⟩ else if v.k = 3 then (if v.n = 1 then ⟨#[116, 114, 117, 101]⟩ else ⟨#[102, 97, 108, 115, 101]⟩) else ⟨(qtd v.s).toArray⟩ := by unfold prB; rw [if_neg (fun h => h h0)]
  rw [hpr]
  obtain ⟨k, n, s⟩ := v
  simp only at hf h200 hi ⊢
  rcases hf with ⟨e1, e2, e3⟩ | ⟨e1, e2⟩ | ⟨e1, e2⟩ | ⟨e1, e2, e3⟩
  · simp only at e1 e2 e3
    obtain rfl := empty_eq e3
    subst e1 e2
    exact literal_null W (hw.no t)
  · simp only at e1 e2
    obtain rfl := empty_eq e2
    subst e1
    exact literal_int n hi W (hw.no t) (hv.no t)
  · simp only at e1 e2
    subst e1 e2
    exact literal_text s W (hw.no t) _ (fun W' => quoted_any s W' (by omega))
  · simp only at e1 e2 e3
    obtain rfl := empty_eq e2
    subst e1
    rcases e3 with rfl | rfl
    · exact literal_false W (hw.no t)
    · exact literal_true W (hw.no t)
set_option maxHeartbeats 4000000 in
set_option maxRecDepth 100000 in
theorem rprint_any (v : Val) (hi : i64v v.n) (w : World) :
    Calls Tryz.prog 8 #[vA v.k v.n v.s] w fun x w' => x = .returned (.string (prB v)) ∧ Tch (fun _ => False) w w' := by
  obtain ⟨p, hp⟩ : ∃ p, p = prB v := ⟨_, rfl⟩
  rw [← hp]
  obtain ⟨k, n, s⟩ := v
  obtain ⟨e, he⟩ : ∃ e, e = wrg ⟨k, n, s⟩ := ⟨_, rfl⟩
  have q1 := fun W => rwrong_any k n s W
  rw [← he] at q1
  have HQ1 : Hid _ := q1
  have He : Hid (e = wrg ⟨k, n, s⟩) := he
  have Hp : Hid (p = prB ⟨k, n, s⟩) := hp
  clear q1 he hp
  by_cases h0 : e = 0
  · subst h0
    obtain ⟨hf, h200⟩ := frm_of He.out.symm
    have hpr : p = if k = 0 then ⟨#[110, 117, 108, 108]⟩ else if k = 1 then ⟨(itoa n).toArray⟩ else if k = 3 then (if n = 1 then ⟨#[116, 114, 117, 101]⟩ else ⟨#[102, 97, 108, 115, 101]⟩) else ⟨(qtd s).toArray⟩ := by rw [Hp.out]; unfold prB; rw [if_neg (fun h => h He.out.symm)]
    have qd := fun W => rdig_any n hi W
    have qq := fun W => rquoted_any s W (by simp only at h200; omega)
    have Hqd : Hid _ := qd
    have Hqq : Hid _ := qq
    have hcase : (k = 0 ∧ p = ⟨#[110, 117, 108, 108]⟩) ∨ (k = 1 ∧ p = ⟨(itoa n).toArray⟩) ∨ (k = 2 ∧ p = ⟨(qtd s).toArray⟩) ∨ (k = 3 ∧ n = 0 ∧ p = ⟨#[102, 97, 108, 115, 101]⟩) ∨ (k = 3 ∧ n = 1 ∧ p = ⟨#[116, 114, 117, 101]⟩) := by
      rcases hf with ⟨e1, e2, e3⟩ | ⟨e1, e2⟩ | ⟨e1, e2⟩ | ⟨e1, e2, e3⟩
      · simp only at e1; subst e1; exact Or.inl ⟨rfl, hpr⟩
      · simp only at e1; subst e1; exact Or.inr (Or.inl ⟨rfl, hpr⟩)
      · simp only at e1; subst e1; exact Or.inr (Or.inr (Or.inl ⟨rfl, hpr⟩))
      · simp only at e1 e3; subst e1
        rcases e3 with rfl | rfl
        · exact Or.inr (Or.inr (Or.inr (Or.inl ⟨rfl, rfl, hpr⟩)))
        · exact Or.inr (Or.inr (Or.inr (Or.inr ⟨rfl, rfl, hpr⟩)))
    clear hf h200 hpr qd qq
    rcases hcase with ⟨rfl, hp⟩ | ⟨rfl, hp⟩ | ⟨rfl, hp⟩ | ⟨rfl, rfl, hp⟩ | ⟨rfl, rfl, hp⟩
    all_goals
      have HP : Hid _ := hp
      clear hp
      go_enter Tryz.func8, Tryz.ntmps8
      go_wp2_with fail
      refine (HQ1.out _).mono ?_
      rintro x w1 ⟨rfl, t1⟩
      obtain ⟨c0, c1, c2⟩ := box_tch t1
      have T1 : Tch (fun _ => False) w w1 := (Tch.alloc _ _ _).trans' t1
      have HT1 : Hid _ := T1
      clear t1 T1
      go_wp2_with fail
    · go_ret
      exact ⟨by rw [HP.out]; rfl, HT1.out⟩
    · refine (Hqd.out _).mono ?_
      rintro x w2 ⟨rfl, hw2⟩
      obtain rfl := hw2.symm
      clear hw2
      go_wp2_with fail
      go_ret
      exact ⟨by rw [HP.out]; rfl, HT1.out⟩
    · refine (Hqq.out _).mono ?_
      rintro x w2 ⟨rfl, t2⟩
      go_wp2_with fail
      go_ret
      exact ⟨by rw [HP.out]; rfl, HT1.out.trans' t2⟩
    · go_ret
      exact ⟨by rw [HP.out]; rfl, HT1.out⟩
    · go_ret
      exact ⟨by rw [HP.out]; rfl, HT1.out⟩
  · have h0b : (e == 0) = false := beq_eq_false_iff_ne.2 h0
    have HR : Hid (p = ⟨#[63]⟩) := by
      show _ = _
      rw [Hp.out]; unfold prB; rw [if_pos (by rw [← He.out]; exact h0)]
    go_enter Tryz.func8, Tryz.ntmps8
    go_wp2_with fail
    refine (HQ1.out _).mono ?_
    rintro x w1 ⟨rfl, t1⟩
    have T1 : Tch (fun _ => False) w w1 := (Tch.alloc _ _ _).trans' t1
    have HT1 : Hid _ := T1
    clear t1 T1
    go_wp2_with fail
    go_ret
    exact ⟨by rw [HR.out]; rfl, HT1.out⟩
end Go.Proofs.YtmegkmhcfehnkaaGreatDoor
