import Derived.Test.YtdbaafigmfclcaaTLift2
import Derived.Test.YtdbaafigmfclcaaTMend0
/- mend, at trees. -/
namespace Go.Proofs.Ytdbaafigmfclcaa
open Go.RowKit Go

theorem NWX.look {h : Nat} {w : World} {p : Nat} {L : List It} {ts : List (Nd It h)} {F : List Nat} {s : Int} (hN : NWX h w p L ts F s) (ht : 0 < ts.length) : ∃ kg kd po pc, w.cell? ⟨p, 1, none⟩ = some (.slice (some ⟨kg, 0, none⟩) ts.length kd) ∧ w.cell? ⟨p, 0, none⟩ = some (.slice po L.length pc) ∧ ∀ (i : Nat) (t : Nd It h), ts[i]? = some t → ∃ q qo qc, w.cell? ⟨kg, i, none⟩ = some (pv q) ∧ w.cell? ⟨q, 0, none⟩ = some (.slice qo t.its.length qc) := by
  obtain ⟨iv, kv, qs, FF, hP, ⟨ks, rfl, rfl, rfl, h3⟩, rfl⟩ := hN
  rw [List.length_map] at ht
  obtain ⟨po, pc, rfl⟩ := row_slice hP.its
  obtain ⟨kg, kd, ek, -, -, -, -, -⟩ := kid_at hP.kids (k := 0) (by rw [List.length_map]; exact ht)
  subst ek
  obtain ⟨c0, c1, -, -⟩ := hP.nd.cells
  rw [List.length_map] at c1
  refine ⟨kg, kd, po, pc, by rw [List.length_map]; exact c1, c0, fun i t hi => ?_⟩
  rw [List.getElem?_map] at hi
  obtain ⟨x, hx, rfl⟩ := Option.map_eq_some_iff.1 hi
  obtain ⟨hlt, hx2⟩ := List.getElem?_eq_some_iff.1 hx
  have hx3 : x ∈ ks := hx2 ▸ List.getElem_mem hlt
  obtain ⟨g, c, ek, -, -, -, k0, -⟩ := kid_at hP.kids (k := i) (by rw [List.length_map]; exact hlt)
  injection ek with e1
  injection e1 with e1
  injection e1 with e1
  subst e1
  rw [List.getElem_map, hx2] at k0
  obtain ⟨ia, kav, ql, G, hA, _, _⟩ := NW_iff.1 (h3 x hx3)
  obtain ⟨qo, qc, rfl⟩ := row_slice hA.its
  exact ⟨x.1, qo, qc, k0, hA.nd.cells.1⟩
theorem pair_le {h : Nat} (A B : List It) (ka kb : List (Nd It h)) (l : Nd It h) (m : It) (r : Nd It h) (hk : ka.length = A.length) (he : l.even) : (Nd.flat h l).length + (Nd.flat h r).length ≤ (Nd.flat (h + 1) ((A ++ m :: B, ka ++ l :: r :: kb) : Nd It (h + 1))).length := by
  rw [glue_in h A B ka kb l m r hk he, kid_mid h A B ka kb _ hk, glue_flat h l m r he]
  simp only [List.length_append, List.length_cons]
  omega
/-- What mend leaves. -/
def MendOut (h : Nat) (w w' : World) (p : Nat) (s : Int) (F : List Nat) (L : List It) (fl : List It) : Prop := ∃ (L' : List It) (ts' : List (Nd It h)) (F' : List Nat), NWX h w' p L' ts' F' s ∧ Fits w.heap.size F F' ∧ Tch (fun i => i ∈ F) w w' ∧ Nd.sub (h + 1) ((L', ts') : Nd It (h + 1)) ∧ Nd.flat (h + 1) ((L', ts') : Nd It (h + 1)) = fl ∧ L'.length ≤ L.length ∧ L.length ≤ L'.length + 1
theorem cut1 {h : Nat} {A B : List It} {ka kb : List (Nd It h)} {t1 t2 : Nd It h} {m : It} (hka : ka.length = A.length) (hkb : kb.length = B.length) (h1 : ∀ x ∈ ka, x.ok ∧ 7 ≤ x.its.length) (h2 : ∀ x ∈ kb, x.ok ∧ 7 ≤ x.its.length) (h3 : t1.ok ∧ 7 ≤ t1.its.length) (h4 : t2.ok ∧ 7 ≤ t2.its.length) : Nd.sub (h + 1) ((A ++ m :: B, ka ++ t1 :: t2 :: kb) : Nd It (h + 1)) := by
  refine ⟨by simp only [List.length_append, List.length_cons]; omega, fun x hx => ?_⟩
  simp only [List.mem_append, List.mem_cons] at hx
  rcases hx with hx | rfl | rfl | hx
  · exact h1 x hx
  · exact h3
  · exact h4
  · exact h2 x hx
theorem cut0 {h : Nat} {A B : List It} {ka kb : List (Nd It h)} {t1 : Nd It h} (hka : ka.length = A.length) (hkb : kb.length = B.length) (h1 : ∀ x ∈ ka, x.ok ∧ 7 ≤ x.its.length) (h2 : ∀ x ∈ kb, x.ok ∧ 7 ≤ x.its.length) (h3 : t1.ok ∧ 7 ≤ t1.its.length) : Nd.sub (h + 1) ((A ++ B, ka ++ t1 :: kb) : Nd It (h + 1)) := by
  refine ⟨by simp only [List.length_append, List.length_cons]; omega, fun x hx => ?_⟩
  simp only [List.mem_append, List.mem_cons] at hx
  rcases hx with hx | rfl | hx
  · exact h1 x hx
  · exact h3
  · exact h2 x hx
section
variable (h : Nat) (w : World) (p : Nat) (s : Int) (A B : List It) (ka kb : List (Nd It h)) (l r : Nd It h) (m : It) (F : List Nat)
/-- The three ways to mend two kids beside each other. -/
theorem up_m (hN : NWX h w p (A ++ m :: B) (ka ++ l :: r :: kb) F s) (hn : Nod F) (hka : ka.length = A.length) (hkb : kb.length = B.length) (hAB : A.length + B.length < 90) (h1 : ∀ x ∈ ka, x.ok ∧ 7 ≤ x.its.length) (h2 : ∀ x ∈ kb, x.ok ∧ 7 ≤ x.its.length) (hl : 7 < l.its.length) (hl2 : l.its.length ≤ 15) (hr : r.its.length = 6) (hsl : l.sub) (hsr : r.sub) (hb : (Nd.flat (h + 1) ((A ++ m :: B, ka ++ l :: r :: kb) : Nd It (h + 1))).length ≤ 1000000000000000000) :
    Calls Try.prog 83 #[pv p, .int .i64 A.length] w fun x w' => x = .returned (.tuple #[]) ∧ MendOut h w w' p s F (A ++ m :: B) (Nd.flat (h + 1) ((A ++ m :: B, ka ++ l :: r :: kb) : Nd It (h + 1))) := by
  obtain ⟨n1, hn1⟩ : ∃ n1, l.its.length = n1 + 1 := ⟨l.its.length - 1, by omega⟩
  obtain ⟨mx, hmx⟩ : ∃ mx, l.its[n1]? = some mx := ⟨l.its[n1]'(by omega), List.getElem?_eq_getElem (by omega)⟩
  have he := sub_even h l hsl
  have he' := sub_even h r hsr
  refine (up_x h w p s A B ka kb l r m F n1 mx hN hn hka hkb hAB hn1 (by omega) (by omega) he he' hmx (Nat.le_trans (pair_le A B ka kb l m r hka he) hb)).mono ?_
  rintro x w' ⟨hx, F', hN', hf, ht⟩
  have hgl : (Nd.glue h l m r).its.length = n1 + 8 := by rw [glue_its, List.length_append, List.length_cons]; omega
  have hc := cut_at h n1 (Nd.glue h l m r) (glue_sub h l m r hsl hsr) (by omega) (by omega) (by omega) (by omega)
  have hgm : (Nd.glue h l m r).its[n1]? = some mx := by rw [glue_its, List.getElem?_append_left (by omega)]; exact hmx
  exact ⟨hx, _, _, F', hN', hf, ht, cut1 hka hkb h1 h2 hc.1 hc.2, shift_in h n1 A B ka kb l m r mx hka he he' hgm, by simp, by simp⟩
theorem down_m (hN : NWX h w p (A ++ m :: B) (ka ++ l :: r :: kb) F s) (hn : Nod F) (hka : ka.length = A.length) (hkb : kb.length = B.length) (hAB : A.length + B.length < 90) (h1 : ∀ x ∈ ka, x.ok ∧ 7 ≤ x.its.length) (h2 : ∀ x ∈ kb, x.ok ∧ 7 ≤ x.its.length) (hl : l.its.length = 6) (hr : 7 < r.its.length) (hr2 : r.its.length ≤ 15) (hsl : l.sub) (hsr : r.sub) (hb : (Nd.flat (h + 1) ((A ++ m :: B, ka ++ l :: r :: kb) : Nd It (h + 1))).length ≤ 1000000000000000000) :
    Calls Try.prog 84 #[pv p, .int .i64 A.length] w fun x w' => x = .returned (.tuple #[]) ∧ MendOut h w w' p s F (A ++ m :: B) (Nd.flat (h + 1) ((A ++ m :: B, ka ++ l :: r :: kb) : Nd It (h + 1))) := by
  obtain ⟨mx, hmx⟩ : ∃ mx, r.its[0]? = some mx := ⟨r.its[0]'(by omega), List.getElem?_eq_getElem (by omega)⟩
  have he := sub_even h l hsl
  have he' := sub_even h r hsr
  refine (down_x h w p s A B ka kb l r m F mx hN hn hka hkb hAB (by omega) (by omega) (by omega) he he' hmx (Nat.le_trans (pair_le A B ka kb l m r hka he) hb)).mono ?_
  rintro x w' ⟨hx, F', hN', hf, ht⟩
  have hgl : (Nd.glue h l m r).its.length = 7 + r.its.length := by rw [glue_its, List.length_append, List.length_cons]; omega
  rw [hl] at hN'
  have hc := cut_at h 7 (Nd.glue h l m r) (glue_sub h l m r hsl hsr) (by omega) (by omega) (by omega) (by omega)
  have hgm : (Nd.glue h l m r).its[7]? = some mx := by rw [glue_its, List.getElem?_append_right (by omega), hl]; exact hmx
  exact ⟨hx, _, _, F', hN', hf, ht, cut1 hka hkb h1 h2 hc.1 hc.2, shift_in h 7 A B ka kb l m r mx hka he he' hgm, by simp, by simp⟩
theorem join_m (hN : NWX h w p (A ++ m :: B) (ka ++ l :: r :: kb) F s) (hn : Nod F) (hka : ka.length = A.length) (hkb : kb.length = B.length) (hAB : A.length + B.length < 90) (h1 : ∀ x ∈ ka, x.ok ∧ 7 ≤ x.its.length) (h2 : ∀ x ∈ kb, x.ok ∧ 7 ≤ x.its.length) (hlr : l.its.length + r.its.length ≤ 14) (hlr2 : 6 ≤ l.its.length + r.its.length) (hsl : l.sub) (hsr : r.sub) (hb : (Nd.flat (h + 1) ((A ++ m :: B, ka ++ l :: r :: kb) : Nd It (h + 1))).length ≤ 1000000000000000000) :
    Calls Try.prog 85 #[pv p, .int .i64 A.length] w fun x w' => x = .returned (.tuple #[]) ∧ MendOut h w w' p s F (A ++ m :: B) (Nd.flat (h + 1) ((A ++ m :: B, ka ++ l :: r :: kb) : Nd It (h + 1))) := by
  have he := sub_even h l hsl
  have he' := sub_even h r hsr
  refine (join_x h w p s A B ka kb l r m F hN hn hka hkb hAB (by omega) (by omega) he he' (Nat.le_trans (pair_le A B ka kb l m r hka he) hb)).mono ?_
  rintro x w' ⟨hx, F', hN', hf, ht⟩
  exact ⟨hx, _, _, F', hN', hf, ht, cut0 hka hkb h1 h2 (join_ok h l m r hsl hsr hlr hlr2), (glue_in h A B ka kb l m r hka he).symm, by simp, by simp; omega⟩
end
theorem list_at (L : List It) (i : Nat) (hi : i < L.length) : ∃ A m B, L = A ++ m :: B ∧ A.length = i :=
  ⟨L.take i, L[i], L.drop (i + 1), by rw [← List.drop_eq_getElem_cons hi, List.take_append_drop], by rw [List.length_take]; omega⟩
theorem mend_x (h : Nat) (w : World) (p : Nat) (s : Int) (L : List It) (ka kb : List (Nd It h)) (k : Nd It h) (F : List Nat) (hN : NWX h w p L (ka ++ k :: kb) F s) (hn : Nod F) (hlen : ka.length + kb.length = L.length) (hL1 : 1 ≤ L.length) (hL : L.length ≤ 15) (hk6 : 6 ≤ k.its.length) (hk15 : k.its.length ≤ 15) (hks : k.sub)
    (h1 : ∀ x ∈ ka, x.ok ∧ 7 ≤ x.its.length) (h2 : ∀ x ∈ kb, x.ok ∧ 7 ≤ x.its.length) (hb : (Nd.flat (h + 1) ((L, ka ++ k :: kb) : Nd It (h + 1))).length ≤ 1000000000000000000) :
    Calls Try.prog 56 #[pv p, .int .i64 ka.length] w fun x w' => x = .returned (.tuple #[]) ∧ MendOut h w w' p s F L (Nd.flat (h + 1) ((L, ka ++ k :: kb) : Nd It (h + 1))) := by
  obtain ⟨kg, kd, po, pc, d1, d0, hlook⟩ := hN.look (by simp only [List.length_append, List.length_cons]; omega)
  have hml : (ka ++ k :: kb).length = L.length + 1 := by simp only [List.length_append, List.length_cons]; omega
  rw [hml] at d1
  obtain ⟨q, qo, qc, k0, e0⟩ := hlook ka.length k (by rw [List.getElem?_append_right (Nat.le_refl _)]; simp)
  rcases Nat.lt_or_ge k.its.length 7 with hk7 | hk7
  · have hk : k.its.length = 6 := by omega
    rcases List.eq_nil_or_concat ka with rfl | ⟨ka', l, rfl⟩
    · cases kb with
      | nil => simp at hlen; omega
      | cons r kb =>
        obtain ⟨qr, ro, rc, kr, er⟩ := hlook 1 r (by simp)
        obtain ⟨A, m, B, rfl, hA⟩ := list_at L 0 (by omega)
        obtain rfl := List.eq_nil_of_length_eq_zero hA
        simp only [List.nil_append, List.length_cons, List.length_nil] at *
        have hr := h2 r (by simp)
        have hrs := ((ok_iff h r).1 hr.1)
        rcases Nat.lt_or_ge 7 r.its.length with h7 | h7
        · exact mend_down0 w p kg kd _ q qo _ qc qr ro _ rc po _ pc (by omega) d1 (by omega) k0 e0 d0 kr er hk7 (by omega) rfl h7 _ (down_m h w p s [] B [] kb k r m F hN hn rfl (by omega) (by simp; omega) (by simp) (fun x hx => h2 x (by simp [hx])) hk h7 hrs.1 hks hrs.2 hb)
        · exact mend_join0 w p kg kd _ q qo _ qc qr ro _ rc po _ pc (by omega) d1 (by omega) k0 e0 d0 kr er hk7 (by omega) rfl h7 _ (join_m h w p s [] B [] kb k r m F hN hn rfl (by omega) (by simp; omega) (by simp) (fun x hx => h2 x (by simp [hx])) (by omega) (by omega) hks hrs.2 hb)
    · have hl := h1 l (by simp)
      have hls := ((ok_iff h l).1 hl.1)
      obtain ⟨A, m, B, rfl, hA⟩ := list_at L ka'.length (by simp only [List.concat_eq_append, List.length_append, List.length_cons, List.length_nil] at hlen; omega)
      simp only [List.concat_eq_append] at *
      rw [List.append_assoc] at hN hb hlook ⊢
      simp only [List.cons_append, List.nil_append] at hN hb hlook ⊢
      obtain ⟨ql, lo, lc, kl, el⟩ := hlook ka'.length l (by rw [List.getElem?_append_right (Nat.le_refl _)]; simp)
      have hlen2 : ka'.length + 1 + kb.length = A.length + (B.length + 1) := by simp only [List.length_append, List.length_cons, List.length_nil] at hlen; omega
      have hNL : (A ++ m :: B).length = A.length + (B.length + 1) := by simp
      rw [hNL] at hL hL1 d1 d0
      rw [show (ka' ++ [l]).length = ka'.length + 1 by simp] at k0 ⊢
      have h1' : ∀ x ∈ ka', x.ok ∧ 7 ≤ x.its.length := fun x hx => h1 x (by simp [hx])
      rw [show (((ka'.length + 1 : Nat)) : Int) = (ka'.length : Int) + 1 by omega]
      rcases Nat.lt_or_ge 7 l.its.length with h7 | h7
      · exact mend_up w p kg kd _ ka'.length q qo _ qc ql lo _ lc (by omega) d1 (by omega) k0 e0 kl el hk7 h7 _ (by rw [← hA]; exact up_m h w p s A B ka' kb l k m F hN hn hA.symm (by omega) (by omega) h1' h2 h7 hls.1 hk hls.2 hks hb)
      · have hjoin := join_m h w p s A B ka' kb l k m F hN hn hA.symm (by omega) (by omega) h1' h2 (by omega) (by omega) hls.2 hks hb
        rw [hA] at hjoin
        cases kb with
        | nil =>
          simp only [List.length_nil] at hlen2
          exact mend_join2 w p kg kd _ ka'.length q qo _ qc ql lo _ lc po _ pc (by omega) d1 (by omega) k0 e0 d0 kl el hk7 h7 (by omega) _ hjoin
        | cons r kb =>
          obtain ⟨qr, ro, rc, kr, er⟩ := hlook (ka'.length + 1 + 1) r (by rw [List.getElem?_append_right (by omega), show ka'.length + 1 + 1 - ka'.length = 2 by omega]; rfl)
          have hr := h2 r (by simp)
          have hrs := ((ok_iff h r).1 hr.1)
          simp only [List.length_cons] at hlen2
          rcases Nat.lt_or_ge 7 r.its.length with h8 | h8
          · obtain ⟨B0, m2, B2, rfl, hB0⟩ := list_at B 0 (by omega)
            obtain rfl := List.eq_nil_of_length_eq_zero hB0
            simp only [List.nil_append, List.length_cons] at *
            have hN2 : NWX h w p ((A ++ [m]) ++ m2 :: B2) ((ka' ++ [l]) ++ k :: r :: kb) F s := by simpa using hN
            have hd := down_m h w p s (A ++ [m]) B2 (ka' ++ [l]) kb k r m2 F hN2 hn (by simp [hA]) (by omega) (by simp; omega) (fun x hx => by
              rcases List.mem_append.1 hx with hx | hx
              · exact h1' x hx
              · rw [List.mem_singleton.1 hx]; exact hl) (fun x hx => h2 x (by simp [hx])) hk h8 hrs.1 hks hrs.2 (by simpa using hb)
            rw [show (A ++ [m]).length = ka'.length + 1 by simp [hA], show (((ka'.length + 1 : Nat)) : Int) = (ka'.length : Int) + 1 by omega] at hd
            simp only [List.append_assoc, List.cons_append, List.nil_append] at hd
            exact mend_down1 w p kg kd _ ka'.length q qo _ qc ql lo _ lc qr ro _ rc po _ pc (by omega) d1 (by omega) k0 e0 d0 kl el kr er hk7 h7 (by omega) rfl h8 _ hd
          · exact mend_join1 w p kg kd _ ka'.length q qo _ qc ql lo _ lc qr ro _ rc po _ pc (by omega) d1 (by omega) k0 e0 d0 kl el kr er hk7 h7 (by omega) rfl h8 _ hjoin
  · refine (mend_ok w p kg kd _ ka.length q qo _ qc (by omega) d1 (by omega) k0 e0 hk7).mono ?_
    rintro x w' ⟨hx, rfl⟩
    refine ⟨hx, L, ka ++ k :: kb, F, hN, Fits.refl hn, Tch.refl _ _, ⟨hml, fun x hx => ?_⟩, rfl, Nat.le_refl _, by omega⟩
    simp only [List.mem_append, List.mem_cons] at hx
    rcases hx with hx | rfl | hx
    · exact h1 x hx
    · exact ⟨(ok_iff h _).2 ⟨hk15, hks⟩, hk7⟩
    · exact h2 x hx
end Go.Proofs.Ytdbaafigmfclcaa
