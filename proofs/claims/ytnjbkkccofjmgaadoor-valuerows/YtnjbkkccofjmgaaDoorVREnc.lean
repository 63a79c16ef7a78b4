/- The document's Encode of a row. -/
import Derived.Test.YtnjbkkccofjmgaaDoorXWByte
import Derived.Test.YtnjbkkccofjmgaaDoorVDec2
namespace Go.Proofs.YtnjbkkccofjmgaaDoor
open Go.RowKit Go.Sort

theorem rowAt_get {w : World} {g o : Nat} {vs : List Val} (h : RowAt w g o vs) (k : Nat) (hk : k < vs.length) {v : Val} (e : v = vs[k]) : w.cell? ⟨g, o + k * 3, none⟩ = some (.int .i64 v.k) ∧ w.cell? ⟨g, o + k * 3 + 1, none⟩ = some (.int .i64 v.n) ∧ w.cell? ⟨g, o + k * 3 + 2, none⟩ = some (.string v.s) := by
  subst e; exact h k hk
set_option maxHeartbeats 2000000 in
set_option maxRecDepth 100000 in
theorem rencode_any (vs : List Val) (ao : Option Addr) (g o c : Nat) (w : World) (hao : vs ≠ [] → ao = some ⟨g, o, none⟩) (hrow : RowAt w g o vs) (hi : ∀ v ∈ vs, v.i64) (hlen : vs.length ≤ 9223372036854775807) :
    Calls Tryd.prog 22 #[.slice ao vs.length c] w fun x w' => x = .returned (.tuple #[.string ⟨(encR vs).1.toArray⟩, .int .i64 (encR vs).2]) ∧ Tch (fun _ => False) w w' := by
  by_cases h8 : 8 < vs.length
  · have h8' : (8 : Int) < vs.length := by omega
    have e : encR vs = ([], 44) := by unfold encR; rw [if_pos h8]
    rw [e]
    clear hao hrow hi e
    go_enter Tryd.func22, Tryd.ntmps22
    go_wp2
    go_ret2
    exact ⟨rfl, Tch.refl _ _⟩
  · have h8' : ¬ (8 : Int) < vs.length := by omega
    have HR : Hid (encR vs = encGo vs [UInt8.ofNat vs.length]) := by show _ = _; unfold encR; rw [if_neg h8]
    have HG : Hid (∀ W, Tch (fun i => w.heap.size ≤ i) w W → RowAt W g o vs) := fun W t => hrow.tch t (fun hv => by have := hrow.lt hv; omega)
    have HI : Hid (∀ v ∈ vs, v.i64) := hi
    have HAO : Hid (vs ≠ [] → ao = some ⟨g, o, none⟩) := hao
    clear hrow hi hao
    go_enter Tryd.func22, Tryd.ntmps22
    go_wp2_with (go_at_call 42; refine (xnewWriter_any _).mono ?_; rintro x w1 ⟨rfl, h1, t1, z1⟩; have T1 := no_mono (S := fun i => w.heap.size ≤ i) t1)
    refine (xwbyte1 _ [] vs.length _ _ h1 z1 (by omega) (by omega) (by simp)).mono ?_
    rintro x w2 ⟨rfl, h2, t2⟩
    have T2 := (T1.allocR _).trans' (eq_mono t2 (Nat.le_refl _))
    clear T1 t1 t2 h1 z1
    simp only [List.nil_append, Int.toNat_natCast] at h2
    go_wp2_with fail
    go_loopw [5] (fun i wr => ∃ (k : Nat) (bs : List UInt8), i = .int .i64 k ∧ k ≤ vs.length ∧ Hid (encR vs = encGo (vs.drop k) bs) ∧ bs.length ≤ 1 + 211 * k ∧ XW wr w.heap.size (bsA bs) 0 ∧ Tch (fun i => w.heap.size ≤ i) w wr) (fun i _ => vs.length - (intOf i).toNat)
    case atStart => exact ⟨0, _, rfl, Nat.zero_le _, by show _ = _; rw [HR.out]; rfl, by simp, h2, T2⟩
    case round =>
      obtain ⟨k, bs, rfl, hk, HA, hbl, hW, hT⟩ := hrel
      clear h2 T2
      by_cases hkl : k < vs.length
      · have hkl' : (k : Int) < vs.length := by omega
        obtain rfl := HAO.out (by intro e; rw [e] at hkl; simp at hkl)
        obtain ⟨v, hv⟩ : ∃ v, v = vs[k] := ⟨_, rfl⟩
        obtain ⟨c0, c1, c2⟩ := rowAt_get (HG.out wr hT) k hkl hv
        have HV : Hid (encGo (vs.drop k) bs = if wrg v = 0 then encGo (vs.drop (k + 1)) (bs ++ encV v) else ([], wrg v)) := by
          show _ = _
          rw [List.drop_eq_getElem_cons hkl, ← hv]; rfl
        have hvi := HI.out v (by rw [hv]; exact List.getElem_mem hkl)
        have HC : Hid (∀ W, Tch (fun i => w.heap.size ≤ i) w W → W.cell? ⟨g, o + k * 3, none⟩ = some (.int .i64 v.k) ∧ W.cell? ⟨g, o + k * 3 + 1, none⟩ = some (.int .i64 v.n) ∧ W.cell? ⟨g, o + k * 3 + 2, none⟩ = some (.string v.s)) := fun W t => rowAt_get (HG.out W t) k hkl hv
        obtain ⟨vk, vn, vs'⟩ := v
        simp only at c0 c1 c2
        simp only at HC
        unfold Val.i64 at hvi
        simp only at hvi
        clear hv
        obtain ⟨⟨-, -⟩, hv1, hv2⟩ := hvi
        go_wp2_with fail
        refine (rwrong_any vk vn vs' _).mono ?_
        rintro x w3 ⟨rfl, t3⟩
        have T3 : Tch (fun i => w.heap.size ≤ i) w w3 := hT.trans' (no_mono t3)
        have W3 := hW.tch t3 (fun h => h)
        clear c0 c1 c2 hT t3 hW
        by_cases hw : wrg ⟨vk, vn, vs'⟩ = 0
        · obtain ⟨hf, hs⟩ := wrg_zero hw
          rw [hw]
          have hel := encV_len (v := ⟨vk, vn, vs'⟩) hs
          have HA4 : Hid (encR vs = encGo (vs.drop (k + 1)) (bs ++ encV ⟨vk, vn, vs'⟩)) := by
            show _ = _
            rw [HA.out, HV.out, if_pos hw]
          clear hw HV HA
          obtain ⟨d0, d1, d2⟩ := HC.out w3 T3
          unfold frm at hf
          simp only at hf hs
          rcases hf with ⟨rfl, rfl, hz⟩ | ⟨rfl, hz⟩ | ⟨rfl, rfl⟩ | ⟨rfl, hz, hn⟩
          · go_wp2_with fail
            refine (xwbyte1 _ bs 0 _ _ W3 rfl (by omega) (by omega) (by omega)).mono ?_
            rintro x w4 ⟨rfl, W4, t4⟩
            have T4 := (T3.allocR _).trans' (eq_mono t4 (Nat.le_refl _))
            clear d0 d1 d2 T3 W3 t4
            have W5 : XW w4 w.heap.size (bsA (bs ++ encV ⟨0, 0, vs'⟩)) 0 := W4
            clear W4
            go_wp2_with fail
            go_roundw
            case rel => exact ⟨k + 1, _, by go_num, by omega, HA4, by rw [List.length_append]; omega, W5, T4⟩
            case measure => simp [intOf]; omega
          · go_wp2_with fail
            refine (xwbyte1 _ bs 1 _ _ W3 rfl (by omega) (by omega) (by omega)).mono ?_
            rintro x w4 ⟨rfl, W4, t4⟩
            have T4 := (T3.allocR _).trans' (eq_mono t4 (Nat.le_refl _))
            clear d0 d1 d2 T3 W3 t4
            obtain ⟨d0, d1, d2⟩ := HC.out w4 T4
            go_wp2_with fail
            refine (xwint1 _ _ vn _ W4 hv1 hv2 (by rw [List.length_append]; simp; omega)).mono ?_
            rintro x w5 ⟨rfl, W5, t5⟩
            have T5 := T4.trans' (eq_mono t5 (Nat.le_refl _))
            clear d0 d1 d2 T4 W4 t5
            have W6 : XW w5 w.heap.size (bsA (bs ++ encV ⟨1, vn, vs'⟩)) 0 := by
              have e : encV ⟨1, vn, vs'⟩ = [1] ++ dg (fol vn) := rfl
              rw [e, ← List.append_assoc]; exact W5
            clear W5
            go_wp2_with fail
            go_roundw
            case rel => exact ⟨k + 1, _, by go_num, by omega, HA4, by rw [List.length_append]; omega, W6, T5⟩
            case measure => simp [intOf]; omega
          · go_wp2_with fail
            refine (xwbyte1 _ bs 2 _ _ W3 rfl (by omega) (by omega) (by omega)).mono ?_
            rintro x w4 ⟨rfl, W4, t4⟩
            have T4 := (T3.allocR _).trans' (eq_mono t4 (Nat.le_refl _))
            clear d0 d1 d2 T3 W3 t4
            obtain ⟨d0, d1, d2⟩ := HC.out w4 T4
            go_wp2_with fail
            refine (xwtext1 _ _ vs' _ W4 hs (by rw [List.length_append]; simp; omega)).mono ?_
            rintro x w5 ⟨rfl, W5, t5⟩
            have T5 := T4.trans' (eq_mono t5 (Nat.le_refl _))
            clear d0 d1 d2 T4 W4 t5
            have W6 : XW w5 w.heap.size (bsA (bs ++ encV ⟨2, 0, vs'⟩)) 0 := by
              have e : encV ⟨2, 0, vs'⟩ = [2] ++ textL vs' := rfl
              rw [e, ← List.append_assoc]; exact W5
            clear W5
            go_wp2_with fail
            go_roundw
            case rel => exact ⟨k + 1, _, by go_num, by omega, HA4, by rw [List.length_append]; omega, W6, T5⟩
            case measure => simp [intOf]; omega
          · have hn3 : (0 : Int) ≤ 3 + vn ∧ 3 + vn ≤ 255 := by omega
            go_wp2_with fail
            refine (xwbyte1 _ bs (3 + vn) _ _ W3 rfl hn3.1 hn3.2 (by omega)).mono ?_
            rintro x w4 ⟨rfl, W4, t4⟩
            have T4 := (T3.allocR _).trans' (eq_mono t4 (Nat.le_refl _))
            clear d0 d1 d2 T3 W3 t4
            have W5 : XW w4 w.heap.size (bsA (bs ++ encV ⟨3, vn, vs'⟩)) 0 := W4
            clear W4
            go_wp2_with fail
            go_roundw
            case rel => exact ⟨k + 1, _, by go_num, by omega, HA4, by rw [List.length_append]; omega, W5, T4⟩
            case measure => simp [intOf]; omega
        · have HE2 : Hid (encR vs = ([], wrg ⟨vk, vn, vs'⟩)) := by
            show _ = _
            rw [HA.out, HV.out, if_neg hw]
          have T4 := ge_new T3
          clear T3 HV HA
          have hw' : (wrg ⟨vk, vn, vs'⟩ != 0) = true := by simpa using hw
          obtain ⟨e, he⟩ : ∃ e, e = wrg ⟨vk, vn, vs'⟩ := ⟨_, rfl⟩
          rw [← he] at hw' HE2 ⊢
          clear he hw
          go_wp2_with fail
          go_ret2
          rw [HE2.out]
          exact ⟨rfl, T4⟩
      · have hkl' : ¬ (k : Int) < vs.length := by omega
        have HE2 : Hid (encR vs = (bs, 0)) := by
          show _ = _
          rw [HA.out, List.drop_eq_nil_of_le (by omega)]; rfl
        go_wp2_with fail
        refine (xwdone_any _ (bsA bs) 0 _ hW).mono ?_
        rintro x w3 ⟨rfl, t3⟩
        have T4 := ge_new (hT.trans' (no_mono t3))
        go_wp2_with fail
        go_ret2
        rw [HE2.out]
        exact ⟨rfl, T4⟩
end Go.Proofs.YtnjbkkccofjmgaaDoor
