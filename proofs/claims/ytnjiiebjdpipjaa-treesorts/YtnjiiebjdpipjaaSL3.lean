import Derived.Test.YtnjiiebjdpipjaaSLr
/- TreeSorts: loop 3: each key is there, or was taken. -/
namespace Go.Proofs.Ytnjiiebjdpipjaa.S
open Go.RowKit Go

/-- Has a key been among the first so many. -/
def tkn (gl : List ByteArray) (x : ByteArray) (j : Nat) : Bool := (gl.take j).any (fun y => decide (y = x))
theorem tkn_zero (gl : List ByteArray) (x : ByteArray) : tkn gl x 0 = false := rfl
theorem tkn_succ {gl : List ByteArray} {j : Nat} {y : ByteArray} (h : gl[j]? = some y) (x : ByteArray) : tkn gl x (j + 1) = (tkn gl x j || decide (y = x)) := by
  unfold tkn
  rw [List.take_add_one, h]
  simp
theorem tkn_iff (gl : List ByteArray) (x : ByteArray) : tkn gl x 2000 = true ↔ Ky gl 2000 x := by
  unfold tkn Ky
  rw [List.any_eq_true]
  constructor
  · rintro ⟨y, hy, e⟩
    rw [← of_decide_eq_true e]; exact hy
  · intro h
    exact ⟨x, h, decide_eq_true rfl⟩
theorem str_beq (y k : ByteArray) : (y.toList == k.toList) = decide (y = k) := by
  by_cases e : y = k
  · subst e; simp
  · rw [decide_eq_false e]
    refine beq_eq_false_iff_ne.2 (fun h => e ?_)
    rw [Lib.toList_data, Lib.toList_data] at h
    obtain ⟨d⟩ := y
    obtain ⟨d'⟩ := k
    have : d = d' := Array.ext' h
    rw [this]
theorem tkn_end {gl : List ByteArray} {x : ByteArray} {j : Nat} (h : gl.length ≤ j ∧ j ≤ 2000) : tkn gl x j = tkn gl x 2000 := by
  unfold tkn
  rw [List.take_of_length_le h.1, List.take_of_length_le (by omega)]
set_option maxHeartbeats 4000000 in
set_option maxRecDepth 100000 in
theorem loop3 (w W : World) (b : Nat) (l : List It) (ht : Nat) (F : List Nat) (ub D kb : Nat) (kl gl : List ByteArray) (ko go : Option Addr) (kcp gcp : Nat) (HZ : Hid (UZ w b l ht F ub D W)) (HE : Hid (FE l (fun x => Ky kl 2000 x ∧ ¬ Ky gl 2000 x)))
    (HK : Hid (SR w ko kl ∧ w.heap[kb]? = some (.cells #[.slice ko kl.length kcp] 35 (0, 0)))) (HG : Hid (SR w go gl)) (hkl : kl.length ≤ 9223372036854775807) (hgl : gl.length ≤ 9223372036854775807) {T : Array Value} {r i7 i16 c : Value}
    (hf : Fz T (.slice go gl.length gcp) (pv kb) r (pv b) i7 (pv ub) i16 (.int .i64 0) c) (Q0 : Exit → Act → World → Prop)
    (Hexit : Hid (∀ (T' : Array Value) (i20' : Value) (W' : World), Fz T' (.slice go gl.length gcp) (pv kb) r (pv b) i7 (pv ub) i16 i20' c → UZ w b l ht F ub D W' → Q0 (.exit 6) ⟨T', [mkD D]⟩ W')) :
    Code.wp Try.prog (Code.loop sBody3) Q0 ⟨T, [mkD D]⟩ W := by
  refine hf.use (P := fun T => Code.wp Try.prog (Code.loop sBody3) Q0 ⟨T, [mkD D]⟩ W) ?_
  clear hf T
  intro u
  obtain ⟨n, hn⟩ : ∃ n, n = kl.length := ⟨_, rfl⟩
  obtain ⟨g, hg⟩ : ∃ g, g = gl.length := ⟨_, rfl⟩
  have Hn : Hid (n = kl.length) := hn
  have Hg : Hid (g = gl.length) := hg
  have hnI : (n : Int) ≤ 9223372036854775807 := by omega
  have hgI : (g : Int) ≤ 9223372036854775807 := by omega
  rw [← hn] at HK
  rw [← hg] at Hexit ⊢
  clear hn hkl hg hgl
  conv => arg 2; arg 1; whnf
  go_loopw [20] (fun s20 wr => ∃ (W : World) (i : Nat), W = wr ∧ s20 = .int .i64 i ∧ i ≤ 2000 ∧ i ≤ n ∧ Hid (UZ w b l ht F ub D W)) (fun s20 _ => 2000 - (intOf s20).toNat)
  case atStart => exact ⟨_, 0, rfl, rfl, by omega, by omega, HZ⟩
  case round =>
    obtain ⟨wv, i, rfl, rfl, hi, hin, HF⟩ := hrel
    clear HZ
    have hkb : wv.heap[kb]? = some (.cells #[.slice ko n kcp] 35 (0, 0)) := (HF.out.tc.block _ (blk_lt HK.out.2) (fun h => h)).trans HK.out.2
    have y0 : wv.cell? ⟨kb, 0, none⟩ = some (.slice ko n kcp) := by rw [blk_cell hkb]; rfl
    by_cases hlt : (i : Int) < n
    · by_cases h2 : (i : Int) < 2000
      · obtain ⟨k, hk⟩ : ∃ k, kl[i]? = some k := ⟨kl[i]'(by have := Hn.out; omega), List.getElem?_eq_getElem _⟩
        obtain ⟨kg, kof, e, hc⟩ := (HK.out.1.no HF.out.tc) i k hk
        subst e
        have Hk : Hid (kl[i]? = some k) := hk
        have HC : Hid (∀ W, Tch (fun _ => False) wv W → W.cell? ⟨kb, 0, none⟩ = some (.slice (some ⟨kg, kof, none⟩) n kcp) ∧ W.cell? ⟨kg, kof + i, none⟩ = some (.string k)) := fun W t => ⟨(t.cell (blk_lt hkb) (fun h => h)).trans y0, (t.cell (cell_lt hc) (fun h => h)).trans hc⟩
        clear hk hkb
        go_wp2_with fail
        go_loopw [21, 22] (fun s21 s22 wr => ∃ (W : World) (j : Nat), W = wr ∧ s21 = .bool (tkn gl k j) ∧ s22 = .int .i64 j ∧ j ≤ 2000 ∧ j ≤ g ∧ Hid (Tch (fun _ => False) wv W)) (fun _ s22 _ => 2000 - (intOf s22).toNat)
        case atStart => exact ⟨_, 0, rfl, rfl, rfl, by omega, by omega, Tch.refl _ _⟩
        case round =>
          obtain ⟨wx, j, rfl, rfl, rfl, hj, hjg, HT⟩ := hrel
          clear y0 hc
          obtain ⟨y0, hc⟩ := HC.out wx HT.out
          by_cases hlj : (j : Int) < g
          · by_cases hj2 : (j : Int) < 2000
            · obtain ⟨y, hy⟩ : ∃ y, gl[j]? = some y := ⟨gl[j]'(by have := Hg.out; omega), List.getElem?_eq_getElem _⟩
              obtain ⟨gg, gof, e, hc2⟩ := (HG.out.no (HF.out.tc.trans' HT.out)) j y hy
              subst e
              have hts := tkn_succ hy k
              have Hts : Hid (tkn gl k (j + 1) = (tkn gl k j || decide (y = k))) := hts
              clear hts hy
              obtain ⟨tk, htk⟩ : ∃ tk, tk = tkn gl k j := ⟨_, rfl⟩
              rw [← htk] at Hts ⊢
              clear htk
              cases tk with
              | true =>
                go_wp2_with fail
                go_quiet (fail)
                go_wp2_with fail
                exact ⟨⟨_, j + 1, rfl, by rw [Hts.out]; rfl, by go_num, by omega, by omega, HT.out.drewN _⟩, by simp [intOf]; omega⟩
              | false =>
                go_wp2_with fail
                go_quiet (fail)
                go_wp2_with fail
                exact ⟨⟨_, j + 1, rfl, by rw [Hts.out, str_beq]; rfl, by go_num, by omega, by omega, HT.out.drewN _⟩, by simp [intOf]; omega⟩
            · have ej : j = 2000 := by omega
              subst ej
              have hN : ∃ th, th = !(tkn gl k 2000) ∧ Calls Try.prog 18 #[pv b, .string k] wx fun x w' => (∃ v, x = .returned (.tuple #[ev v, .bool th])) ∧ Tch (fun _ => False) wx w' := by
                refine ⟨_, rfl, (get_t wx b l ht F k (HF.out.tw.tch HT.out (fun _ _ h => h))).mono ?_⟩
                rintro x w' ⟨⟨v, th, rfl, hr⟩, t2⟩
                refine ⟨⟨v, ?_⟩, t2⟩
                have hkk : Ky kl 2000 k := by
                  unfold Ky
                  rw [List.mem_iff_getElem?]
                  exact ⟨i, by rw [List.getElem?_take, if_pos (by omega)]; exact Hk.out⟩
                rcases HE.out.get hr with ⟨rfl, _, h9⟩ | ⟨rfl, _, h9⟩
                · have : tkn gl k 2000 = false := by
                    cases hb : tkn gl k 2000 with
                    | false => rfl
                    | true => exact absurd ((tkn_iff gl k).1 hb) h9.2
                  rw [this]; rfl
                · have : tkn gl k 2000 = true := by
                    cases hb : tkn gl k 2000 with
                    | true => rfl
                    | false => exact absurd ⟨hkk, fun h => by rw [(tkn_iff gl k).2 h] at hb; cases hb⟩ h9
                  rw [this]; rfl
              obtain ⟨th, hth, q⟩ := hN
              obtain ⟨tk, htk⟩ : ∃ tk, tk = tkn gl k 2000 := ⟨_, rfl⟩
              rw [← htk] at hth
              rw [← htk]
              clear htk
              subst hth
              have HZ2 : Hid (∀ W, Tch (fun _ => False) wx W → UZ w b l ht F ub D W) := fun W t => HF.out.no (HT.out.trans' t)
              cases tk with
              | true =>
                have q' : Calls Try.prog 18 #[pv b, .string k] wx fun x w' => (∃ v, x = .returned (.tuple #[ev v, .bool false])) ∧ Tch (fun _ => False) wx w' := q
                clear q
                go_wp2_with fail
                refine q'.mono ?_
                clear q' y0 hc
                rintro x w4 ⟨⟨v, rfl⟩, t4⟩
                have H4 : Hid (UZ w b l ht F ub D w4) := HZ2.out w4 t4
                clear t4
                go_wp2_with fail
                refine ⟨⟨_, i + 1, rfl, by go_num, by omega, by omega, H4⟩, by simp [intOf]; omega⟩
              | false =>
                have q' : Calls Try.prog 18 #[pv b, .string k] wx fun x w' => (∃ v, x = .returned (.tuple #[ev v, .bool true])) ∧ Tch (fun _ => False) wx w' := q
                clear q
                go_wp2_with fail
                refine q'.mono ?_
                clear q' y0 hc
                rintro x w4 ⟨⟨v, rfl⟩, t4⟩
                have H4 : Hid (UZ w b l ht F ub D w4) := HZ2.out w4 t4
                clear t4
                go_wp2_with fail
                refine ⟨⟨_, i + 1, rfl, by go_num, by omega, by omega, H4⟩, by simp [intOf]; omega⟩
          · have ej : tkn gl k j = tkn gl k 2000 := tkn_end ⟨by have := Hg.out; omega, hj⟩
            rw [ej]
            clear ej
            have hN : ∃ th, th = !(tkn gl k 2000) ∧ Calls Try.prog 18 #[pv b, .string k] wx fun x w' => (∃ v, x = .returned (.tuple #[ev v, .bool th])) ∧ Tch (fun _ => False) wx w' := by
              refine ⟨_, rfl, (get_t wx b l ht F k (HF.out.tw.tch HT.out (fun _ _ h => h))).mono ?_⟩
              rintro x w' ⟨⟨v, th, rfl, hr⟩, t2⟩
              refine ⟨⟨v, ?_⟩, t2⟩
              have hkk : Ky kl 2000 k := by
                unfold Ky
                rw [List.mem_iff_getElem?]
                exact ⟨i, by rw [List.getElem?_take, if_pos (by omega)]; exact Hk.out⟩
              rcases HE.out.get hr with ⟨rfl, _, h9⟩ | ⟨rfl, _, h9⟩
              · have : tkn gl k 2000 = false := by
                  cases hb : tkn gl k 2000 with
                  | false => rfl
                  | true => exact absurd ((tkn_iff gl k).1 hb) h9.2
                rw [this]; rfl
              · have : tkn gl k 2000 = true := by
                  cases hb : tkn gl k 2000 with
                  | true => rfl
                  | false => exact absurd ⟨hkk, fun h => by rw [(tkn_iff gl k).2 h] at hb; cases hb⟩ h9
                rw [this]; rfl
            obtain ⟨th, hth, q⟩ := hN
            obtain ⟨tk, htk⟩ : ∃ tk, tk = tkn gl k 2000 := ⟨_, rfl⟩
            rw [← htk] at hth
            rw [← htk]
            clear htk
            subst hth
            have HZ2 : Hid (∀ W, Tch (fun _ => False) wx W → UZ w b l ht F ub D W) := fun W t => HF.out.no (HT.out.trans' t)
            cases tk with
            | true =>
              have q' : Calls Try.prog 18 #[pv b, .string k] wx fun x w' => (∃ v, x = .returned (.tuple #[ev v, .bool false])) ∧ Tch (fun _ => False) wx w' := q
              clear q
              go_wp2_with fail
              refine q'.mono ?_
              clear q' y0 hc
              rintro x w4 ⟨⟨v, rfl⟩, t4⟩
              have H4 : Hid (UZ w b l ht F ub D w4) := HZ2.out w4 t4
              clear t4
              go_wp2_with fail
              refine ⟨⟨_, i + 1, rfl, by go_num, by omega, by omega, H4⟩, by simp [intOf]; omega⟩
            | false =>
              have q' : Calls Try.prog 18 #[pv b, .string k] wx fun x w' => (∃ v, x = .returned (.tuple #[ev v, .bool true])) ∧ Tch (fun _ => False) wx w' := q
              clear q
              go_wp2_with fail
              refine q'.mono ?_
              clear q' y0 hc
              rintro x w4 ⟨⟨v, rfl⟩, t4⟩
              have H4 : Hid (UZ w b l ht F ub D w4) := HZ2.out w4 t4
              clear t4
              go_wp2_with fail
              refine ⟨⟨_, i + 1, rfl, by go_num, by omega, by omega, H4⟩, by simp [intOf]; omega⟩
      · obtain rfl : i = 2000 := by omega
        have HX := Hexit
        clear Hexit hkb
        go_wp2_with fail
        exact HX.out _ _ _ ⟨rfl, rfl, rfl, rfl, rfl, rfl, rfl, rfl, rfl, rfl⟩ HF.out
    · have HX := Hexit
      clear Hexit hkb
      go_wp2_with fail
      exact HX.out _ _ _ ⟨rfl, rfl, rfl, rfl, rfl, rfl, rfl, rfl, rfl, rfl⟩ HF.out
end Go.Proofs.Ytnjiiebjdpipjaa.S
