import Derived.Test.YtmegkmhcfehnkaaGreatDoorVLy
import Derived.Test.YtmegkmhcfehnkaaGreatDoorVLru
/- Parse, by the document. -/
namespace Go.Proofs.YtmegkmhcfehnkaaGreatDoor
open Go.RowKit Go Go.Lib

theorem rparse_res (tmps : Array Value) (W : World) (p : Nat) (k n : Int) (s : ByteArray) (e : Int) (c0 : W.cell? ⟨p, 0, none⟩ = some (.int .i64 k)) (c1 : W.cell? ⟨p, 1, none⟩ = some (.int .i64 n)) (c2 : W.cell? ⟨p, 2, none⟩ = some (.string s)) (h2 : tmps[2]?.getD undef = .pointer (some ⟨p, 0, none⟩)) (h3 : tmps[3]?.getD undef = .int .i64 e) :
    (results Tryz.f6 tmps).run Tryz.prog W = .ok (.tuple #[vA k n s, .int .i64 e]) W := by
  have hrs : Tryz.f6.results = #[.cell 2 23, .tmp 3] := by kernel_rfl
  simp only [results, hrs]
  go_simp
theorem str_ne' {s : ByteArray} {l : List UInt8} (h : s ≠ ⟨l.toArray⟩) : (s.toList == l) = false := by
  have h := str_ne h
  rw [ByteArray.toList_eq ⟨l.toArray⟩] at h
  simpa using h
theorem unqD_len : ∀ (n : Nat) (l r : List UInt8), l.length ≤ n → unqD l = some r → r.length ≤ l.length := by
  intro n
  induction n with
  | zero => intro l r h e; obtain rfl := List.length_eq_zero_iff.1 (by omega : l.length = 0); simp [unqD] at e; subst e; simp
  | succ n ih =>
    intro l r h e
    have hmap : ∀ (c : UInt8) (l' : List UInt8), l'.length + 1 ≤ l.length → (unqD l').map (c :: ·) = some r → r.length ≤ l.length := fun c l' hl e => by
      cases hu : unqD l' with
      | none => rw [hu] at e; cases e
      | some r' =>
        rw [hu] at e
        injection e with e
        rw [← e, List.length_cons]
        have := ih l' r' (by omega) hu
        omega
    cases l with
    | nil => simp [unqD] at e; subst e; simp
    | cons b l =>
      unfold unqD at e
      split at e
      · split at e
        · rename_i c r'
          split at e
          · exact hmap _ r' (by simp) e
          · cases e
        · cases e
      · split at e
        · split at e
          · rename_i x y r'
            split at e
            · exact hmap _ r' (by simp) e
            · cases e
          · cases e
        · exact hmap _ l (by simp) e
theorem mid_list (s : ByteArray) : (s.extract 1 (s.size - 1)).data.toList = (s.data.toList.drop 1).take (s.size - 2) := by
  rw [ByteArray.data_extract, Array.toList_extract, List.extract_eq_take_drop]
  rfl
theorem mid_size (s : ByteArray) : (s.extract 1 (s.size - 1)).size ≤ s.size := by
  rw [← llen, mid_list, List.length_take, List.length_drop, llen]; omega
theorem head39 {s : ByteArray} (h : s.data.toList[0]? = some 39) (n : Int) : itoa n ≠ s.data.toList := fun e => by
  obtain ⟨c, r, e2, hc⟩ := itoa_head n
  rw [← e, e2] at h
  injection h with h
  subst h
  revert hc; decide
theorem qt_ends {s : ByteArray} {t : List UInt8} (h : qt t = s.data.toList) : 2 ≤ s.size ∧ s.data.toList[0]? = some 39 ∧ s.data.toList[s.size - 1]? = some 39 := by
  obtain ⟨h1, h2, _⟩ := qt_parts h
  rw [llen] at h1
  refine ⟨h1, by rw [← h]; rfl, ?_⟩
  rw [List.getLast?_eq_getElem?, llen] at h2
  exact h2
set_option maxHeartbeats 8000000 in
set_option maxRecDepth 100000 in
theorem rparse_any (s : ByteArray) (hs : s.size ≤ 1048576) (w : World) :
    Calls Tryz.prog 6 #[.string s] w fun x w' => (∃ v e, x = .returned (.tuple #[vA v.k v.n v.s, .int .i64 e]) ∧ PS s v e) ∧ Tch (fun _ => False) w w' := by
  have HFin : Hid (∀ W, Tch (fun _ => False) (w.alloc (.cells #[.int .i64 0, .int .i64 0, .string ⟨#[]⟩] 23)) W → ∀ (k n : Int) (s : ByteArray) (e : Int) (tmps : Array Value), tmps[2]?.getD undef = .pointer (some ⟨w.heap.size, 0, none⟩) → tmps[3]?.getD undef = .int .i64 e →
      (results Tryz.f6 tmps).run Tryz.prog (((W.setCell ⟨w.heap.size, 0, none⟩ (.int .i64 k)).setCell ⟨w.heap.size, 1, none⟩ (.int .i64 n)).setCell ⟨w.heap.size, 2, none⟩ (.string s)) = .ok (.tuple #[vA k n s, .int .i64 e]) (((W.setCell ⟨w.heap.size, 0, none⟩ (.int .i64 k)).setCell ⟨w.heap.size, 1, none⟩ (.int .i64 n)).setCell ⟨w.heap.size, 2, none⟩ (.string s)) ∧ Tch (fun _ => False) w (((W.setCell ⟨w.heap.size, 0, none⟩ (.int .i64 k)).setCell ⟨w.heap.size, 1, none⟩ (.int .i64 n)).setCell ⟨w.heap.size, 2, none⟩ (.string s))) := fun W t k n s e tmps h2 h3 => by
    obtain ⟨c0, c1, c2⟩ := box_tch t
    obtain ⟨d0, d1, d2⟩ := box_set W w.heap.size _ _ _ (.int .i64 k) (.int .i64 n) (.string s) c0 c1 c2
    refine ⟨rparse_res tmps _ w.heap.size k n s e d0 d1 d2 h2 h3, ?_⟩
    exact (((Tch.alloc (fun _ => False) w _).trans' t).trans (box_set_tch W w.heap.size _ _ _) (fun i hi he => by omega))
  have HBx : Hid (∀ W, Tch (fun _ => False) (w.alloc (.cells #[.int .i64 0, .int .i64 0, .string ⟨#[]⟩] 23)) W → (W.cell? ⟨w.heap.size, 0, none⟩ = some (.int .i64 0) ∧ W.cell? ⟨w.heap.size, 1, none⟩ = some (.int .i64 0) ∧ W.cell? ⟨w.heap.size, 2, none⟩ = some (.string ⟨#[]⟩)) ∧ W.frozen? ⟨w.heap.size, 0, none⟩ = false ∧ W.frozen? ⟨w.heap.size, 1, none⟩ = false ∧ W.frozen? ⟨w.heap.size, 2, none⟩ = false) := fun W t =>
    ⟨box_tch t, (t.frozen (p := ⟨_, _, none⟩) (by simp) (fun h => h)).trans (by simp), (t.frozen (p := ⟨_, _, none⟩) (by simp) (fun h => h)).trans (by simp), (t.frozen (p := ⟨_, _, none⟩) (by simp) (fun h => h)).trans (by simp)⟩
  by_cases h1 : s = ⟨#[110, 117, 108, 108]⟩
  · subst h1
    have HP : Hid (PS ⟨#[110, 117, 108, 108]⟩ ⟨0, 0, ⟨#[]⟩⟩ 0) := Or.inl ⟨rfl, rfl, rfl⟩
    go_enter Tryz.func6, Tryz.ntmps6
    go_wp2_with fail
    obtain ⟨d0, d1, d2⟩ := box_cells w (.int .i64 0) (.int .i64 0) (.string ⟨#[]⟩) 23
    exact bodyPost_ret (rparse_res _ _ w.heap.size 0 0 ⟨#[]⟩ 0 d0 d1 d2 rfl rfl) rfl ⟨⟨_, _, rfl, HP.out⟩, Tch.alloc _ _ _⟩
  by_cases h2 : s = ⟨#[102, 97, 108, 115, 101]⟩
  · subst h2
    have HP : Hid (PS ⟨#[102, 97, 108, 115, 101]⟩ ⟨3, 0, ⟨#[]⟩⟩ 0) := Or.inr (Or.inl ⟨rfl, rfl, rfl⟩)
    go_enter Tryz.func6, Tryz.ntmps6
    go_wp2_with fail
    obtain ⟨d0, d1, d2⟩ := box_cells w (.int .i64 3) (.int .i64 0) (.string ⟨#[]⟩) 23
    exact bodyPost_ret (rparse_res _ _ w.heap.size 3 0 ⟨#[]⟩ 0 d0 d1 d2 rfl rfl) rfl ⟨⟨_, _, rfl, HP.out⟩, Tch.alloc _ _ _⟩
  by_cases h3 : s = ⟨#[116, 114, 117, 101]⟩
  · subst h3
    have HP : Hid (PS ⟨#[116, 114, 117, 101]⟩ ⟨3, 1, ⟨#[]⟩⟩ 0) := Or.inr (Or.inr (Or.inl ⟨rfl, rfl, rfl⟩))
    go_enter Tryz.func6, Tryz.ntmps6
    go_wp2_with fail
    obtain ⟨d0, d1, d2⟩ := box_cells w (.int .i64 3) (.int .i64 1) (.string ⟨#[]⟩) 23
    exact bodyPost_ret (rparse_res _ _ w.heap.size 3 1 ⟨#[]⟩ 0 d0 d1 d2 rfl rfl) rfl ⟨⟨_, _, rfl, HP.out⟩, Tch.alloc _ _ _⟩
  have hne : noW s := ⟨h1, h2, h3⟩
  have n0 : (s.toList == [110, 117, 108, 108]) = false := str_ne' h1
  have n1 : (s.toList == [102, 97, 108, 115, 101]) = false := str_ne' h2
  have n2 : (s.toList == [116, 114, 117, 101]) = false := str_ne' h3
  have Hne : Hid (noW s) := hne
  clear hne h1 h2 h3
  by_cases hq : 2 ≤ s.size ∧ s.data.toList[0]? = some 39 ∧ s.data.toList[s.size - 1]? = some 39
  · have Hq0 : Hid (s.data.toList[0]? = some 39) := hq.2.1
    obtain ⟨hz, hq0, hq1⟩ := hq
    rw [getl s 0 (by omega)] at hq0
    rw [getl s (s.size - 1) (by omega)] at hq1
    injection hq0 with hq0
    injection hq1 with hq1
    have a0 : (s[0].toNat : Int) = 39 := by rw [hq0]; rfl
    have hzI : (2 : Int) ≤ s.size := by omega
    have h0I : (0 : Int) < s.size := by omega
    have h1I : (s.size : Int) - 1 < s.size := by omega
    have e1 : IntKind.i64.wrap ((s.size : Int) - 1) = ((s.size - 1 : Nat) : Int) := by rw [wrap_of (by omega) (by omega)]; omega
    have HI1 : Hid (∀ W, (Instr.index 9 (.string s) (.int .i64 ((s.size - 1 : Nat) : Int))).run Tryz.prog W = .ok (.int .u8 39) W) := fun W => by
      have h := str_at s (s.size - 1) (by omega) W
      rw [hq1] at h
      exact h
    have hi1 := HI1.out
    obtain ⟨M, hM⟩ : ∃ M, M = s.extract 1 (s.size - 1) := ⟨_, rfl⟩
    have HM : Hid (M.data.toList = (s.data.toList.drop 1).take (s.size - 2)) := by show _ = _; rw [hM]; exact mid_list s
    have hMs : M.size ≤ 1048576 := by have := mid_size s; rw [← hM] at this; omega
    have q1 := fun W => runquoted_any M hMs W
    have Hq1 : Hid _ := q1
    have HMe : Hid (s.extract 1 (s.size - 1) = M) := hM.symm
    clear q1 hM hq0 hq1
    go_enter Tryz.func6, Tryz.ntmps6
    go_wp2_with fail
    rw [HMe.out]
    refine (Hq1.out _).mono ?_
    rintro y w1 ⟨hRU, t1⟩
    obtain ⟨⟨z0, z1, z2⟩, f0, f1, f2⟩ := HBx.out w1 t1
    cases hU : unqD M.data.toList with
    | none =>
      obtain rfl := hRU.2 hU
      have HT : Hid _ := t1
      have HP : Hid (PS s ⟨0, 0, ⟨#[]⟩⟩ 43) := Or.inr (Or.inr (Or.inr ⟨Hne.out, Or.inr (Or.inr ⟨fun t e => ?_, fun n _ => head39 Hq0.out n, rfl, rfl⟩)⟩))
      · clear hRU hU t1
        go_wp2_with fail
        refine bodyPost_ret (HFin.out w1 HT.out 0 0 ⟨#[]⟩ 43 _ ?_ ?_).1 rfl ⟨⟨⟨0, 0, ⟨#[]⟩⟩, 43, rfl, HP.out⟩, (HFin.out w1 HT.out 0 0 ⟨#[]⟩ 43 #[undef, undef, .pointer (some ⟨w.heap.size, 0, none⟩), .int .i64 43] rfl rfl).2⟩ <;> rfl
      · obtain ⟨_, _, h3⟩ := qt_parts e
        rw [llen] at h3
        rw [HM.out, h3, unqD_escs] at hU
        cases hU
    | some t =>
      obtain rfl := hRU.1 t hU
      have htl : t.length ≤ M.size := by
        have key : ∀ (n : Nat) (l r : List UInt8), l.length ≤ n → unqD l = some r → r.length ≤ l.length := unqD_len
        have := key _ M.data.toList t (Nat.le_refl _) hU
        rwa [llen] at this
      have htz := bs_size t
      have q2 := fun W => rquoted_any ⟨t.toArray⟩ W (by omega)
      have hqd : qtd ⟨t.toArray⟩ = qt t := by rw [qtd_qt]
      rw [hqd] at q2
      have Hq2 : Hid _ := q2
      obtain ⟨l, hl⟩ : ∃ l : ByteArray, l = ⟨(qt t).toArray⟩ := ⟨_, rfl⟩
      rw [← hl] at Hq2
      obtain ⟨T, hT⟩ : ∃ T : ByteArray, T = ⟨t.toArray⟩ := ⟨_, rfl⟩
      rw [← hT] at Hq2 htz ⊢
      have Hl : Hid (l = ⟨(qt t).toArray⟩ ∧ T = ⟨t.toArray⟩ ∧ T.size = t.length) := ⟨hl, hT, htz⟩
      have hTs : T.size ≤ 1048576 := by omega
      have HU : Hid (unqD M.data.toList = some t) := hU
      clear hRU hU q2 hqd hl hT htl htz
      go_wp2_with fail
      refine (Hq2.out _).mono ?_
      rintro y w2 ⟨rfl, t2⟩
      have HT : Hid _ := t1.trans' t2
      clear z0 z1 z2 f0 f1 f2
      obtain ⟨⟨z0, z1, z2⟩, f0, f1, f2⟩ := HBx.out w2 HT.out
      clear t1 t2
      by_cases he : l = s
      · have Hqs : Hid (qt t = s.data.toList) := by rw [Hl.out.1] at he; exact str_of.1 he
        subst he
        by_cases h200 : (200 : Int) < T.size
        · have HP : Hid (PS l ⟨0, 0, ⟨#[]⟩⟩ 42) := Or.inr (Or.inr (Or.inr ⟨Hne.out, Or.inl ⟨t, Hqs.out, Or.inr ⟨by have := Hl.out.2.2; omega, rfl, rfl⟩⟩⟩))
          go_wp2_with fail
          refine bodyPost_ret (HFin.out w2 HT.out 0 0 ⟨#[]⟩ 42 _ ?_ ?_).1 rfl ⟨⟨⟨0, 0, ⟨#[]⟩⟩, 42, rfl, HP.out⟩, (HFin.out w2 HT.out 0 0 ⟨#[]⟩ 42 #[undef, undef, .pointer (some ⟨w.heap.size, 0, none⟩), .int .i64 42] rfl rfl).2⟩ <;> rfl
        · have HP : Hid (PS l ⟨2, 0, T⟩ 0) := Or.inr (Or.inr (Or.inr ⟨Hne.out, Or.inl ⟨t, Hqs.out, Or.inl ⟨by have := Hl.out.2.2; omega, by rw [Hl.out.2.1], rfl⟩⟩⟩))
          go_wp2_with fail
          refine bodyPost_ret (HFin.out w2 HT.out 2 0 T 0 _ ?_ ?_).1 rfl ⟨⟨⟨2, 0, T⟩, 0, rfl, HP.out⟩, (HFin.out w2 HT.out 2 0 T 0 #[undef, undef, .pointer (some ⟨w.heap.size, 0, none⟩), .int .i64 0] rfl rfl).2⟩ <;> rfl
      · have hn := str_ne he
        have HP : Hid (PS s ⟨0, 0, ⟨#[]⟩⟩ 43) := Or.inr (Or.inr (Or.inr ⟨Hne.out, Or.inr (Or.inr ⟨fun t' e => he ?_, fun n _ => head39 Hq0.out n, rfl, rfl⟩)⟩))
        · clear he
          go_wp2_with fail
          refine bodyPost_ret (HFin.out w2 HT.out 0 0 ⟨#[]⟩ 43 _ ?_ ?_).1 rfl ⟨⟨⟨0, 0, ⟨#[]⟩⟩, 43, rfl, HP.out⟩, (HFin.out w2 HT.out 0 0 ⟨#[]⟩ 43 #[undef, undef, .pointer (some ⟨w.heap.size, 0, none⟩), .int .i64 43] rfl rfl).2⟩ <;> rfl
        · obtain ⟨_, _, h3⟩ := qt_parts e
          rw [llen] at h3
          have hU := HU.out
          rw [HM.out, h3, unqD_escs] at hU
          injection hU with hU
          rw [Hl.out.1, ← hU]
          exact str_of.2 e
  · have HnoQ : Hid (∀ t, qt t ≠ s.data.toList) := fun t e => hq (qt_ends e)
    have qn := fun W => rnum_any s hs W
    have Hqn : Hid _ := qn
    have hcase : (¬ (2 : Int) ≤ s.size) ∨ ((2 : Int) ≤ s.size ∧ ∃ h : 0 < s.size, ¬ s[0].toNat = 39) ∨ ((2 : Int) ≤ s.size ∧ (∃ h : 0 < s.size, s[0].toNat = 39) ∧ ∃ h : s.size - 1 < s.size, ¬ s[s.size - 1].toNat = 39) := by
      by_cases hz : 2 ≤ s.size
      · have hp : 0 < s.size := by omega
        have hp1 : s.size - 1 < s.size := by omega
        by_cases hb : s[0].toNat = 39
        · refine Or.inr (Or.inr ⟨by omega, ⟨hp, hb⟩, hp1, fun hl => hq ⟨hz, ?_, ?_⟩⟩)
          · rw [getl s 0 hp, u39 hb]
          · rw [getl s _ hp1, u39 hl]
        · exact Or.inr (Or.inl ⟨by omega, hp, hb⟩)
      · exact Or.inl (by omega)
    clear qn hq
    have HNum : Hid (∀ N ok, (ok = true → i64v N ∧ itoa N = s.data.toList) → (∀ m, i64v m → itoa m = s.data.toList → ok = true) → (ok = true → PS s ⟨1, N, ⟨#[]⟩⟩ 0) ∧ (ok = false → PS s ⟨0, 0, ⟨#[]⟩⟩ 43)) := fun N ok h1 h2 => ⟨fun h => Or.inr (Or.inr (Or.inr ⟨Hne.out, Or.inr (Or.inl ⟨N, (h1 h).1, (h1 h).2, rfl, rfl⟩)⟩)), fun h => Or.inr (Or.inr (Or.inr ⟨Hne.out, Or.inr (Or.inr ⟨HnoQ.out, (fun n hn e => by rw [h2 n hn e] at h; cases h), rfl, rfl⟩)⟩))⟩
    rcases hcase with c1 | ⟨c1, hp, c2⟩ | ⟨c1, ⟨hp, c2⟩, hp1, c3⟩
    · skip
      go_enter Tryz.func6, Tryz.ntmps6
      go_wp2_with fail
      refine (Hqn.out _).mono ?_
      rintro y w1 ⟨⟨N, ok, rfl, g1, g2⟩, hw1⟩
      subst hw1
      have HP : Hid _ := HNum.out N ok g1 g2
      clear g1 g2
      cases ok with
      | true =>
        go_wp2_with fail
        obtain ⟨d0, d1, d2⟩ := box_cells w (.int .i64 1) (.int .i64 N) (.string ⟨#[]⟩) 23
        exact bodyPost_ret (rparse_res _ _ w.heap.size 1 N ⟨#[]⟩ 0 d0 d1 d2 rfl rfl) rfl ⟨⟨⟨1, N, ⟨#[]⟩⟩, 0, rfl, HP.out.1 trivial⟩, Tch.alloc _ _ _⟩
      | false =>
        go_wp2_with fail
        obtain ⟨d0, d1, d2⟩ := box_cells w (.int .i64 0) (.int .i64 0) (.string ⟨#[]⟩) 23
        exact bodyPost_ret (rparse_res _ _ w.heap.size 0 0 ⟨#[]⟩ 43 d0 d1 d2 rfl rfl) rfl ⟨⟨⟨0, 0, ⟨#[]⟩⟩, 43, rfl, HP.out.2 trivial⟩, Tch.alloc _ _ _⟩
    · have a0 : ((s[0].toNat : Int) == 39) = false := beq_eq_false_iff_ne.2 (by omega)
      have h0I : (0 : Int) < s.size := by omega
      clear c2
      go_enter Tryz.func6, Tryz.ntmps6
      go_wp2_with fail
      refine (Hqn.out _).mono ?_
      rintro y w1 ⟨⟨N, ok, rfl, g1, g2⟩, hw1⟩
      subst hw1
      have HP : Hid _ := HNum.out N ok g1 g2
      clear g1 g2
      cases ok with
      | true =>
        go_wp2_with fail
        obtain ⟨d0, d1, d2⟩ := box_cells w (.int .i64 1) (.int .i64 N) (.string ⟨#[]⟩) 23
        exact bodyPost_ret (rparse_res _ _ w.heap.size 1 N ⟨#[]⟩ 0 d0 d1 d2 rfl rfl) rfl ⟨⟨⟨1, N, ⟨#[]⟩⟩, 0, rfl, HP.out.1 trivial⟩, Tch.alloc _ _ _⟩
      | false =>
        go_wp2_with fail
        obtain ⟨d0, d1, d2⟩ := box_cells w (.int .i64 0) (.int .i64 0) (.string ⟨#[]⟩) 23
        exact bodyPost_ret (rparse_res _ _ w.heap.size 0 0 ⟨#[]⟩ 43 d0 d1 d2 rfl rfl) rfl ⟨⟨⟨0, 0, ⟨#[]⟩⟩, 43, rfl, HP.out.2 trivial⟩, Tch.alloc _ _ _⟩
    · have a0 : (s[0].toNat : Int) = 39 := by omega
      have h0I : (0 : Int) < s.size := by omega
      have e1 : IntKind.i64.wrap ((s.size : Int) - 1) = ((s.size - 1 : Nat) : Int) := by rw [wrap_of (by omega) (by omega)]; omega
      have hi1 := fun W => str_at s (s.size - 1) hp1 W
      have a1 : ((s[s.size - 1].toNat : Int) == 39) = false := beq_eq_false_iff_ne.2 (by omega)
      clear c2 c3
      go_enter Tryz.func6, Tryz.ntmps6
      go_wp2_with fail
      refine (Hqn.out _).mono ?_
      rintro y w1 ⟨⟨N, ok, rfl, g1, g2⟩, hw1⟩
      subst hw1
      have HP : Hid _ := HNum.out N ok g1 g2
      clear g1 g2
      cases ok with
      | true =>
        go_wp2_with fail
        obtain ⟨d0, d1, d2⟩ := box_cells w (.int .i64 1) (.int .i64 N) (.string ⟨#[]⟩) 23
        exact bodyPost_ret (rparse_res _ _ w.heap.size 1 N ⟨#[]⟩ 0 d0 d1 d2 rfl rfl) rfl ⟨⟨⟨1, N, ⟨#[]⟩⟩, 0, rfl, HP.out.1 trivial⟩, Tch.alloc _ _ _⟩
      | false =>
        go_wp2_with fail
        obtain ⟨d0, d1, d2⟩ := box_cells w (.int .i64 0) (.int .i64 0) (.string ⟨#[]⟩) 23
        exact bodyPost_ret (rparse_res _ _ w.heap.size 0 0 ⟨#[]⟩ 43 d0 d1 d2 rfl rfl) rfl ⟨⟨⟨0, 0, ⟨#[]⟩⟩, 43, rfl, HP.out.2 trivial⟩, Tch.alloc _ _ _⟩
end Go.Proofs.YtmegkmhcfehnkaaGreatDoor
