import Derived.Test.YtmegkmhcfehnkaaGreatDoorVLu
/- A text read, by the document: nibble, unquoted. -/
namespace Go.Proofs.YtmegkmhcfehnkaaGreatDoor
open Go.RowKit Go

def nbD (b : UInt8) : Int := match sgD b with
  | some n => n
  | none => -1
theorem sgD_lt {b : UInt8} {n : Nat} (h : sgD b = some n) : n < 16 := by
  unfold sgD at h
  split at h
  · injection h with h; omega
  · split at h
    · injection h with h; omega
    · cases h
set_option maxHeartbeats 1000000 in
set_option maxRecDepth 100000 in
theorem nibble_any (b : UInt8) (w : World) : Calls Tryz.prog 33 #[.int .u8 b.toNat] w fun x w' => x = .returned (.int .i64 (nbD b)) ∧ w' = w := by
  have h8 := b.toNat_lt
  obtain ⟨n, hn⟩ : ∃ n, n = nbD b := ⟨_, rfl⟩
  rw [← hn]
  by_cases h1 : 48 ≤ b.toNat ∧ b.toNat ≤ 57
  · have HN : Hid ((b.toNat : Int) - 48 = n) := by
      show _ = _
      rw [hn]; unfold nbD sgD; rw [if_pos h1]; simp; omega
    have c1 : (48 : Int) ≤ b.toNat := by omega
    have c2 : (b.toNat : Int) ≤ 57 := by omega
    have e0 : ((b.toNat : Int) - 48) % 256 = (b.toNat : Int) - 48 := by omega
    clear h1 hn
    go_enter Tryz.func33, Tryz.ntmps33
    go_wp2
    go_ret
    refine ⟨?_, rfl⟩
    rw [← HN.out]; rfl
  · by_cases h2 : 97 ≤ b.toNat ∧ b.toNat ≤ 102
    · have HN : Hid ((b.toNat : Int) - 97 + 10 = n) := by
        show _ = _
        rw [hn]; unfold nbD sgD; rw [if_neg h1, if_pos h2]; simp; omega
      have c1 : (48 : Int) ≤ b.toNat := by omega
      have c2 : ¬ (b.toNat : Int) ≤ 57 := by omega
      have c3 : (97 : Int) ≤ b.toNat := by omega
      have c4 : (b.toNat : Int) ≤ 102 := by omega
      have e0 : ((b.toNat : Int) - 97) % 256 = (b.toNat : Int) - 97 := by omega
      clear h1 h2 hn
      go_enter Tryz.func33, Tryz.ntmps33
      go_wp2
      go_ret
      refine ⟨?_, rfl⟩
      rw [← HN.out]; rfl
    · have HN : Hid (-1 = n) := by
        show _ = _
        rw [hn]; unfold nbD sgD; rw [if_neg h1, if_neg h2]
      have hcase : (¬ (48 : Int) ≤ b.toNat) ∨ ((48 : Int) ≤ b.toNat ∧ ¬ (b.toNat : Int) ≤ 57 ∧ ¬ (97 : Int) ≤ b.toNat) ∨ ((48 : Int) ≤ b.toNat ∧ ¬ (b.toNat : Int) ≤ 57 ∧ (97 : Int) ≤ b.toNat ∧ ¬ (b.toNat : Int) ≤ 102) := by omega
      have hx : (¬ (48 : Int) ≤ b.toNat) → ¬ (97 : Int) ≤ b.toNat := by omega
      clear h1 h2 hn
      rcases hcase with c1 | ⟨c1, c2, c3⟩ | ⟨c1, c2, c3, c4⟩
      · have c3 := hx c1
        clear hx
        go_enter Tryz.func33, Tryz.ntmps33
        go_wp2
        go_ret
        exact ⟨by rw [← HN.out]; rfl, rfl⟩
      · clear hx
        go_enter Tryz.func33, Tryz.ntmps33
        go_wp2
        go_ret
        exact ⟨by rw [← HN.out]; rfl, rfl⟩
      · clear hx
        go_enter Tryz.func33, Tryz.ntmps33
        go_wp2
        go_ret
        exact ⟨by rw [← HN.out]; rfl, rfl⟩
def DI (s : List UInt8) (k : Nat) (bs : List UInt8) : Prop := unqD s = (unqD (s.drop k)).map (bs ++ ·)
theorem map_app (o : Option (List UInt8)) (bs : List UInt8) (c : UInt8) : (o.map (c :: ·)).map (bs ++ ·) = o.map ((bs ++ [c]) ++ ·) := by cases o <;> simp
theorem DI.q {s : ByteArray} {k : Nat} {bs : List UInt8} (h : DI s.data.toList k bs) (hk : k + 1 < s.size) (hb : s[k].toNat = 39) (hb2 : s[k + 1].toNat = 39) : DI s.data.toList (k + 2) (bs ++ [39]) := by
  unfold DI at h ⊢
  rw [h, drop_at (k := k) (by omega), drop_at (k := k + 1) hk]
  conv => lhs; unfold unqD
  rw [if_pos hb]
  simp only
  rw [if_pos hb2, map_app]
theorem DI.qn {s : ByteArray} {k : Nat} {bs : List UInt8} (h : DI s.data.toList k bs) (hk : k < s.size) (hb : s[k].toNat = 39) (hb2 : ∀ h1 : k + 1 < s.size, ¬ s[k + 1].toNat = 39) : unqD s.data.toList = none := by
  unfold DI at h
  rw [h, drop_at (k := k) hk]
  unfold unqD
  rw [if_pos hb]
  by_cases hk1 : k + 1 < s.size
  · rw [drop_at (k := k + 1) hk1]
    simp only
    rw [if_neg (hb2 hk1)]; rfl
  · rw [List.drop_eq_nil_of_le (by rw [llen]; omega)]; rfl
theorem DI.e {s : ByteArray} {k m n : Nat} {bs : List UInt8} (h : DI s.data.toList k bs) (hk : k + 2 < s.size) (hb : s[k].toNat = 92) (h1 : sgD s[k + 1] = some m) (h2 : sgD s[k + 2] = some n) : DI s.data.toList (k + 3) (bs ++ [UInt8.ofNat (16 * m + n)]) := by
  unfold DI at h ⊢
  rw [h, drop_at (k := k) (by omega), drop_at (k := k + 1) (by omega), drop_at (k := k + 1 + 1) (by omega)]
  conv => lhs; unfold unqD
  rw [if_neg (by omega), if_pos hb]
  simp only
  rw [h1, show sgD s[k + 1 + 1] = some n from h2]
  simp only
  rw [map_app]
theorem DI.en {s : ByteArray} {k : Nat} {bs : List UInt8} (h : DI s.data.toList k bs) (hk : k < s.size) (hb : s[k].toNat = 92) (hb2 : ∀ h1 : k + 2 < s.size, sgD s[k + 1] = none ∨ sgD s[k + 2] = none) : unqD s.data.toList = none := by
  unfold DI at h
  rw [h, drop_at (k := k) hk]
  unfold unqD
  rw [if_neg (by omega), if_pos hb]
  by_cases hk1 : k + 1 < s.size
  · by_cases hk2 : k + 2 < s.size
    · rw [drop_at (k := k + 1) hk1, drop_at (k := k + 1 + 1) (by omega)]
      simp only
      rcases hb2 hk2 with h3 | h3
      · rw [h3]; rfl
      · rw [show sgD s[k + 1 + 1] = none from h3]
        cases sgD s[k + 1] <;> rfl
    · rw [drop_at (k := k + 1) hk1, List.drop_eq_nil_of_le (by rw [llen]; omega)]; rfl
  · rw [List.drop_eq_nil_of_le (by rw [llen]; omega)]; rfl
theorem DI.p {s : ByteArray} {k : Nat} {bs : List UInt8} (h : DI s.data.toList k bs) (hk : k < s.size) (hb : ¬ s[k].toNat = 39) (hb2 : ¬ s[k].toNat = 92) : DI s.data.toList (k + 1) (bs ++ [s[k]]) := by
  unfold DI at h ⊢
  rw [h, drop_at (k := k) hk]
  conv => lhs; unfold unqD
  rw [if_neg hb, if_neg hb2, map_app]
theorem DI.end {s : ByteArray} {k : Nat} {bs : List UInt8} (h : DI s.data.toList k bs) (hk : s.size ≤ k) : unqD s.data.toList = some bs := by
  unfold DI at h
  rw [h, List.drop_eq_nil_of_le (by rw [llen]; omega)]
  simp [unqD]
/-- What the document's unquoted tells. -/
def RU (s : ByteArray) (x : Ending) : Prop := (∀ t, unqD s.data.toList = some t → x = .returned (.tuple #[.string ⟨t.toArray⟩, .bool true])) ∧ (unqD s.data.toList = none → x = .returned (.tuple #[.string ⟨#[]⟩, .bool false]))
theorem RU.some {s : ByteArray} {t : List UInt8} (h : unqD s.data.toList = some t) : RU s (.returned (.tuple #[.string ⟨t.toArray⟩, .bool true])) := ⟨(fun t' h' => by rw [h] at h'; injection h' with h'; rw [h']), (fun h' => by rw [h] at h'; cases h')⟩
theorem RU.none {s : ByteArray} (h : unqD s.data.toList = none) : RU s (.returned (.tuple #[.string ⟨#[]⟩, .bool false])) := ⟨(fun t' h' => by rw [h] at h'; cases h'), fun _ => rfl⟩

set_option maxHeartbeats 4000000 in
set_option maxRecDepth 100000 in
theorem runquoted_any (s : ByteArray) (hs : s.size ≤ 1048576) (w : World) :
    Calls Tryz.prog 14 #[.string s] w fun x w' => RU s x ∧ Tch (fun _ => False) w w' := by
  obtain ⟨i0, hi, hz0, hz1, hz2⟩ := info_byte'
  go_enter Tryz.func14, Tryz.ntmps14
  go_wp2_with fail
  go_loopw [4, 5] (fun v iv wr => ∃ (k : Nat) (bs : List UInt8), iv = .int .i64 k ∧ k ≤ s.size ∧ bs.length ≤ k ∧ Hid (DI s.data.toList k bs) ∧ Hid (wr.ownsRow w.heap.size 5 1 v bs.length (Lib.byteCells bs)) ∧ Hid (Tch (fun i => w.heap.size ≤ i) w wr)) (fun _ iv _ => s.size + 4 - (RowKit.intOf iv).toNat)
  case atStart => exact ⟨0, [], rfl, by omega, by simp, by show unqD _ = _; simp, World.ownsRow_nil _ _ _ _, Tch.refl _ _⟩
  case round =>
    obtain ⟨k, bs, rfl, hk, hbl, HU, Hown, HT⟩ := hrel
    obtain ⟨wV, hwV⟩ : ∃ wV, wV = wr := ⟨_, rfl⟩
    subst hwV
    obtain ⟨ao, cp, hv⟩ := slice_of Hown.out
    subst hv
    have HG : Hid (∀ g, (Value.slice ao bs.length cp).ownBlock = some g → w.heap.size ≤ g) := fun g hk => ownBlock_ge Hown.out hk.symm
    have HO : Hid (∀ W, Tch (fun _ => False) wV W → W.ownsRow w.heap.size 5 1 (.slice ao bs.length cp) bs.length (Lib.byteCells bs)) := fun W t => ownsRow_tch Hown.out t (fun _ _ _ h => h)
    have hwr := HT.out.size
    by_cases hlt : (k : Int) < s.size
    · have hks : k < s.size := by omega
      have HEnd : Hid (∀ (k' : Nat) (c : UInt8) (W w1 : World) (v' : Value), k < k' → k' ≤ s.size → DI s.data.toList k' (bs ++ [c]) → w1.ownsRow w.heap.size 5 1 v' (bs.length + 1) (Lib.byteCells bs ++ Lib.byteCells [c]) → Tch (fun _ => False) wV W → W.grownBy w1 (Value.slice ao bs.length cp).ownBlock →
          ((∃ (k_1 : Nat) (bs_1 : List UInt8), Value.int .i64 (k' : Int) = .int .i64 k_1 ∧ k_1 ≤ s.size ∧ bs_1.length ≤ k_1 ∧ Hid (DI s.data.toList k_1 bs_1) ∧ Hid (w1.ownsRow w.heap.size 5 1 v' bs_1.length (Lib.byteCells bs_1)) ∧ Hid (Tch (fun i => w.heap.size ≤ i) w w1)) ∧ s.size + 4 - (RowKit.intOf (Value.int .i64 (k' : Int))).toNat < s.size + 4 - (RowKit.intOf (Value.int .i64 (k : Int))).toNat)) := fun k' c W w1 v' h1 h2 hu ho t hgr => by
        refine ⟨⟨k', bs ++ [c], rfl, h2, by rw [List.length_append, List.length_singleton]; omega, hu, ?_, ?_⟩, by simp [RowKit.intOf]; omega⟩
        · show World.ownsRow _ _ _ _ _ _ _
          rw [Lib.byteCells_append, List.length_append]; exact ho
        · exact (HT.out.trans' (no_mono t)).trans' (grown_tch hgr HG.out)
      have HTn : Hid (Tch (fun _ => False) w wV) := ge_new HT.out
      have hx8 := s[k].toNat_lt
      by_cases h39 : s[k].toNat = 39
      · have h39' : (s[k].toNat : Int) = 39 := by omega
        by_cases hk1 : k + 1 < s.size
        · have hk1I : ¬ (s.size : Int) ≤ (k : Int) + 1 := by omega
          have hk1J : (k : Int) + 1 < s.size := by omega
          by_cases h39b : s[k + 1].toNat = 39
          · have HX : Hid (DI s.data.toList (k + 2) (bs ++ [39])) := HU.out.q hk1 h39 h39b
            have hb1 : k + 2 ≤ s.size := by omega
            have h39c : (s[k + 1].toNat : Int) = 39 := by omega
            clear h39 h39b hx8
            go_wp2_with (at_builtin; refine wpList_append_own _ rfl _ _ 64 rfl w.heap.size 5 i0 (.int .u8 0) 1 1 Tryz.underlying64 hi hz0 hz1 hz2 rfl (by decide) (.slice ao bs.length cp) _ _ rfl (HO.out _ (Tch.alloc _ _ _)) ⟨wV.heap.size, 0, none⟩ 1 1 (Lib.byteCells [39]) rfl rfl (byteCells_get (fun j hj => by rcases j with _ | j <;> simp at hj ⊢ <;> omega)) (Lib.byteCells_one _) (by unfold maxLen; omega) (by omega) (by simp; omega) ?_; intro v' w1 hown' hgr hnil; obtain ⟨ao', cp', hv'⟩ := slice_of hown'; subst hv'; clear hnil)
            have h := HEnd.out (k + 2) 39 _ w1 _ (by omega) hb1 HX.out hown' (Tch.alloc _ _ _) hgr
            rw [show ((k + 2 : Nat) : Int) = (k : Int) + 1 + 1 by omega] at h
            exact h
          · have HX : Hid (RU s (.returned (.tuple #[.string ⟨#[]⟩, .bool false]))) := RU.none (HU.out.qn hks h39 (fun _ => h39b))
            have h39c : ¬ (s[k + 1].toNat : Int) = 39 := by omega
            have h39d : ((s[k + 1].toNat : Int) == 39) = false := beq_eq_false_iff_ne.2 h39c
            clear h39 h39b hx8
            go_wp2_with fail
            go_ret2
            exact ⟨HX.out, HTn.out⟩
        · have HX : Hid (RU s (.returned (.tuple #[.string ⟨#[]⟩, .bool false]))) := RU.none (HU.out.qn hks h39 (fun h => absurd h hk1))
          have hk1I : (s.size : Int) ≤ (k : Int) + 1 := by omega
          clear h39 hx8
          go_wp2_with fail
          go_ret2
          exact ⟨HX.out, HTn.out⟩
      · have h39' : ¬ (s[k].toNat : Int) = 39 := by omega
        have h39b : ((s[k].toNat : Int) == 39) = false := beq_eq_false_iff_ne.2 h39'
        by_cases h92 : s[k].toNat = 92
        · have h92' : (s[k].toNat : Int) = 92 := by omega
          by_cases hk2 : k + 2 < s.size
          · have hk2I : ¬ (s.size : Int) ≤ (k : Int) + 2 := by omega
            have hk2J : (k : Int) + 2 < s.size := by omega
            have hk1J : (k : Int) + 1 < s.size := by omega
            have h1N : k + 1 < s.size := by omega
            obtain ⟨x1, hx1⟩ : ∃ x1, x1 = nbD s[k + 1] := ⟨_, rfl⟩
            obtain ⟨x2, hx2⟩ : ∃ x2, x2 = nbD s[k + 2] := ⟨_, rfl⟩
            have q1 : Hid (∀ W, Calls Tryz.prog 33 #[.int .u8 s[k + 1].toNat] W fun x w' => x = .returned (.int .i64 x1) ∧ w' = W) := fun W => by rw [hx1]; exact nibble_any _ W
            have q2 : Hid (∀ W, Calls Tryz.prog 33 #[.int .u8 s[k + 2].toNat] W fun x w' => x = .returned (.int .i64 x2) ∧ w' = W) := fun W => by rw [hx2]; exact nibble_any _ W
            by_cases hok : sgD s[k + 1] = none ∨ sgD s[k + 2] = none
            · have HX : Hid (RU s (.returned (.tuple #[.string ⟨#[]⟩, .bool false]))) := RU.none (HU.out.en hks h92 (fun _ => hok))
              have hcase : x1 < 0 ∨ (¬ x1 < 0 ∧ x2 < 0) := by
                by_cases h : x1 < 0
                · exact Or.inl h
                · refine Or.inr ⟨h, ?_⟩
                  rcases hok with e | e
                  · exact absurd (by rw [hx1]; unfold nbD; rw [e]; simp) h
                  · rw [hx2]; unfold nbD; rw [e]; simp
              clear h39 h92 hx8 hok hx1 hx2
              rcases hcase with c1 | ⟨c1, c2⟩
              all_goals
                go_wp2_with fail
                refine (q1.out _).mono ?_
                rintro y w1 ⟨rfl, hw1⟩
                obtain rfl := hw1.symm
                clear hw1
                go_wp2_with fail
                refine (q2.out _).mono ?_
                rintro y w1 ⟨rfl, hw1⟩
                obtain rfl := hw1.symm
                clear hw1
                go_wp2_with fail
                go_ret2
                exact ⟨HX.out, HTn.out⟩
            · obtain ⟨m1, e1⟩ : ∃ m1, sgD s[k + 1] = some m1 := by
                cases h : sgD s[k + 1] with
                | none => exact absurd (Or.inl h) hok
                | some m1 => exact ⟨m1, rfl⟩
              obtain ⟨m2, e2⟩ : ∃ m2, sgD s[k + 2] = some m2 := by
                cases h : sgD s[k + 2] with
                | none => exact absurd (Or.inr h) hok
                | some m1 => exact ⟨m1, rfl⟩
              have hx1' : x1 = m1 := by rw [hx1]; unfold nbD; rw [e1]
              have hx2' : x2 = m2 := by rw [hx2]; unfold nbD; rw [e2]
              have hm1 := sgD_lt e1
              have hm2 := sgD_lt e2
              obtain ⟨c, hc⟩ : ∃ c, c = UInt8.ofNat (16 * m1 + m2) := ⟨_, rfl⟩
              have HX : Hid (DI s.data.toList (k + 3) (bs ++ [c])) := by rw [hc]; exact HU.out.e hk2 h92 e1 e2
              have hce : 16 * (m1 : Int) + m2 = (c.toNat : Int) := by rw [hc]; simp; omega
              have hb1 : k + 3 ≤ s.size := by omega
              have c8 := c.toNat_lt
              rw [hx1'] at q1
              rw [hx2'] at q2
              have Hce : Hid _ := hce
              clear h39 h92 hx8 hok hx1 hx2 hx1' hx2' hc hce e1 e2
              go_wp2_with fail
              refine (q1.out _).mono ?_
              rintro y w1 ⟨rfl, hw1⟩
              obtain rfl := hw1.symm
              clear hw1
              go_wp2_with fail
              refine (q2.out _).mono ?_
              rintro y w1 ⟨rfl, hw1⟩
              obtain rfl := hw1.symm
              clear hw1
              have hce := Hce.out
              go_wp2_with (at_builtin; refine wpList_append_own _ rfl _ _ 64 rfl w.heap.size 5 i0 (.int .u8 0) 1 1 Tryz.underlying64 hi hz0 hz1 hz2 rfl (by decide) (.slice ao bs.length cp) _ _ rfl (HO.out _ (Tch.alloc _ _ _)) ⟨wV.heap.size, 0, none⟩ 1 1 (Lib.byteCells [c]) rfl rfl (byteCells_get (fun j hj => by rcases j with _ | j <;> simp at hj ⊢ <;> omega)) (Lib.byteCells_one _) (by unfold maxLen; omega) (by omega) (by simp; omega) ?_; intro v' w1 hown' hgr hnil; obtain ⟨ao', cp', hv'⟩ := slice_of hown'; subst hv'; clear hnil)
              have h := HEnd.out (k + 3) c _ w1 _ (by omega) hb1 HX.out hown' (Tch.alloc _ _ _) hgr
              rw [show ((k + 3 : Nat) : Int) = (k : Int) + 2 + 1 by omega] at h
              exact h
          · have HX : Hid (RU s (.returned (.tuple #[.string ⟨#[]⟩, .bool false]))) := RU.none (HU.out.en hks h92 (fun h => absurd h hk2))
            have hk2I : (s.size : Int) ≤ (k : Int) + 2 := by omega
            clear h39 h92 hx8
            go_wp2_with fail
            go_ret2
            exact ⟨HX.out, HTn.out⟩
        · have HX : Hid (DI s.data.toList (k + 1) (bs ++ [s[k]])) := HU.out.p hks h39 h92
          have hb1 : k + 1 ≤ s.size := by omega
          have h92' : ¬ (s[k].toNat : Int) = 92 := by omega
          have h92b : ((s[k].toNat : Int) == 92) = false := beq_eq_false_iff_ne.2 h92'
          clear h39 h92
          go_wp2_with (at_builtin; refine wpList_append_own _ rfl _ _ 64 rfl w.heap.size 5 i0 (.int .u8 0) 1 1 Tryz.underlying64 hi hz0 hz1 hz2 rfl (by decide) (.slice ao bs.length cp) _ _ rfl (HO.out _ (Tch.alloc _ _ _)) ⟨wV.heap.size, 0, none⟩ 1 1 (Lib.byteCells [s[k]]) rfl rfl (byteCells_get (fun j hj => by rcases j with _ | j <;> simp at hj ⊢ <;> omega)) (Lib.byteCells_one _) (by unfold maxLen; omega) (by omega) (by simp; omega) ?_; intro v' w1 hown' hgr hnil; obtain ⟨ao', cp', hv'⟩ := slice_of hown'; subst hv'; clear hnil)
          have h := HEnd.out (k + 1) s[k] _ w1 _ (by omega) hb1 HX.out hown' (Tch.alloc _ _ _) hgr
          rw [show ((k + 1 : Nat) : Int) = (k : Int) + 1 by omega] at h
          exact h
    · have hcv := conv_row Hown.out
      have HR : Hid (RU s (.returned (.tuple #[.string ⟨bs.toArray⟩, .bool true]))) := RU.some (HU.out.end (by omega))
      go_wp2_with fail
      go_ret2
      exact ⟨HR.out, ge_new HT.out⟩
end Go.Proofs.YtmegkmhcfehnkaaGreatDoor
