/- The document's disk: Load. -/
import Derived.Test.YtngdgglgmmlmkaaRef3
import Derived.Test.YtngdgglgmmlmkaaQTail
namespace Go.Proofs.Ytngdgglgmmlmkaa
open Go.RowKit Go.ChangeMaps Go.Sort

theorem Up.get_lt {x : Nm} : ∀ {m : List (Nm × Fl)}, (∀ p ∈ m, bytesBefore x p.1 = true) → getL x m = none := fun {m} h => by
  cases hg : getL x m with
  | none => rfl
  | some a =>
    have := h _ (getL_mem hg)
    rw [before_irrefl] at this
    cases this
theorem up_ext : ∀ {m m' : List (Nm × Fl)}, Up m → Up m' → (∀ x, getL x m = getL x m') → m = m'
  | [], [], _, _, _ => rfl
  | [], q :: s, _, _, h => by
    have := h q.1
    simp [getL] at this
  | p :: r, [], _, _, h => by
    have := h p.1
    simp [getL] at this
  | p :: r, q :: s, h1, h2, h => by
    obtain ⟨a1, a2⟩ := List.pairwise_cons.1 h1
    obtain ⟨b1, b2⟩ := List.pairwise_cons.1 h2
    have e : p.1 = q.1 := by
      cases hb : bytesBefore p.1 q.1
      · by_cases hn : p.1 = q.1
        · exact hn
        · exfalso
          have hq := before_total hb hn
          have h3 : getL q.1 (p :: r) = none := Up.get_lt (fun y hy => by
            rcases List.mem_cons.1 hy with rfl | hy
            · exact hq
            · exact before_trans hq (a1 y hy))
          have := h q.1
          rw [h3] at this
          simp [getL] at this
      · exfalso
        have h3 : getL p.1 (q :: s) = none := Up.get_lt (fun y hy => by
          rcases List.mem_cons.1 hy with rfl | hy
          · exact hb
          · exact before_trans hb (b1 y hy))
        have := h p.1
        rw [h3] at this
        simp [getL] at this
    have e2 : p.2 = q.2 := by
      have := h p.1
      rw [show getL p.1 (p :: r) = some p.2 by simp [getL], e, show getL q.1 (q :: s) = some q.2 by simp [getL]] at this
      exact Option.some.inj this
    have e3 : p = q := Prod.ext e e2
    subst e3
    congr 1
    refine up_ext a2 b2 (fun x => ?_)
    by_cases hx : p.1 = x
    · rw [← hx, Up.get_lt a1, Up.get_lt b1]
    · have := h x
      simpa [getL, hx] using this
theorem Up.put {m : List (Nm × Fl)} (h : Up m) (n : Nm) (a : Fl) : Up (putL n a m) := Up.ins (List.Pairwise.filter _ h) (getL_delL_same n m)
theorem up_names {m m' : List (Nm × Fl)} (h : Up m) (e : m'.map (·.1) = m.map (·.1)) : Up m' := by
  unfold Up at *
  have h1 : (m.map (·.1)).Pairwise (fun x y => bytesBefore x y = true) := List.pairwise_map.2 h
  rw [← e] at h1
  exact List.pairwise_map.1 h1
theorem Up.set {m : List (Nm × Fl)} (h : Up m) (n : Nm) (a : Fl) : Up (setL n a m) := up_names h (names_setL n a m)
theorem up_mk2 (nm : Nat → ByteArray) : ∀ k, Up (mk2 nm k)
  | 0 => List.Pairwise.nil
  | k + 1 => (up_mk2 nm k).put _ _
theorem up_mk3 (nm bs : Nat → ByteArray) (n : Nat) : ∀ k, Up (mk3 nm bs n k)
  | 0 => up_mk2 nm n
  | k + 1 => (up_mk3 nm bs n k).set _ _
theorem mk3_names (nm bs : Nat → ByteArray) (n : Nat) : ∀ k, (mk3 nm bs n k).map (·.1) = (mk2 nm n).map (·.1)
  | 0 => rfl
  | k + 1 => by rw [mk3, names_setL, mk3_names nm bs n k]
/-- The document's own way. -/
def mkr (nm bs : Nat → ByteArray) : Nat → List (Nm × Fl)
  | 0 => []
  | k + 1 => putL (nm k).data.toList ⟨(bs k).data.toList, (bs k).size⟩ (mkr nm bs k)
theorem up_mkr (nm bs : Nat → ByteArray) : ∀ k, Up (mkr nm bs k)
  | 0 => List.Pairwise.nil
  | k + 1 => (up_mkr nm bs k).put _ _
theorem length_mkr (nm bs : Nat → ByteArray) : ∀ k, (mkr nm bs k).length ≤ k
  | 0 => Nat.le_refl _
  | k + 1 => Nat.le_trans (length_putL_le _ _ _) (Nat.succ_le_succ (length_mkr nm bs k))
theorem mkr_mem (nm bs : Nat → ByteArray) : ∀ k {p : Nm × Fl}, p ∈ mkr nm bs k → ∃ i, i < k ∧ p.1 = (nm i).data.toList
  | 0, _, h => by cases h
  | k + 1, p, h => by
    rcases mem_putL.1 h with rfl | ⟨h, _⟩
    · exact ⟨k, by omega, rfl⟩
    · obtain ⟨i, hi, h2⟩ := mkr_mem nm bs k h
      exact ⟨i, by omega, h2⟩
theorem mkr_has (nm bs : Nat → ByteArray) : ∀ k i, i < k → getL (nm i).data.toList (mkr nm bs k) ≠ none
  | 0, _, h => by omega
  | k + 1, i, h => by
    by_cases e : (nm i).data.toList = (nm k).data.toList
    · rw [mkr, e, getL_putL_same]; exact fun h => by cases h
    · rw [mkr, getL_putL_other e]
      refine mkr_has nm bs k i ?_
      rcases Nat.lt_or_ge i k with h1 | h1
      · exact h1
      · obtain rfl : i = k := by omega
        exact absurd rfl e
theorem mkr_twice (nm bs : Nat → ByteArray) (k : Nat) : (getL (nm k).data.toList (mkr nm bs k)).isSome = (getL (nm k).data.toList (mk2 nm k)).isSome := by
  cases h1 : getL (nm k).data.toList (mkr nm bs k) with
  | some a =>
    obtain ⟨i, hi, e⟩ := mkr_mem nm bs k (getL_mem h1)
    have e' : (nm k).data.toList = (nm i).data.toList := e
    rw [e', mk2_has nm k i hi]
    rfl
  | none =>
    cases h2 : getL (nm k).data.toList (mk2 nm k) with
    | none => rfl
    | some a =>
      obtain ⟨_, i, hi, e⟩ := mk2_mem nm k (getL_mem h2)
      have e' : (nm k).data.toList = (nm i).data.toList := e
      rw [e'] at h1
      exact absurd h1 (mkr_has nm bs k i hi)
theorem mkr_get {nm : Nat → ByteArray} (bs : Nat → ByteArray) {n : Nat} (h : ∀ i, i < n → getL (nm i).data.toList (mk2 nm i) = none) : ∀ k, k ≤ n → ∀ i, i < k → getL (nm i).data.toList (mkr nm bs k) = some ⟨(bs i).data.toList, (bs i).size⟩
  | 0, _, i, hi => by omega
  | k + 1, hk, i, hi => by
    by_cases e : i = k
    · subst e; rw [mkr]; exact getL_putL_same _ _ _
    · have hne := mk2_apart h (show i < k by omega) (by omega)
      rw [mkr, getL_putL_other hne]
      exact mkr_get bs h k (by omega) i (by omega)
theorem mkr_mk3 {nm : Nat → ByteArray} (bs : Nat → ByteArray) {n : Nat} (h : ∀ i, i < n → getL (nm i).data.toList (mk2 nm i) = none) : mkr nm bs n = mk3 nm bs n n := by
  refine up_ext (up_mkr nm bs n) (up_mk3 nm bs n n) (fun x => ?_)
  by_cases hx : ∃ i, i < n ∧ x = (nm i).data.toList
  · obtain ⟨i, hi, rfl⟩ := hx
    rw [mkr_get bs h n (Nat.le_refl _) i hi, mk3_get bs h n (Nat.le_refl _) i hi, if_pos hi]
    simp
  · have h1 : getL x (mkr nm bs n) = none := by
      cases hg : getL x (mkr nm bs n) with
      | none => rfl
      | some a => exact absurd (mkr_mem nm bs n (getL_mem hg)) hx
    have h2 : getL x (mk3 nm bs n n) = none := by
      cases hg : getL x (mk3 nm bs n n) with
      | none => rfl
      | some a =>
        have h3 : x ∈ (mk3 nm bs n n).map (·.1) := List.mem_map.2 ⟨_, getL_mem hg, rfl⟩
        rw [mk3_names] at h3
        obtain ⟨p, hp, e⟩ := List.mem_map.1 h3
        obtain ⟨_, i, hi, e2⟩ := mk2_mem nm n hp
        exact absurd ⟨i, hi, by rw [← e]; exact e2⟩ hx
    rw [h1, h2]
theorem lens_mono (bs : Nat → ByteArray) : ∀ {i j : Nat}, i ≤ j → lens bs i ≤ lens bs j
  | i, 0, h => by obtain rfl : i = 0 := by omega
                  exact Nat.le_refl _
  | i, j + 1, h => by
    by_cases e : i = j + 1
    · rw [e]; exact Nat.le_refl _
    · rw [lens]
      exact Nat.le_trans (lens_mono bs (show i ≤ j by omega)) (Nat.le_add_right _ _)
theorem LoadsBad.uniq {c : Int} {n : Nat} {nm bs : Nat → ByteArray} {e e' : Int} (h : LoadsBad c n nm bs e) (h' : LoadsBad c n nm bs e') : e = e' := by
  rcases h with ⟨h1, rfl⟩ | ⟨h1, ⟨⟨i, hi, h2⟩, rfl⟩ | ⟨h2, ⟨⟨i, hi, h3⟩, rfl⟩ | ⟨h3, _, rfl⟩⟩⟩ <;>
    rcases h' with ⟨g1, rfl⟩ | ⟨g1, ⟨⟨j, hj, g2⟩, rfl⟩ | ⟨g2, ⟨⟨j, hj, g3⟩, rfl⟩ | ⟨g3, _, rfl⟩⟩⟩ <;> first
    | rfl
    | omega
    | exact absurd (g3 i hi) h3
    | exact absurd (h3 j hj) g3
    | exact absurd ((g2 i hi).symm.trans h2) Bool.noConfusion
    | exact absurd ((h2 j hj).symm.trans g2) Bool.noConfusion
theorem LoadsBad.not {c n : Nat} {nm bs : Nat → ByteArray} {e : Int} (h : LoadsBad c n nm bs e) (h' : LoadsOk c n nm bs) : False := by
  have := h'.c1
  have := h'.c2
  rcases h with ⟨h1, _⟩ | ⟨_, ⟨⟨i, hi, h2⟩, _⟩ | ⟨_, ⟨⟨i, hi, h3⟩, _⟩ | ⟨_, ⟨i, hi, h4⟩, _⟩⟩⟩
  · omega
  · rw [h'.ok i hi] at h2; cases h2
  · exact h3 (h'.once i hi)
  · have := h'.room i hi; omega
theorem LoadsBad.ne0 {c : Int} {n : Nat} {nm bs : Nat → ByteArray} {e : Int} (h : LoadsBad c n nm bs e) : e ≠ 0 := by
  rcases h with ⟨_, rfl⟩ | ⟨_, ⟨_, rfl⟩ | ⟨_, ⟨_, rfl⟩ | ⟨_, _, rfl⟩⟩⟩ <;> decide

set_option maxHeartbeats 4000000 in
set_option maxRecDepth 100000 in
theorem rload_any (c : Nat) (ao : Option Addr) (n cap : Nat) (nm bs : Nat → ByteArray) (w : World) (h1 : 1 ≤ c) (h2 : c ≤ 1000000000) (hL : FLs w ao n nm bs) (hn : (n + 1) * 40 ≤ 140737488355328) (hs : lens bs n ≤ 4611686018427387904) :
    Calls Try.prog 53 #[.int .i64 c, .slice ao n cap] w fun x w' => ((∃ e, LoadsBad c n nm bs e ∧ x = .returned (.tuple #[.pointer none, .int .i64 e])) ∨ LoadsOk c n nm bs ∧ ∃ rb v, x = .returned (.tuple #[.pointer (some ⟨rb, 0, none⟩), .int .i64 0]) ∧ RW w' rb (mkD c (mk3 nm bs n n)) v 0 ∧ w.heap.size ≤ rb ∧ ∀ g, v.ownBlock = some g → w.heap.size ≤ g) ∧ Tch (fun _ => False) w w' := by
  have hn63 : n ≤ 9223372036854775807 := by omega
  have HL : Hid (∀ W, Tch (fun _ => False) w W → FLs W ao n nm bs) := fun W t => hL.no t
  clear hL
  go_enter Try.func53, Try.ntmps53
  go_wp2_with fail
  refine (rnew_any c _ h1 h2).mono ?_
  rintro x w1 ⟨rb, rfl, hR1, hrb, t1⟩
  have HT1 : Hid (Tch (fun _ => False) w w1) := t1
  have HR1 : Hid (RW w1 rb (newD c) (.slice none 0 0) 0) := hR1
  clear t1 hR1
  go_wp2_with fail
  go_loopw [8] (fun i wr => ∃ k : Nat, i = .int .i64 k ∧ k ≤ n ∧ Hid (∀ i, i < k → okN (nm i).data.toList = true) ∧ wr = w1) (fun i _ => n - (intOf i).toNat)
  case atStart => exact ⟨0, rfl, by omega, fun i hi => by omega, rfl⟩
  case round =>
    obtain ⟨k, rfl, hk, hok, hwr⟩ := hrel
    subst hwr
    by_cases hlt : (k : Int) < n
    · obtain ⟨ab, off, rfl, c0, c1⟩ := HL.out wr HT1.out k (by omega)
      have hi := named_any (nm k) wr
      cases ho : okN (nm k).data.toList
      · rw [ho] at hi
        have HB : Hid (LoadsBad c n nm bs 20) := Or.inr ⟨by omega, Or.inl ⟨⟨k, by omega, ho⟩, rfl⟩⟩
        go_wp2_with fail
        refine hi.mono ?_
        rintro x w5 ⟨rfl, hw5⟩
        subst hw5
        go_wp2
        go_ret2
        exact ⟨Or.inl ⟨20, HB.out, rfl⟩, HT1.out⟩
      · rw [ho] at hi
        have HO : Hid (∀ i, i < k + 1 → okN (nm i).data.toList = true) := fun i hi => by
          rcases Nat.lt_or_ge i k with h | h
          · exact hok.out i h
          · obtain rfl : i = k := by omega
            exact ho
        go_wp2_with fail
        refine hi.mono ?_
        rintro x w5 ⟨rfl, hw5⟩
        subst hw5
        go_wp2
        go_roundw
        case rel => exact ⟨k + 1, by go_num, by omega, HO, trivial⟩
        case measure => simp [intOf]; omega
    · obtain rfl : n = k := by omega
      have hOK := hok
      go_wp2_with fail
      go_loopw [10] (fun i wr => ∃ (k : Nat) (v : Value), i = .int .i64 k ∧ k ≤ n ∧ Hid (∀ i, i < k → getL (nm i).data.toList (mk2 nm i) = none) ∧ RW wr rb (mkD c (mkr nm bs k)) v 0 ∧ Hid (∀ g, v.ownBlock = some g → w.heap.size ≤ g) ∧ Tch (fun _ => False) w wr) (fun i _ => n - (intOf i).toNat)
      case atStart => exact ⟨0, .slice none 0 0, rfl, by omega, fun i hi => by omega, HR1.out, fun g e => (by cases e), HT1.out⟩
      case round =>
        obtain ⟨k, v, rfl, hk, hno, hR, hv, hT⟩ := hrel
        by_cases hlt : (k : Int) < n
        · obtain ⟨ab, off, rfl, c0, c1⟩ := HL.out wr hT k (by omega)
          have hlm := length_mkr nm bs k
          have hf := rfind_any rb _ v 0 (nm k) wr hR (by show (mkr nm bs k).length ≤ _; omega)
          rw [show (mkD c (mkr nm bs k)).m = mkr nm bs k from rfl, mkr_twice] at hf
          obtain ⟨pos, hpos⟩ : ∃ pos, pos = posL (nm k).data.toList (mkr nm bs k) := ⟨_, rfl⟩
          rw [← hpos] at hf
          clear hpos
          cases hg : getL (nm k).data.toList (mk2 nm k) with
          | some a =>
            rw [hg] at hf
            have HB : Hid (LoadsBad c n nm bs 22) := Or.inr ⟨by omega, Or.inr ⟨hOK.out, Or.inl ⟨⟨k, by omega, by rw [hg]; exact fun h => by cases h⟩, rfl⟩⟩⟩
            have HT : Hid (∀ m, Tch (fun _ => False) w (wr.drewN m)) := fun m => hT.drewN m
            clear hR hT hlm
            go_wp2_with fail
            refine hf.mono ?_
            rintro x w5 ⟨rfl, m5, hw5⟩
            subst hw5
            go_wp2
            go_ret2
            exact ⟨Or.inl ⟨22, HB.out, rfl⟩, HT.out _⟩
          | none =>
            have hgr : getL (nm k).data.toList (mkr nm bs k) = none := by
              have := mkr_twice nm bs k
              rw [hg] at this
              cases h3 : getL (nm k).data.toList (mkr nm bs k) with
              | none => rfl
              | some a => rw [h3] at this; cases this
            rw [hg] at hf
            have HNO : Hid (∀ i, i < k + 1 → getL (nm i).data.toList (mk2 nm i) = none) := fun i hi => by
              rcases Nat.lt_or_ge i k with h | h
              · exact hno.out i h
              · obtain rfl : i = k := by omega
                exact hg
            have HP : Hid (∀ m, Calls Try.prog 61 #[.pointer (some ⟨rb, 0, none⟩), .agg #[.string (nm k), .string (bs k), .int .i64 ((bs k).size : Nat)]] (wr.drewN m) fun x w' => x = .returned (.tuple #[]) ∧ ∃ v', RW w' rb (mkD c (mkr nm bs (k + 1))) v' 0 ∧ (∀ g, v'.ownBlock = some g → (wr.drewN m).heap.size ≤ g) ∧ Tch (fun i => i = rb) (wr.drewN m) w') := fun m =>
              rput_any rb (mkD c (mkr nm bs k)) v 0 (nm k) (bs k) (bs k).size (wr.drewN m) (hR.drewN m) (by show ((mkr nm bs k).length + 1) * 40 ≤ _; omega) hgr
            have HC : Hid (∀ m, (wr.drewN m).cell? ⟨ab, off + k * 2, none⟩ = some (.string (nm k)) ∧ (wr.drewN m).cell? ⟨ab, off + k * 2 + 1, none⟩ = some (.string (bs k))) := fun m => ⟨by rw [← c0]; exact ((Tch.refl (fun _ => False) wr).drewN m).cell (p := ⟨ab, _, none⟩) (cell_lt c0) (fun h => h), by rw [← c1]; exact ((Tch.refl (fun _ => False) wr).drewN m).cell (p := ⟨ab, _, none⟩) (cell_lt c1) (fun h => h)⟩
            have HT : Hid (∀ m, Tch (fun _ => False) w (wr.drewN m)) := fun m => hT.drewN m
            clear hR hT hlm hgr
            go_wp2_with fail
            refine hf.mono ?_
            rintro x w5 ⟨rfl, m5, hw5⟩
            have d0 := (HC.out m5).1
            have d1 := (HC.out m5).2
            rw [← hw5] at d0 d1
            have HP5 : Hid (∀ m, _) := fun m => HP.out (m5 + m)
            have HT5 : Hid (∀ m, _) := fun m => HT.out (m5 + m)
            simp only [← World.drewN_drewN, ← hw5] at HP5 HT5
            clear hw5 c0 c1 hf
            go_wp2_with fail
            refine wp_region_drew_tail 18 (by kernel_rfl) (by kernel_rfl) ?_
            simp only [List.take_succ_cons, List.take_zero, List.drop_succ_cons, List.drop_zero]
            repeat (quiet_step (fail))
            refine wpQuiet_nil ?_
            rintro w6 ⟨m, rfl⟩
            go_wp2_with fail
            refine (HP5.out m).mono ?_
            rintro x w7 ⟨rfl, v', hR7, hv7, t7⟩
            have hT6 := HT5.out m
            have HV : Hid (∀ g, v'.ownBlock = some g → w.heap.size ≤ g) := fun g hg => Nat.le_trans hT6.size (hv7 g hg)
            have T7 : Tch (fun _ => False) w w7 := hT6.trans t7 (fun i hi e => by omega)
            clear t7 hv7 hT6
            go_wp2
            go_roundw
            case rel => exact ⟨k + 1, v', by go_num, by omega, HNO, hR7, HV, T7⟩
            case measure => simp [intOf]; omega
        · obtain rfl : n = k := by omega
          have hmm := mkr_mk3 bs hno.out
          have hu : (mkD c (mkr nm bs n)).used = lens bs n := by
            show sumL lenF (mkr nm bs n) = _
            rw [hmm]; exact mk3_sum bs hno.out n (Nat.le_refl _)
          have hlm := length_mkr nm bs n
          have hfr := rfree_any rb _ v 0 wr hR (by show (mkr nm bs n).length ≤ _; omega) (by rw [hu]; exact hs) h2
          rw [hu, show (mkD c (mkr nm bs n)).cap = c from rfl] at hfr
          rw [hmm] at hR
          by_cases hful : (c : Int) - lens bs n < 0
          · have HB : Hid (LoadsBad c n nm bs 23) := Or.inr ⟨by omega, Or.inr ⟨hOK.out, Or.inr ⟨hno.out, by
              cases n with
              | zero => exfalso; simp [lens] at hful; omega
              | succ j => exact ⟨⟨j, by omega, by omega⟩, rfl⟩⟩⟩⟩
            clear hu hmm
            go_wp2_with fail
            refine hfr.mono ?_
            rintro x w5 ⟨rfl, hw5⟩
            subst hw5
            go_wp2
            go_ret2
            exact ⟨Or.inl ⟨23, HB.out, rfl⟩, hT⟩
          · have HO : Hid (LoadsOk c n nm bs) := ⟨h1, h2, hOK.out, hno.out, fun i hi => by have := lens_mono bs (show i + 1 ≤ n by omega); omega⟩
            clear hu hmm
            go_wp2_with fail
            refine hfr.mono ?_
            rintro x w5 ⟨rfl, hw5⟩
            subst hw5
            go_wp2
            go_ret2
            exact ⟨Or.inr ⟨HO.out, rb, v, rfl, hR, hrb, hv.out⟩, hT⟩
end Go.Proofs.Ytngdgglgmmlmkaa
