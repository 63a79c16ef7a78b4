import Derived.Test.YtjambfbibeihiaaGreatFace
/- Load. -/
namespace Go.Proofs.YtjambfbibeihiaaGreat
set_option maxRecDepth 100000
open Go.RowKit Go.ChangeMaps

/-- The cells of a list of files. -/
def FLs (w : World) (ao : Option Addr) (n : Nat) (nm bs : Nat → ByteArray) : Prop := ∀ i, i < n → ∃ b off, ao = some ⟨b, off, none⟩ ∧ w.cell? ⟨b, off + i * 2, none⟩ = some (.string (nm i)) ∧ w.cell? ⟨b, off + i * 2 + 1, none⟩ = some (.string (bs i))
theorem FLs.tch {S : Nat → Prop} {w w' : World} {ao : Option Addr} {n : Nat} {nm bs : Nat → ByteArray} (h : FLs w ao n nm bs) (t : Tch S w w') (hS : ∀ i, i < w.heap.size → S i → ∀ a, ao = some a → a.block ≠ i) : FLs w' ao n nm bs := fun i hi => by
  obtain ⟨b, off, h1, h2, h3⟩ := h i hi
  have hb : ¬ S b := fun hs => hS b (cell_lt h2) hs _ h1 rfl
  exact ⟨b, off, h1, (t.cell (p := ⟨b, _, none⟩) (cell_lt h2) hb).trans h2, (t.cell (p := ⟨b, _, none⟩) (cell_lt h3) hb).trans h3⟩
theorem FLs.no {w w' : World} {ao : Option Addr} {n : Nat} {nm bs : Nat → ByteArray} (h : FLs w ao n nm bs) (t : Tch (fun _ => False) w w') : FLs w' ao n nm bs := h.tch t (fun _ _ h => h.elim)

/-- The files laid, and filled. -/
def mk2 (nm : Nat → ByteArray) : Nat → List (Nm × Fl)
  | 0 => []
  | k + 1 => putL (nm k).data.toList ⟨[], 0⟩ (mk2 nm k)
def mk3 (nm bs : Nat → ByteArray) (n : Nat) : Nat → List (Nm × Fl)
  | 0 => mk2 nm n
  | k + 1 => setL (nm k).data.toList ⟨(bs k).data.toList, (bs k).data.toList.length⟩ (mk3 nm bs n k)
def lens (bs : Nat → ByteArray) : Nat → Nat
  | 0 => 0
  | k + 1 => lens bs k + (bs k).size
/-- What Load tells. -/
structure LoadsOk (c n : Nat) (nm bs : Nat → ByteArray) : Prop where
  c1 : 1 ≤ c
  c2 : c ≤ 1000000000
  ok : ∀ i, i < n → okN (nm i).data.toList = true
  once : ∀ i, i < n → getL (nm i).data.toList (mk2 nm i) = none
  room : ∀ i, i < n → lens bs (i + 1) ≤ c
def LoadsBad (c : Int) (n : Nat) (nm bs : Nat → ByteArray) (e : Int) : Prop :=
  (c < 1 ∨ 1000000000 < c) ∧ e = 1 ∨
  (1 ≤ c ∧ c ≤ 1000000000) ∧ ((∃ i, i < n ∧ okN (nm i).data.toList = false) ∧ e = 20 ∨ (∀ i, i < n → okN (nm i).data.toList = true) ∧ ((∃ k, k < n ∧ getL (nm k).data.toList (mk2 nm k) ≠ none) ∧ e = 22 ∨
    (∀ i, i < n → getL (nm i).data.toList (mk2 nm i) = none) ∧ (∃ k, k < n ∧ c < (lens bs (k + 1) : Nat)) ∧ e = 23))

theorem length_mk2 (nm : Nat → ByteArray) : ∀ k, (mk2 nm k).length ≤ k
  | 0 => Nat.le_refl _
  | k + 1 => Nat.le_trans (length_putL_le _ _ _) (Nat.succ_le_succ (length_mk2 nm k))
theorem mk2_mem (nm : Nat → ByteArray) : ∀ k {p : Nm × Fl}, p ∈ mk2 nm k → p.2 = ⟨[], 0⟩ ∧ ∃ i, i < k ∧ p.1 = (nm i).data.toList
  | 0, _, h => by cases h
  | k + 1, p, h => by
    rcases mem_putL.1 h with rfl | ⟨h, _⟩
    · exact ⟨rfl, k, by omega, rfl⟩
    · obtain ⟨h1, i, hi, h2⟩ := mk2_mem nm k h
      exact ⟨h1, i, by omega, h2⟩
theorem mk2_sum (nm : Nat → ByteArray) (k : Nat) : sumL lenF (mk2 nm k) = 0 := by
  unfold sumL
  rw [List.sum_eq_zero_iff_forall_eq_nat]
  intro x hx
  obtain ⟨p, hp, rfl⟩ := List.mem_map.1 hx
  rw [(mk2_mem nm k hp).1]; rfl
theorem apart_mk2 (nm : Nat → ByteArray) : ∀ k, Apart (mk2 nm k)
  | 0 => List.Pairwise.nil
  | k + 1 => (apart_mk2 nm k).put _ _
theorem mk2_has (nm : Nat → ByteArray) : ∀ k i, i < k → getL (nm i).data.toList (mk2 nm k) = some ⟨[], 0⟩
  | 0, _, h => by omega
  | k + 1, i, h => by
    by_cases e : (nm i).data.toList = (nm k).data.toList
    · rw [mk2, e]; exact getL_putL_same _ _ _
    · rw [mk2, getL_putL_other e]
      refine mk2_has nm k i ?_
      rcases Nat.lt_or_ge i k with h1 | h1
      · exact h1
      · obtain rfl : i = k := by omega
        exact absurd rfl e
theorem apart_mk3 (nm bs : Nat → ByteArray) (n : Nat) : ∀ k, Apart (mk3 nm bs n k)
  | 0 => apart_mk2 nm n
  | k + 1 => (apart_mk3 nm bs n k).set _ _
theorem mk2_apart {nm : Nat → ByteArray} {n : Nat} (h : ∀ i, i < n → getL (nm i).data.toList (mk2 nm i) = none) : ∀ {i j : Nat}, i < j → j < n → (nm i).data.toList ≠ (nm j).data.toList := by
  intro i j hij hj e
  have h1 := h j hj
  rw [← e, mk2_has nm j i hij] at h1
  cases h1
theorem mk3_get {nm : Nat → ByteArray} (bs : Nat → ByteArray) {n : Nat} (h : ∀ i, i < n → getL (nm i).data.toList (mk2 nm i) = none) : ∀ k, k ≤ n → ∀ i, i < n → getL (nm i).data.toList (mk3 nm bs n k) = some (if i < k then ⟨(bs i).data.toList, (bs i).data.toList.length⟩ else ⟨[], 0⟩)
  | 0, _, i, hi => by rw [if_neg (by omega)]; exact mk2_has nm n i hi
  | k + 1, hk, i, hi => by
    have ih := mk3_get bs h k (by omega)
    by_cases e : i = k
    · subst e
      rw [if_pos (by omega)]
      exact getL_setL_same (ih i hi)
    · have hne : (nm i).data.toList ≠ (nm k).data.toList := by
        rcases Nat.lt_or_ge i k with h1 | h1
        · exact mk2_apart h h1 (by omega)
        · exact Ne.symm (mk2_apart h (show k < i by omega) hi)
      rw [mk3, getL_setL_other hne, ih i hi]
      by_cases h1 : i < k
      · rw [if_pos h1, if_pos (by omega)]
      · rw [if_neg h1, if_neg (by omega)]
theorem mk3_sum {nm : Nat → ByteArray} (bs : Nat → ByteArray) {n : Nat} (h : ∀ i, i < n → getL (nm i).data.toList (mk2 nm i) = none) : ∀ k, k ≤ n → sumL lenF (mk3 nm bs n k) = lens bs k
  | 0, _ => mk2_sum nm n
  | k + 1, hk => by
    have ih := mk3_sum bs h k (by omega)
    have hg := mk3_get bs h k (by omega) k (by omega)
    rw [if_neg (by omega)] at hg
    have h1 := sumL_setL lenF (nm k).data.toList (a := (⟨(bs k).data.toList, (bs k).data.toList.length⟩ : Fl)) (apart_mk3 nm bs n k) hg
    have h2 : lenF (⟨(bs k).data.toList, (bs k).data.toList.length⟩ : Fl) = (bs k).size := by simp [lenF]
    have h3 : lenF (⟨[], 0⟩ : Fl) = 0 := rfl
    rw [mk3, lens]
    omega

/-- The file of a new name is put. -/
theorem DW.putNew {w : World} {b : Nat} {d : Dsk} {σ : Nat → Option Nat} {mb : Nat} {gm : List (Nm × (Nat × Fl))} (h : DW w b d σ mb gm) {s : ByteArray} (hs : s.size ≤ maxLen) (hn : d.m.length < maxLen) (hg : getL s.data.toList d.m = none) :
    ∃ w', (Instr.mapUpdate 70 (.map (some mb)) (.string s) (.pointer (some ⟨w.heap.size, 0, none⟩))).run Tryz.prog (w.alloc (.cells #[.slice none 0 0, .int .i64 0] 76)).drew = .ok () w' ∧
      ∃ σ', DK w' b { d with m := putL s.data.toList ⟨[], 0⟩ d.m } σ' ∧ Stp w σ w' σ' := by
  have hnl : gm.length = d.m.length := by rw [h.m]; simp [mapL]
  have t1 : Tch (fun _ => False) w (w.alloc (.cells #[.slice none 0 0, .int .i64 0] 76)).drew := (Tch.alloc (fun _ => False) w _).drew
  have o1 := ownsMap_tch h.own t1 (fun h => h)
  obtain ⟨w', hrun, o2, hturn⟩ := o1.store law_str Tryz.underlying70 (by rw [hnl]; exact hn) (WideMaps.keyOf_string_mk Tryz.underlying9 hs) (ptrElem_some w.heap.size)
  rw [show (DataW.lit (.int .i64 (w.heap.size : Int)) : DataW Unit) = .lit (.int .i64 ((w.heap.size, (⟨[], 0⟩ : Fl)).1 : Nat)) from rfl, encD_put] at o2
  have tg : Tch (fun i => i = mb) (w.alloc (.cells #[.slice none 0 0, .int .i64 0] 76)).drew w' := Tch.of_grown hturn.grown (fun g e => by cases e; rfl)
  have t2 : Tch (fun i => i = b ∨ i = mb) w w' := (t1.mono (fun _ _ h => h.elim)).trans tg (fun _ _ h => Or.inr h)
  have hml := h.own.lt
  have hnb : (w.alloc (.cells #[.slice none 0 0, .int .i64 0] 76)).drew.heap[w.heap.size]? = some (.cells #[.slice none 0 0, .int .i64 0] 76 (0, 0)) := heap_alloc_new w _
  have hnl2 : w.heap.size < (w.alloc (.cells #[.slice none 0 0, .int .i64 0] 76)).drew.heap.size := blk_lt hnb
  have hσ : ∀ i, i < w.heap.size → (if i = w.heap.size then some w.heap.size else σ i) = σ i := fun i hi => if_neg (by omega)
  refine ⟨w', hrun, fun i => if i = w.heap.size then some w.heap.size else σ i, ⟨mb, _, h.putf s.data.toList w.heap.size ⟨[], 0⟩ t2 hσ ?_ ?_ o2 ⟨if_pos rfl, ⟨.slice none 0 0, ?_, World.ownsRow_nil _ _ _ _, fun g e => by cases e⟩, Nat.le_refl _⟩ ?_ rfl rfl ?_ h.die h.fail⟩, ?_, hσ⟩
  · intro i hi
    split at hi
    · rename_i e
      rw [e]
      exact Nat.lt_of_lt_of_le hnl2 tg.size
    · exact Nat.lt_of_lt_of_le (h.lt i hi) t2.size
  · rw [tg.block b (Nat.lt_of_lt_of_le h.bl t1.size) (Ne.symm h.ne), t1.block b h.bl (fun h => h), h.blk]
    have e : (Dsk.used { d with m := putL s.data.toList ⟨[], 0⟩ d.m } : Nat) = d.used := by
      show sumL lenF (putL _ _ d.m) = _
      rw [putL, sumL_insL, sumL_delL_none _ _ hg]
      simp [lenF, Dsk.used]
    unfold dcells
    rw [e]
  · rw [tg.block _ hnl2 (by omega), hnb]
    rfl
  · intro x hx e
    have := (h.fs x hx).lt
    omega
  · show sumL lenF (putL _ _ d.m) ≤ _
    rw [putL, sumL_insL, sumL_delL_none _ _ hg]
    have := h.room
    simpa [lenF, Dsk.used] using this
  · refine t2.mono (fun i _ hi => ?_)
    rcases hi with rfl | rfl
    · rw [h.lb]; exact fun h => by cases h
    · rw [h.lm]; exact fun h => by cases h

theorem load_arg (c : Int) (v : Value) (w : World) (h : c < 1 ∨ 1000000000 < c) :
    Calls Tryz.prog 9 #[.int .i64 c, v] w fun x w' => x = .returned (.tuple #[.pointer none, .int .i64 1]) ∧ w' = w := by
  by_cases h1 : c < 1
  · go_enter Tryz.func9, Tryz.ntmps9
    go_wp2
    go_ret2
    exact ⟨rfl, rfl⟩
  · have h2 : 1000000000 < c := by omega
    clear h
    go_enter Tryz.func9, Tryz.ntmps9
    go_wp2
    go_ret2
    exact ⟨rfl, rfl⟩

/-- The three loops, one by one. -/
def mkD (c : Nat) (m : List (Nm × Fl)) : Dsk := ⟨c, m, false, 0, 0⟩
set_option maxHeartbeats 4000000 in
set_option maxRecDepth 100000 in
theorem load_any (c : Nat) (ao : Option Addr) (n cap : Nat) (nm bs : Nat → ByteArray) (w : World) (h1 : 1 ≤ c) (h2 : c ≤ 1000000000) (hL : FLs w ao n nm bs) (hn : n ≤ maxLen) :
    Calls Tryz.prog 9 #[.int .i64 c, .slice ao n cap] w fun x w' => ((∃ e, LoadsBad c n nm bs e ∧ x = .returned (.tuple #[.pointer none, .int .i64 e])) ∨ LoadsOk c n nm bs ∧ ∃ b, x = .returned (.tuple #[.pointer (some ⟨b, 0, none⟩), .int .i64 0]) ∧ DF w' b (mkD c (mk3 nm bs n n)) (fun i => i < w.heap.size)) ∧ Tch (fun _ => False) w w' := by
  have hmm := @run_makeMap Tryz.prog
  have h1' : ¬ (c : Int) < 1 := by omega
  have h2' : ¬ (1000000000 : Int) < c := by omega
  have hn63 : n ≤ 9223372036854775807 := by unfold maxLen at hn; omega
  have HL : Hid (∀ W, Tch (fun _ => False) w W → FLs W ao n nm bs) := fun W t => hL.no t
  clear hL hn
  go_enter Tryz.func9, Tryz.ntmps9
  go_wp2_with fail
  go_loopw [21] (fun i wr => ∃ k : Nat, i = .int .i64 k ∧ k ≤ n ∧ Hid (∀ i, i < k → okN (nm i).data.toList = true) ∧ Tch (fun _ => False) w wr) (fun i _ => n - (intOf i).toNat)
  case atStart => exact ⟨0, rfl, by omega, fun i hi => by omega, Tch.refl _ _⟩
  case round =>
    obtain ⟨k, rfl, hk, hok, hT⟩ := hrel
    by_cases hlt : (k : Int) < n
    · obtain ⟨ab, off, rfl, c0, c1⟩ := HL.out wr hT k (by omega)
      have tA : Tch (fun _ => False) w (wr.alloc (.cells #[.string (nm k), .string (bs k)] 31)) := hT.allocR _
      have hi := fun W => isName_any (nm k) W
      have a0 : (wr.alloc (.cells #[.string (nm k), .string (bs k)] 31)).cell? ⟨wr.heap.size, 0, none⟩ = some (.string (nm k)) := by rw [blk_cell (box_one wr _)]; rfl
      cases ho : okN (nm k).data.toList
      · rw [ho] at hi
        have HB : Hid (LoadsBad c n nm bs 20) := Or.inr ⟨by omega, Or.inl ⟨⟨k, by omega, ho⟩, rfl⟩⟩
        go_wp2_with fail
        refine (hi _).mono ?_
        rintro x w5 ⟨rfl, hw5⟩
        subst hw5
        go_wp2
        go_ret2
        exact ⟨Or.inl ⟨20, HB.out, rfl⟩, tA⟩
      · rw [ho] at hi
        have HO : Hid (∀ i, i < k + 1 → okN (nm i).data.toList = true) := fun i hi => by
          rcases Nat.lt_or_ge i k with h | h
          · exact hok.out i h
          · obtain rfl : i = k := by omega
            exact ho
        go_wp2_with fail
        refine (hi _).mono ?_
        rintro x w5 ⟨rfl, hw5⟩
        subst hw5
        go_wp2
        go_roundw
        case rel => exact ⟨k + 1, by go_num, by omega, HO, tA⟩
        case measure => simp [intOf]; omega
    · obtain rfl : n = k := by omega
      have HD : Hid (DF ((wr.alloc (.map #[] 0)).alloc (.cells #[.int .i64 c, .int .i64 0, .map (some wr.heap.size), .bool false, .int .i64 0, .int .i64 0] 72)) (wr.heap.size + 1) (mkD c (mk2 nm 0)) (fun i => i < w.heap.size)) := by
        refine ⟨_, ⟨_, _, newDW c wr h2⟩, fun i hi => ⟨?_, ?_⟩⟩
        · have := hT.size; exact if_neg (by omega)
        · have := hT.size; simp only [World.size_alloc]; omega
      have HT : Hid (Tch (fun _ => False) w ((wr.alloc (.map #[] 0)).alloc (.cells #[.int .i64 c, .int .i64 0, .map (some wr.heap.size), .bool false, .int .i64 0, .int .i64 0] 72))) := (hT.allocR _).allocR _
      have hOK := hok
      go_wp2_with fail
      obtain ⟨b, hb⟩ : ∃ b, b = wr.heap.size + 1 := ⟨_, rfl⟩
      obtain ⟨w0, hw0⟩ : ∃ w0, w0 = (wr.alloc (.map #[] 0)).alloc (.cells #[.int .i64 c, .int .i64 0, .map (some wr.heap.size), .bool false, .int .i64 0, .int .i64 0] 72) := ⟨_, rfl⟩
      have hD0 := HD.out
      have hT0 := HT.out
      rw [← hb, ← hw0] at hD0 ⊢
      rw [← hw0] at hT0
      clear HD HT hb hw0 hT hok
      go_loopw [36] (fun i wr => ∃ k : Nat, i = .int .i64 k ∧ k ≤ n ∧ Hid (∀ i, i < k → getL (nm i).data.toList (mk2 nm i) = none) ∧ DF wr b (mkD c (mk2 nm k)) (fun i => i < w.heap.size) ∧ Tch (fun _ => False) w wr) (fun i _ => n - (intOf i).toNat)
      case atStart => exact ⟨0, rfl, by omega, fun i hi => by omega, hD0, hT0⟩
      case round =>
        clear hD0 hT0
        obtain ⟨k, rfl, hk, hno, hD, hT⟩ := hrel
        by_cases hlt : (k : Int) < n
        · obtain ⟨ab, off, rfl, c0, c1⟩ := HL.out wr hT k (by omega)
          have hkl : k < 9223372036854775807 := by omega
          have tA : Tch (fun _ => False) wr (wr.alloc (.cells #[.string (nm k), .string (bs k)] 31)).drew := (Tch.alloc _ _ _).drew
          obtain ⟨σ, ⟨mb, gm, hW⟩, hF⟩ := hD
          have hWA := hW.no tA
          have hsz : (nm k).size ≤ maxLen := by have := okN_size (hOK.out k (by omega)); unfold maxLen; omega
          have hl := hWA.look hsz
          have c2 : (wr.alloc (.cells #[.string (nm k), .string (bs k)] 31)).cell? ⟨b, 2, none⟩ = some (.map (some mb)) := hWA.c2
          have a0 : (wr.alloc (.cells #[.string (nm k), .string (bs k)] 31)).cell? ⟨wr.heap.size, 0, none⟩ = some (.string (nm k)) := by rw [blk_cell (box_one wr _)]; rfl
          have TA := hT.trans' tA
          have hgd := hWA.get (nm k).data.toList
          cases hg : getL (nm k).data.toList gm with
          | some a =>
            rw [hg] at hl hgd
            simp only [] at hl
            have HB : Hid (LoadsBad c n nm bs 22) := Or.inr ⟨by omega, Or.inr ⟨hOK.out, Or.inl ⟨⟨k, by omega, by
              rw [show getL (nm k).data.toList (mk2 nm k) = _ from hgd]; exact fun h => by cases h⟩, rfl⟩⟩⟩
            clear hgd
            go_wp2
            go_region
            go_wp2
            go_ret2
            exact ⟨Or.inl ⟨22, HB.out, rfl⟩, TA⟩
          | none =>
            rw [hg] at hl hgd
            simp only [] at hl
            have hgn : getL (nm k).data.toList (mk2 nm k) = none := hgd
            have HP := hWA.putNew hsz (by have := length_mk2 nm k; show (mk2 nm k).length < _; unfold maxLen; omega) hgn
            obtain ⟨wA, hwA⟩ : ∃ wA, wA = wr.alloc (.cells #[.string (nm k), .string (bs k)] 31) := ⟨_, rfl⟩
            rw [← hwA] at HP TA c2 a0 hl tA
            obtain ⟨wB, hwB⟩ : ∃ wB, wB = wA.drew := ⟨_, rfl⟩
            rw [← hwB] at HP TA hl tA
            obtain ⟨w', hrun, σ', hD', hS'⟩ := HP
            have hres := DF.stp (F := fun i => i < w.heap.size) (fun i hi => ⟨(hF i hi).1, Nat.lt_of_lt_of_le (hF i hi).2 tA.size⟩) hD' hS'
            have HR : Hid (DF w' b (mkD c (mk2 nm (k + 1))) (fun i => i < w.heap.size) ∧ Tch (fun _ => False) w w') := ⟨hres.1, TA.trans hres.2 (fun i hi hn => hn hi)⟩
            have HO : Hid (∀ i, i < k + 1 → getL (nm i).data.toList (mk2 nm i) = none) := fun i hi => by
              rcases Nat.lt_or_ge i k with h | h
              · exact hno.out i h
              · obtain rfl : i = k := by omega
                exact hgn
            have c2B : wB.cell? ⟨b, 2, none⟩ = some (.map (some mb)) := by rw [hwB]; exact c2
            have a0B : wB.cell? ⟨wr.heap.size, 0, none⟩ = some (.string (nm k)) := by rw [hwB]; exact a0
            have tB : Tch (fun _ => False) wB (wB.alloc (.cells #[.slice none 0 0, .int .i64 0] 76)) := Tch.alloc _ _ _
            have c2b := (tB.cell (p := ⟨b, 2, none⟩) (cell_lt c2B) (fun h => h)).trans c2B
            have a0b := (tB.cell (p := ⟨wr.heap.size, 0, none⟩) (cell_lt a0B) (fun h => h)).trans a0B
            clear hgd hgn hres hD' hS' hWA hW hF hg tB
            have hlA : (Instr.lookup 70 (.map (some mb)) (.string (nm k)) false).run Tryz.prog wA.drew = .ok (.pointer none) wA.drew := by rw [← hwB]; exact hl
            clear hl
            go_wp2_with fail
            rw [← hwA]
            clear hwA c0 c1
            go_region
            rw [← hwB]
            clear hwB hlA c2 a0
            go_wp2_with fail
            go_region
            obtain ⟨h9, T9⟩ := HR.out
            clear hrun c2B a0B c2b a0b
            go_wp2
            go_roundw
            case rel => exact ⟨k + 1, by go_num, by omega, HO, h9, T9⟩
            case measure => simp [intOf]; omega
        · obtain rfl : n = k := by omega
          have hNO := hno
          have hs0 : lens bs 0 = 0 := rfl
          go_wp2_with fail
          go_loopw [59] (fun i wr => ∃ k : Nat, i = .int .i64 k ∧ k ≤ n ∧ Hid (∀ i, i < k → lens bs (i + 1) ≤ c) ∧ DF wr b (mkD c (mk3 nm bs n k)) (fun i => i < w.heap.size) ∧ Tch (fun _ => False) w wr) (fun i _ => n - (intOf i).toNat)
          case atStart => exact ⟨0, rfl, by omega, fun i hi => by omega, hD, hT⟩
          case round =>
            clear hD hT hno
            obtain ⟨k, rfl, hk, hro, hD, hT⟩ := hrel
            by_cases hlt : (k : Int) < n
            · obtain ⟨ab, off, rfl, c0, c1⟩ := HL.out wr hT k (by omega)
              have hus : (mkD c (mk3 nm bs n k)).used = lens bs k := mk3_sum bs hNO.out k (by omega)
              have hgk := mk3_get bs hNO.out k (by omega) k (by omega)
              rw [if_neg (by omega)] at hgk
              obtain ⟨wA, hwA⟩ : ∃ wA, wA = wr.alloc (.cells #[.string (nm k), .string (bs k)] 31) := ⟨_, rfl⟩
              have tA : Tch (fun _ => False) wr wA := by rw [hwA]; exact Tch.alloc _ _ _
              have a0 : wA.cell? ⟨wr.heap.size, 0, none⟩ = some (.string (nm k)) := by rw [hwA, blk_cell (box_one wr _)]; rfl
              have a1 : wA.cell? ⟨wr.heap.size, 1, none⟩ = some (.string (bs k)) := by rw [hwA, blk_cell (box_one wr _)]; rfl
              have TA := hT.trans' tA
              have hDA := hD.no tA
              have HF : Hid (∀ m, DF (wA.drewN m) b (mkD c (mk3 nm bs n k)) (fun i => i < w.heap.size)) := fun m => hDA.drewN m
              have hfree := fun m => free_f b _ _ _ (HF.out m)
              rw [hus] at hfree
              have hcl : (mkD c (mk3 nm bs n k)).cap = c := rfl
              rw [hcl] at hfree
              have hsz : (nm k).size ≤ maxLen := by have := okN_size (hOK.out k (by omega)); unfold maxLen; omega
              by_cases hfull : (c : Int) - (lens bs k : Nat) < (bs k).size
              · have HB : Hid (LoadsBad c n nm bs 23) := Or.inr ⟨by omega, Or.inr ⟨hOK.out, Or.inr ⟨hNO.out, ⟨k, by omega, by rw [lens]; omega⟩, rfl⟩⟩⟩
                have HT : Hid (∀ m, Tch (fun _ => False) w (wA.drewN m)) := fun m => TA.drewN m
                clear hus hgk hDA TA hD hT tA
                go_wp2_with fail
                rw [← hwA]
                clear hwA
                go_quiet ((go_at_call 40; exact Calls.quiet_of (hfree _)))
                go_wp2
                go_ret2
                exact ⟨Or.inl ⟨23, HB.out, rfl⟩, HT.out _⟩
              · have HO : Hid (∀ i, i < k + 1 → lens bs (i + 1) ≤ c) := fun i hi => by
                  rcases Nat.lt_or_ge i k with h | h
                  · exact hro.out i h
                  · obtain rfl : i = k := by omega
                    rw [lens]; omega
                have hroom : (mkD c (mk3 nm bs n k)).used + (bs k).size ≤ (mkD c (mk3 nm bs n k)).cap := by rw [hus]; show _ ≤ c; omega
                have HG : Hid (getL (nm k).data.toList (mkD c (mk3 nm bs n k)).m = some ⟨[], 0⟩) := hgk
                have HT : Hid (∀ m, Tch (fun _ => False) w (wA.drewN m)) := fun m => TA.drewN m
                have HA : Hid (wr.heap.size < wA.heap.size) := by show _ < _; exact cell_lt a0
                have HN : Hid (∀ σ, (∃ W, DK W b (mkD c (mk3 nm bs n k)) σ ∧ W.heap.size = wA.heap.size) → True) := fun _ _ => trivial
                obtain ⟨σ, ⟨mb, gm, hW⟩, hF⟩ := hD
                have hbx : σ wr.heap.size = none := by
                  cases hs : σ wr.heap.size with
                  | none => rfl
                  | some a => have := hW.lt _ (by rw [hs]; exact fun h => by cases h); omega
                have HWm : Hid (∀ m, DW (wA.drewN m) b (mkD c (mk3 nm bs n k)) σ mb gm) := fun m => (hW.no tA).no ((Tch.refl _ wA).drewN m)
                have HFm : Hid (∀ i, i < w.heap.size → σ i = none ∧ i < wA.heap.size) := fun i hi => ⟨(hF i hi).1, Nat.lt_of_lt_of_le (hF i hi).2 tA.size⟩
                clear hus hgk hDA TA hT tA hW hF HF HN hro
                go_wp2_with fail
                rw [← hwA]
                clear hwA
                go_quiet ((go_at_call 40; exact Calls.quiet_of (hfree _)))
                go_wp2_with fail
                generalize hwB : wA.drewN _ = wB
                have hW : DW wB b (mkD c (mk3 nm bs n k)) σ mb gm := hwB ▸ HWm.out _
                have hF : ∀ i, i < w.heap.size → σ i = none ∧ i < wB.heap.size := fun i hi => by rw [← hwB]; exact HFm.out i hi
                have TB : Tch (fun _ => False) w wB := hwB ▸ HT.out _
                have a0B : wB.cell? ⟨wr.heap.size, 0, none⟩ = some (.string (nm k)) := by rw [← hwB]; exact a0
                have a1B : wB.cell? ⟨wr.heap.size, 1, none⟩ = some (.string (bs k)) := by rw [← hwB]; exact a1
                clear hwB a0 a1 HWm HFm HT hfree
                obtain ⟨fb, hg⟩ : ∃ fb, getL (nm k).data.toList gm = some (fb, ⟨[], 0⟩) := by
                  have h3 := hW.get (nm k).data.toList
                  rw [HG.out] at h3
                  cases hx : getL (nm k).data.toList gm with
                  | none => rw [hx] at h3; cases h3
                  | some a =>
                    rw [hx] at h3
                    simp only [Option.map_some, Option.some.injEq] at h3
                    exact ⟨a.1, by rw [h3]⟩
                have c2B := hW.c2
                have hl : ∀ m, (Instr.lookup 70 (.map (some mb)) (.string (nm k)) false).run Tryz.prog (wB.drewN m) = .ok (.pointer (some ⟨fb, 0, none⟩)) (wB.drewN m) := fun m => by
                  have := (hW.no ((Tch.refl _ wB).drewN m)).look hsz
                  rw [hg] at this; exact this
                have HC : Hid (∀ m, _) := fun m => extend_any b _ σ mb gm (nm k).data.toList fb ⟨[], 0⟩ (bs k) (wB.drewN m) (hW.no ((Tch.refl _ wB).drewN m)) hg hroom
                have HF2 : Hid (∀ m, (∀ i, i < w.heap.size → σ i = none ∧ i < (wB.drewN m).heap.size) ∧ Tch (fun _ => False) w (wB.drewN m) ∧ (wB.drewN m).cell? ⟨wr.heap.size, 0, none⟩ = some (.string (nm k)) ∧ (wB.drewN m).cell? ⟨wr.heap.size, 1, none⟩ = some (.string (bs k))) := fun m => ⟨hF, TB.drewN m, a0B, a1B⟩
                have HG2 : Hid (getL (nm k).data.toList gm = some (fb, ⟨[], 0⟩)) := hg
                clear hW hF TB hg
                refine wp_region_drew_tail 10 (by kernel_rfl) (by kernel_rfl) ?_
                simp only [List.take_succ_cons, List.take_zero, List.drop_succ_cons, List.drop_zero]
                repeat (quiet_step (fail))
                refine wpQuiet_nil ?_
                rintro w3 ⟨m, rfl⟩
                go_wp2_with fail
                refine (HC.out m).mono ?_
                rintro x w4 ⟨rfl, σ', h4, s4⟩
                obtain ⟨f4, T4, b0, b1⟩ := HF2.out m
                clear HC HF2 a0B a1B c2B hl
                have d0 := (s4.tch.cell (p := ⟨wr.heap.size, 0, none⟩) (cell_lt b0) (fun hh => hh hbx)).trans b0
                have d1 := (s4.tch.cell (p := ⟨wr.heap.size, 1, none⟩) (cell_lt b1) (fun hh => hh hbx)).trans b1
                have c24 := h4.c2
                have hg4 := getL_setL_same (a := ((fb, ⟨[] ++ (bs k).data.toList, 0⟩) : Nat × Fl)) HG2.out
                have hl4 : (Instr.lookup 70 (.map (some mb)) (.string (nm k)) false).run Tryz.prog w4.drew = .ok (.pointer (some ⟨fb, 0, none⟩)) w4.drew := by
                  have := (h4.no ((Tch.refl _ w4).drew)).look hsz
                  rw [hg4] at this; exact this
                obtain ⟨_, _, _, e1, _⟩ := h4.fcell hg4
                have e2 : w4.frozen? ⟨fb, 1, none⟩ = false := by
                  obtain ⟨v, hv, _⟩ := (h4.fs _ (getL_mem hg4)).blk
                  exact blk_frozen hv 1
                have HL : Hid (DF (w4.setCell ⟨fb, 1, none⟩ (.int .i64 (bs k).size)).drew b (mkD c (mk3 nm bs n (k + 1))) (fun i => i < w.heap.size) ∧ Tch (fun _ => False) w (w4.setCell ⟨fb, 1, none⟩ (.int .i64 (bs k).size)).drew) := by
                  obtain ⟨h5, t5⟩ := h4.setLast hg4
                  have e : (([] ++ (bs k).data.toList : List UInt8).length : Int) = (bs k).size := by simp
                  simp only [e] at h5 t5
                  have s5 := near_stp h4 t5
                  have h6 := h5.no ((Tch.refl (fun _ => False) _).drew)
                  have hx : Dsk.set (Dsk.set (mkD c (mk3 nm bs n k)) (nm k).data.toList ⟨[] ++ (bs k).data.toList, 0⟩) (nm k).data.toList ⟨[] ++ (bs k).data.toList, ([] ++ (bs k).data.toList).length⟩ = mkD c (mk3 nm bs n (k + 1)) := by
                    unfold Dsk.set mkD
                    simp only [setL_setL, List.nil_append]
                    rfl
                  rw [hx] at h6
                  have hs := (s4.trans s5).trans (Stp.of_no (σ := σ') ((Tch.refl (fun _ => False) (w4.setCell ⟨fb, 1, none⟩ (.int .i64 (bs k).size))).drew))
                  have hres := DF.stp (F := fun i => i < w.heap.size) f4 ⟨_, _, h6⟩ hs
                  exact ⟨hres.1, T4.trans hres.2 (fun i hi hn => hn hi)⟩
                clear h4 s4 f4 T4 b0 b1 hg4
                go_wp2_with fail
                go_region
                obtain ⟨h9, T9⟩ := HL.out
                go_wp2
                go_roundw
                case rel => exact ⟨k + 1, by go_num, by omega, HO, h9, T9⟩
                case measure => simp [intOf]; omega
            · obtain rfl : n = k := by omega
              have HB : Hid (LoadsOk c n nm bs) := ⟨h1, h2, hOK.out, hNO.out, hro.out⟩
              go_wp2
              go_ret2
              exact ⟨Or.inr ⟨HB.out, b, rfl, hD⟩, hT⟩
end Go.Proofs.YtjambfbibeihiaaGreat
