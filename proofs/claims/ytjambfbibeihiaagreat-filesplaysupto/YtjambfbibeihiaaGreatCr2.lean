import Derived.Test.YtjambfbibeihiaaGreatNok
/- Crash of a pair: the walk. -/
namespace Go.Proofs.YtjambfbibeihiaaGreat
set_option maxRecDepth 100000
open Go.RowKit Go.ChangeMaps Go.Sort

def CRes (d : Dsk) (n : Nat) (nm : Nat → ByteArray) (by' : Nat → Int) (e : Int) (d' : Dsk) : Prop := (KeepsBad d n nm by' e ∧ d' = d) ∨ ((∀ i, i < n → KeepAt d nm by' i) ∧ e = 0 ∧ d' = d.torn (kept nm by' n))
theorem CRes.uniq {d : Dsk} {n : Nat} {nm : Nat → ByteArray} {by' : Nat → Int} {e e' : Int} {d' d'' : Dsk} (h : CRes d n nm by' e d') (h' : CRes d n nm by' e' d'') : e = e' ∧ d' = d'' := by
  rcases h with ⟨h1, rfl⟩ | ⟨h1, rfl, rfl⟩ <;> rcases h' with ⟨h2, rfl⟩ | ⟨h2, rfl, rfl⟩
  · exact ⟨h1.uniq h2, rfl⟩
  · exact absurd h2 h1.no.2
  · exact absurd h1 h2.no.2
  · exact ⟨rfl, rfl⟩
theorem nok_cres {d d' : Dsk} {n : Nat} {nm : Nat → ByteArray} {by' : Nat → Int} {e : Int} (h : Nok d) (hr : CRes d n nm by' e d') : Nok d' := by
  rcases hr with ⟨_, rfl⟩ | ⟨_, _, rfl⟩
  · exact h
  · exact nok_torn h _
theorem CRes.len {d : Dsk} {n : Nat} {nm : Nat → ByteArray} {by' : Nat → Int} {e : Int} {d' : Dsk} (h : CRes d n nm by' e d') : d'.m.length = d.m.length := by
  rcases h with ⟨_, rfl⟩ | ⟨_, _, rfl⟩
  · rfl
  · exact length_torn _ _

set_option maxHeartbeats 4000000 in
theorem crashes_any (k db rb : Nat) (d : Dsk) (c : Int) (lo : Option Addr) (n lc : Nat) (nm : Nat → ByteArray) (by' : Nat → Int) (ω : Nat → Nat) (w : World) (hp : PR w ω k db rb d) (hk : 1 ≤ k ∧ k ≤ 3) (hl : (d.m.length + 1) * 40 ≤ 140737488355328) (hL : KLs w lo n nm by') (hLω : ∀ a, 0 < n → lo = some a → a.block < w.heap.size ∧ ω a.block = 0) (hnil : lo = none → n = 0 ∧ lc = 0) (hn : (n + 2) * 40 ≤ 140737488355328) :
    Calls Tryz.prog 28 #[pairV db rb c, .slice lo n lc] w fun x w' => x = .returned (.bool true) ∧ ∃ ω' d', PR w' ω' k db rb d' ∧ (d'.m.length = d.m.length ∧ (Nok d → Nok d') ∧ ∃ e, CRes d n nm by' e d') ∧ Ev (fun i => i = 16 ∨ i = k ∨ i = k + 1) w ω w' ω' := by
  have hBd := Bd.of hp.df hl
  obtain ⟨wA, hwA⟩ : ∃ wA, wA = w.alloc (.cells (pairC db rb c) 26) := ⟨_, rfl⟩
  have tA : Tch (fun _ => False) w wA := by rw [hwA]; exact Tch.alloc _ _ _
  have hpA : wA.heap[w.heap.size]? = some (.cells (pairC db rb c) 26 (0, 0)) := by rw [hwA]; exact box_one w _
  obtain ⟨w1, w2, hmk, hcp, ⟨⟨x0, k0⟩, ⟨x1, k1⟩, hfz⟩, hAK, t4⟩ := laid_keeps2 lo n lc nm by' wA (hL.no tA) hnil (by omega)
  obtain ⟨sb, hsb⟩ : ∃ sb, sb = wA.heap.size := ⟨_, rfl⟩
  rw [← hsb] at hmk hcp k0 k1 hfz hAK t4
  have f0 := hfz (n * 2)
  have f1 := hfz ((n + 1) * 2)
  obtain ⟨w4, hw4⟩ : ∃ w4, w4 = (w2.setCell ⟨sb, n * 2, none⟩ (.string ⟨#[98, 101, 104, 105, 110, 100]⟩)).setCell ⟨sb, (n + 1) * 2, none⟩ (.string ⟨#[102, 97, 114]⟩) := ⟨_, rfl⟩
  rw [← hw4] at hAK t4
  have hne : ¬ n * 2 = (n + 1) * 2 := by omega
  have T4 := tA.trans' t4
  have hsw : w.heap.size < sb := by rw [hsb]; exact blk_lt hpA
  have hp4 : w4.heap[w.heap.size]? = some (.cells (pairC db rb c) 26 (0, 0)) := (t4.block _ (blk_lt hpA) (fun h => h)).trans hpA
  have q0 : w4.cell? ⟨w.heap.size, 0, none⟩ = some (.pointer (some ⟨db, 0, none⟩)) := by rw [blk_cell hp4]; rfl
  have hsbn : ¬ sb = w.heap.size := by omega
  have hsbn' : ¬ w.heap.size = sb := by omega
  have q02 : w2.cell? ⟨w.heap.size, 0, none⟩ = some (.pointer (some ⟨db, 0, none⟩)) := by
    have t24 : Tch (fun i => i = sb) w2 w4 := by rw [hw4]; exact (Tch.setCell (fun i => i = sb) w2 ⟨sb, n * 2, none⟩ _ rfl).setCellR _ _ rfl
    have hlt : sb < w2.heap.size := cell_lt k0
    exact (t24.cell (p := ⟨w.heap.size, 0, none⟩) (by show w.heap.size < _; omega) hsbn').symm.trans q0
  have E1 : Ev (fun i => i = 16) w ω w4 (ext ω w.heap.size 16) := Ev.ofNo 16 rfl T4
  obtain ⟨ω1, hω1⟩ : ∃ ω1, ω1 = ext ω w.heap.size 16 := ⟨_, rfl⟩
  have hs1 : ω1 sb = 16 ∧ ω1 w.heap.size = 16 := by rw [hω1]; exact ⟨ext_ge (by omega), ext_ge (Nat.le_refl _)⟩
  have hL1 : ∀ a, 0 < n → lo = some a → a.block < w4.heap.size ∧ ω1 a.block = 0 ∧ a.block ≠ sb := fun a h0 e => by
    obtain ⟨h1, h2⟩ := hLω a h0 e
    exact ⟨Nat.lt_of_lt_of_le h1 T4.size, by rw [hω1, ext_lt h1]; exact h2, by omega⟩
  rw [← hω1] at E1
  have hP4 := hp.ev E1 (by omega) (by omega)
  have hK4 : KLs w4 (some ⟨sb, 0, none⟩) n nm by' := fun i hi => by
    obtain ⟨g1, g2⟩ := hAK.rest i (by omega) hi
    obtain ⟨_, _, _, _, h3, h4⟩ := hL i hi
    exact ⟨sb, 0, rfl, ⟨by rw [Nat.zero_add]; exact g1, by rw [Nat.zero_add]; exact g2⟩, h3, h4⟩
  have hC : ∀ ino inc, KLs w4 ino n nm by' → Calls Tryz.prog 63 #[.pointer (some ⟨db, 0, none⟩), .slice ino n inc] w4 fun x w' => ∃ e d' ω2, x = .returned (.int .i64 e) ∧ CRes d n nm by' e d' ∧ DF w' db d' (oth ω2 k w') ∧ Ev (fun i => i = k) w4 ω1 w' ω2 := fun ino inc h => by
    refine (crash_f db d _ ino n inc nm by' w4 hP4.df h (by omega)).mono ?_
    rintro x w' ⟨hx, ht⟩
    rcases hx with ⟨e, hb, rfl, hD⟩ | ⟨hall, rfl, hD⟩
    · obtain ⟨h1, h2⟩ := hD.did ht
      exact ⟨e, d, _, rfl, Or.inl ⟨hb, rfl⟩, h1, h2⟩
    · obtain ⟨h1, h2⟩ := hD.did ht
      exact ⟨0, _, _, rfl, Or.inr ⟨hall, rfl, rfl⟩, h1, h2⟩
  have hC1 : Hid ((n : Int) = 0 → Calls Tryz.prog 63 #[.pointer (some ⟨db, 0, none⟩), .slice none 0 0] w4 fun x w' => ∃ e d' ω2, x = .returned (.int .i64 e) ∧ CRes d n nm by' e d' ∧ DF w' db d' (oth ω2 k w') ∧ Ev (fun i => i = k) w4 ω1 w' ω2) := fun h => by
    have h0 : n = 0 := by omega
    have := hC none 0 (fun i hi => by omega)
    rw [show (Value.slice none n 0) = .slice none 0 0 by rw [h0]] at this
    exact this
  have hC2 := hC (some ⟨sb, 0, none⟩) (n + 2) hK4
  have HK : Hid (∀ W, Tch (fun i => ω1 i = k) w4 W → KLs W lo n nm by') := fun W t => (hL.no T4).tch t (fun a h0 e h => by have := (hL1 a h0 e).2.1; omega)
  have HLI : Hid (∀ i, i < n → ∃ b off, lo = some ⟨b, off, none⟩) := fun i hi => by
    obtain ⟨b, off, e, _⟩ := hL i hi
    exact ⟨b, off, e⟩
  have HP4 : Hid (PR w4 ω1 k db rb d) := hP4
  have HA : Hid (AK w4 sb n 0 nm by') := hAK
  have HE1 : Hid (Ev (fun i => i = 16) w ω w4 ω1) := E1
  have hn63 : n + 2 ≤ 9223372036854775807 := by omega
  rw [hwA] at hmk
  clear hp hL hLω hnil hwA tA hpA hsb hω1 hAK t4 T4 E1 hP4 hK4 hC hfz
  go_enter Tryz.func28, Tryz.ntmps28
  go_wp2_with fail
  · rw [← hw4]
    clear hmk hcp k0 k1 f0 f1 hne q02 hw4
    have h00 : (n : Int) = 0 := by simpa using ‹((n : Int) == 0) = true›
    refine (hC1.out h00).mono ?_
    clear h00
    rintro x w5 ⟨e5, d5, ω5, rfl, hres, hD5, E5⟩
    clear hC1 hC2
    have hP5 := HP4.out.rf.ev E5 (by omega)
    have hK5 : KLs w5 lo n nm by' := HK.out w5 E5.tch
    have hz5 := E5.tch.size
    have E5k : ∀ i, i < w4.heap.size → ω1 i ≠ k → ω5 i = ω1 i := fun i hi h0 => (E5.old i hi).elim id (fun e => absurd e.1 h0)
    have hkeep5 : ∀ i, i < w4.heap.size → ω1 i = 0 → ω5 i = 0 := fun i hi h0 => (E5.old i hi).elim (fun e => e.trans h0) (fun e => by omega)
    have hq5 : w5.heap[w.heap.size]? = some (.cells (pairC db rb c) 26 (0, 0)) := (E5.tch.block _ (blk_lt hp4) (by show ¬ ω1 w.heap.size = k; omega)).trans hp4
    have q1 : w5.cell? ⟨w.heap.size, 1, none⟩ = some (.pointer (some ⟨rb, 0, none⟩)) := by rw [blk_cell hq5]; rfl
    have hsl : sb < w4.heap.size := blk_lt HA.out.blk.choose_spec.1
    have hcr := rcrash_f rb d _ lo n lc nm by' w5 hP5 hBd hK5 (by omega) (fun a h0 e => ⟨by have := (hL1 a h0 e).1; omega, by rw [hkeep5 _ (hL1 a h0 e).1 (hL1 a h0 e).2.1]; omega⟩)
    have HA5 : Hid (AK w5 sb n 0 nm by') := HA.out.tch E5.tch (by show ¬ ω1 sb = k; omega)
    have HD5 : Hid (DF w5 db d5 (oth ω5 k w5)) := hD5
    have HE5 : Hid (Ev (fun i => i = k) w4 ω1 w5 ω5) := E5
    have HK5 : Hid (KLs w5 lo n nm by') := hK5
    have HRS : Hid (CRes d n nm by' e5 d5) := hres
    clear hD5 E5 hK5 hP5 hq5 hres
    go_wp2_with fail
    refine hcr.mono ?_
    rintro x w6 ⟨hx, ht6⟩
    obtain ⟨e6, d6, hxe, hres6, hR6⟩ : ∃ e6 d6, x = .returned (.int .i64 e6) ∧ CRes d n nm by' e6 d6 ∧ RF w6 rb d6 (oth ω5 (k + 1) w5) := by
      rcases hx with ⟨e, hb, rfl, hD⟩ | ⟨hall, rfl, hD⟩
      · exact ⟨e, d, rfl, Or.inl ⟨hb, rfl⟩, hD⟩
      · exact ⟨0, _, rfl, Or.inr ⟨hall, rfl, rfl⟩, hD⟩
    subst hxe
    obtain ⟨he, hd⟩ := HRS.out.uniq hres6
    subst he hd
    obtain ⟨hR6', E6⟩ := hR6.did ht6
    obtain ⟨ω6, hω6⟩ : ∃ ω6, ω6 = ext ω5 w5.heap.size (k + 1) := ⟨_, rfl⟩
    rw [← hω6] at hR6' E6
    have HPR : Hid (PR w6 ω6 k db rb d5) := ⟨HD5.out.ev E6 (by omega), hR6'⟩
    have hs5 : ω5 sb = 16 := (E5k sb hsl (by omega)).trans hs1.1
    have hA6 : AK w6 sb n 0 nm by' := HA5.out.tch E6.tch (by show ¬ ω5 sb = k + 1; omega)
    have HK6 : Hid (KLs w6 lo n nm by') := HK5.out.tch E6.tch (fun a h0 e h => by have := hkeep5 _ (hL1 a h0 e).1 (hL1 a h0 e).2.1; omega)
    have hs6 : ω6 sb = 16 := by rw [hω6, ext_lt (by omega)]; exact hs5
    have m0 := hA6.m0
    have m1 := hA6.m1
    have HEV : Hid (Ev (fun i => i = 16 ∨ i = k ∨ i = k + 1) w ω w6 ω6) := ((HE1.out.mono (fun i h => Or.inl h)).trans (HE5.out.mono (fun i h => Or.inr (Or.inl h)))).trans (E6.mono (fun i h => Or.inr (Or.inr h)))
    have HLN : Hid (d5.m.length = d.m.length ∧ (Nok d → Nok d5) ∧ ∃ e, CRes d n nm by' e d5) := ⟨HRS.out.len, fun h => nok_cres h HRS.out, e5, HRS.out⟩
    have HL1 : Hid (∀ a, 0 < n → lo = some a → a.block ≠ sb) := fun a h0 e => (hL1 a h0 e).2.2
    have HBK : Hid (AK w6 sb n 0 nm by') := hA6
    clear hx ht6 hres6 hR6 hR6' E6 hω6 hcr q1 hkeep5 E5k hL1 HK5 HA5 HD5 HE5 HRS hA6
    go_wp2_with fail
    go_loopw [10, 11] (fun ok i wr => ∃ j : Nat, i = .int .i64 j ∧ j ≤ n ∧ ok = .bool true ∧ AK wr sb n j nm by' ∧ Tch (fun i => i = sb) w6 wr) (fun _ i _ => n - (intOf i).toNat)
    case atStart => exact ⟨0, rfl, by omega, rfl, HBK.out, Tch.refl _ _⟩
    case round =>
      obtain ⟨j, rfl, hj, rfl, hA, hT⟩ := hrel
      by_cases hlt : (j : Int) < n
      · obtain ⟨b, off, hlo, ⟨l0, l1⟩, l2, l3⟩ := (HK6.out.tch hT (fun a h0 e h => HL1.out a h0 e h)) j (by omega)
        obtain ⟨s0, s1⟩ := hA.rest j (Nat.le_refl _) (by omega)
        obtain ⟨cur, hcur, hcs⟩ := hA.blk
        have z0 := blk_frozen hcur (j * 2)
        have z1 := blk_frozen hcur (j * 2 + 1)
        have hbs : ¬ b = sb := HL1.out _ (by omega) hlo
        have hbs' : ¬ sb = b := fun e => hbs e.symm
        have HS : Hid (∀ q, AK (((wr.drewN q).setCell ⟨sb, j * 2, none⟩ (.string ⟨#[109, 105, 110, 101]⟩)).setCell ⟨sb, j * 2 + 1, none⟩ (.int .i64 0)) sb n (j + 1) nm by' ∧ Tch (fun i => i = sb) w6 (((wr.drewN q).setCell ⟨sb, j * 2, none⟩ (.string ⟨#[109, 105, 110, 101]⟩)).setCell ⟨sb, j * 2 + 1, none⟩ (.int .i64 0))) := fun q => ⟨(hA.tch (S := fun _ => False) ((Tch.refl _ wr).drewN q) (fun h => h)).step (by omega) _ _, ((hT.drewN q).setCellR ⟨sb, j * 2, none⟩ _ rfl).setCellR ⟨sb, j * 2 + 1, none⟩ _ rfl⟩
        subst hlo
        clear hA hT hcur hcs
        go_wp2_with fail
        go_quiet (fail)
        go_wp2
        go_roundw
        case rel => exact ⟨j + 1, by go_num, by omega, rfl, (HS.out _).1, (HS.out _).2⟩
        case measure => simp [intOf]; omega
      · obtain rfl : n = j := by omega
        have E7 : Ev (fun i => i = 16) w6 ω6 wr (ext ω6 w6.heap.size 16) := Ev.ofTch 16 rfl (hT.mono (fun i _ e => by subst e; exact hs6))
        have HFIN : Hid (∃ ω' d', PR wr ω' k db rb d' ∧ (d'.m.length = d.m.length ∧ (Nok d → Nok d') ∧ ∃ e, CRes d n nm by' e d') ∧ Ev (fun i => i = 16 ∨ i = k ∨ i = k + 1) w ω wr ω') := ⟨_, d5, HPR.out.ev E7 (by omega) (by omega), HLN.out, HEV.out.trans (E7.mono (fun i h => Or.inl h))⟩
        clear hA hT E7
        go_wp2
        go_ret
        exact ⟨rfl, HFIN.out⟩
  · rw [← hw4]
    clear hmk hcp k0 k1 f0 f1 hne q02 hw4
    refine hC2.mono ?_
    rintro x w5 ⟨e5, d5, ω5, rfl, hres, hD5, E5⟩
    clear hC1 hC2
    have hP5 := HP4.out.rf.ev E5 (by omega)
    have hK5 : KLs w5 lo n nm by' := HK.out w5 E5.tch
    have hz5 := E5.tch.size
    have E5k : ∀ i, i < w4.heap.size → ω1 i ≠ k → ω5 i = ω1 i := fun i hi h0 => (E5.old i hi).elim id (fun e => absurd e.1 h0)
    have hkeep5 : ∀ i, i < w4.heap.size → ω1 i = 0 → ω5 i = 0 := fun i hi h0 => (E5.old i hi).elim (fun e => e.trans h0) (fun e => by omega)
    have hq5 : w5.heap[w.heap.size]? = some (.cells (pairC db rb c) 26 (0, 0)) := (E5.tch.block _ (blk_lt hp4) (by show ¬ ω1 w.heap.size = k; omega)).trans hp4
    have q1 : w5.cell? ⟨w.heap.size, 1, none⟩ = some (.pointer (some ⟨rb, 0, none⟩)) := by rw [blk_cell hq5]; rfl
    have hsl : sb < w4.heap.size := blk_lt HA.out.blk.choose_spec.1
    have hcr := rcrash_f rb d _ lo n lc nm by' w5 hP5 hBd hK5 (by omega) (fun a h0 e => ⟨by have := (hL1 a h0 e).1; omega, by rw [hkeep5 _ (hL1 a h0 e).1 (hL1 a h0 e).2.1]; omega⟩)
    have HA5 : Hid (AK w5 sb n 0 nm by') := HA.out.tch E5.tch (by show ¬ ω1 sb = k; omega)
    have HD5 : Hid (DF w5 db d5 (oth ω5 k w5)) := hD5
    have HE5 : Hid (Ev (fun i => i = k) w4 ω1 w5 ω5) := E5
    have HK5 : Hid (KLs w5 lo n nm by') := hK5
    have HRS : Hid (CRes d n nm by' e5 d5) := hres
    clear hD5 E5 hK5 hP5 hq5 hres
    go_wp2_with fail
    refine hcr.mono ?_
    rintro x w6 ⟨hx, ht6⟩
    obtain ⟨e6, d6, hxe, hres6, hR6⟩ : ∃ e6 d6, x = .returned (.int .i64 e6) ∧ CRes d n nm by' e6 d6 ∧ RF w6 rb d6 (oth ω5 (k + 1) w5) := by
      rcases hx with ⟨e, hb, rfl, hD⟩ | ⟨hall, rfl, hD⟩
      · exact ⟨e, d, rfl, Or.inl ⟨hb, rfl⟩, hD⟩
      · exact ⟨0, _, rfl, Or.inr ⟨hall, rfl, rfl⟩, hD⟩
    subst hxe
    obtain ⟨he, hd⟩ := HRS.out.uniq hres6
    subst he hd
    obtain ⟨hR6', E6⟩ := hR6.did ht6
    obtain ⟨ω6, hω6⟩ : ∃ ω6, ω6 = ext ω5 w5.heap.size (k + 1) := ⟨_, rfl⟩
    rw [← hω6] at hR6' E6
    have HPR : Hid (PR w6 ω6 k db rb d5) := ⟨HD5.out.ev E6 (by omega), hR6'⟩
    have hs5 : ω5 sb = 16 := (E5k sb hsl (by omega)).trans hs1.1
    have hA6 : AK w6 sb n 0 nm by' := HA5.out.tch E6.tch (by show ¬ ω5 sb = k + 1; omega)
    have HK6 : Hid (KLs w6 lo n nm by') := HK5.out.tch E6.tch (fun a h0 e h => by have := hkeep5 _ (hL1 a h0 e).1 (hL1 a h0 e).2.1; omega)
    have hs6 : ω6 sb = 16 := by rw [hω6, ext_lt (by omega)]; exact hs5
    have m0 := hA6.m0
    have m1 := hA6.m1
    have HEV : Hid (Ev (fun i => i = 16 ∨ i = k ∨ i = k + 1) w ω w6 ω6) := ((HE1.out.mono (fun i h => Or.inl h)).trans (HE5.out.mono (fun i h => Or.inr (Or.inl h)))).trans (E6.mono (fun i h => Or.inr (Or.inr h)))
    have HLN : Hid (d5.m.length = d.m.length ∧ (Nok d → Nok d5) ∧ ∃ e, CRes d n nm by' e d5) := ⟨HRS.out.len, fun h => nok_cres h HRS.out, e5, HRS.out⟩
    have HL1 : Hid (∀ a, 0 < n → lo = some a → a.block ≠ sb) := fun a h0 e => (hL1 a h0 e).2.2
    have HBK : Hid (AK w6 sb n 0 nm by') := hA6
    clear hx ht6 hres6 hR6 hR6' E6 hω6 hcr q1 hkeep5 E5k hL1 HK5 HA5 HD5 HE5 HRS hA6
    go_wp2_with fail
    go_loopw [10, 11] (fun ok i wr => ∃ j : Nat, i = .int .i64 j ∧ j ≤ n ∧ ok = .bool true ∧ AK wr sb n j nm by' ∧ Tch (fun i => i = sb) w6 wr) (fun _ i _ => n - (intOf i).toNat)
    case atStart => exact ⟨0, rfl, by omega, rfl, HBK.out, Tch.refl _ _⟩
    case round =>
      obtain ⟨j, rfl, hj, rfl, hA, hT⟩ := hrel
      by_cases hlt : (j : Int) < n
      · obtain ⟨b, off, hlo, ⟨l0, l1⟩, l2, l3⟩ := (HK6.out.tch hT (fun a h0 e h => HL1.out a h0 e h)) j (by omega)
        obtain ⟨s0, s1⟩ := hA.rest j (Nat.le_refl _) (by omega)
        obtain ⟨cur, hcur, hcs⟩ := hA.blk
        have z0 := blk_frozen hcur (j * 2)
        have z1 := blk_frozen hcur (j * 2 + 1)
        have hbs : ¬ b = sb := HL1.out _ (by omega) hlo
        have hbs' : ¬ sb = b := fun e => hbs e.symm
        have HS : Hid (∀ q, AK (((wr.drewN q).setCell ⟨sb, j * 2, none⟩ (.string ⟨#[109, 105, 110, 101]⟩)).setCell ⟨sb, j * 2 + 1, none⟩ (.int .i64 0)) sb n (j + 1) nm by' ∧ Tch (fun i => i = sb) w6 (((wr.drewN q).setCell ⟨sb, j * 2, none⟩ (.string ⟨#[109, 105, 110, 101]⟩)).setCell ⟨sb, j * 2 + 1, none⟩ (.int .i64 0))) := fun q => ⟨(hA.tch (S := fun _ => False) ((Tch.refl _ wr).drewN q) (fun h => h)).step (by omega) _ _, ((hT.drewN q).setCellR ⟨sb, j * 2, none⟩ _ rfl).setCellR ⟨sb, j * 2 + 1, none⟩ _ rfl⟩
        subst hlo
        clear hA hT hcur hcs
        go_wp2_with fail
        go_quiet (fail)
        go_wp2
        go_roundw
        case rel => exact ⟨j + 1, by go_num, by omega, rfl, (HS.out _).1, (HS.out _).2⟩
        case measure => simp [intOf]; omega
      · obtain rfl : n = j := by omega
        have E7 : Ev (fun i => i = 16) w6 ω6 wr (ext ω6 w6.heap.size 16) := Ev.ofTch 16 rfl (hT.mono (fun i _ e => by subst e; exact hs6))
        have HFIN : Hid (∃ ω' d', PR wr ω' k db rb d' ∧ (d'.m.length = d.m.length ∧ (Nok d → Nok d') ∧ ∃ e, CRes d n nm by' e d') ∧ Ev (fun i => i = 16 ∨ i = k ∨ i = k + 1) w ω wr ω') := ⟨_, d5, HPR.out.ev E7 (by omega) (by omega), HLN.out, HEV.out.trans (E7.mono (fun i h => Or.inl h))⟩
        clear hA hT E7
        go_wp2
        go_ret
        exact ⟨rfl, HFIN.out⟩
end Go.Proofs.YtjambfbibeihiaaGreat
