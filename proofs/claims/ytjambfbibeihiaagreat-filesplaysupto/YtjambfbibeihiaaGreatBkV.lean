import Derived.Test.YtjambfbibeihiaaGreatBkF
/- The book: still. -/
namespace Go.Proofs.YtjambfbibeihiaaGreat
set_option maxRecDepth 100000
open Go.RowKit Go.ChangeMaps Go.Sort

theorem wrap_of {n : Int} (h1 : -9223372036854775808 ≤ n) (h2 : n ≤ 9223372036854775807) : IntKind.i64.wrap n = n := by
  simp [IntKind.wrap, IntKind.signed, IntKind.bits]; omega
theorem wrap_mark {k : Nat} (h : k ≤ 1099511627776) : IntKind.i64.wrap (IntKind.i64.wrap ((k : Int) / 20) * 20) = ((k / 20 * 20 : Nat) : Int) := by
  rw [wrap_of (n := (k : Int) / 20) (by omega) (by omega), wrap_of (n := (k : Int) / 20 * 20) (by omega) (by omega)]; omega

set_option maxHeartbeats 2000000 in
theorem still_any (bb kn kf : Nat) (hN wN hF wF : Value) (ω : Nat → Nat) (w : World) (hB : BK w ω bb kn kf hN wN hF wF) (hkn : kn ≤ 1099511627776) (hkf : kf ≤ 1099511627776) :
    Calls Tryz.prog 7 #[.pointer (some ⟨bb, 0, none⟩)] w fun x w' => x = .returned (.bool true) ∧ Tch (fun _ => False) w w' := by
  obtain ⟨nv, fv, hb, ⟨vs, hvs, hnv⟩, ⟨fs, hfs, hfv⟩⟩ := hB.row
  obtain ⟨no, nc, h1⟩ := rowN_of hvs.1
  subst h1
  obtain ⟨fo, fc, h1⟩ := rowN_of hfs.1
  subst h1
  have hlN : vs.length = kn := by simpa using hvs.1.1
  have hlF : fs.length = kf := by simpa using hfs.1.1
  have HC : Hid (∀ W, Tch (fun _ => False) w W → W.cell? ⟨bb, 0, none⟩ = some (.slice no kn nc) ∧ W.cell? ⟨bb, 1, none⟩ = some (.slice fo kf fc)) := fun W t => by
    have := (t.block bb (blk_lt hb) (fun h => h)).trans hb
    exact ⟨by rw [blk_cell this]; rfl, by rw [blk_cell this]; rfl⟩
  have HV : Hid (∀ k, k < kn → ∃ g ao len cap, no = some ⟨g, 0, none⟩ ∧ len ≤ 1099511627776 ∧ ∀ W, Tch (fun _ => False) w W → W.cell? ⟨g, k, none⟩ = some (.slice ao len cap) ∧ ∀ j, j < len → ∃ b, ao = some ⟨b, 0, none⟩ ∧ W.cell? ⟨b, j, none⟩ = some (.string (markB (k / 20 * 20)))) := fun k hk => by
    obtain ⟨g, cp, e1, _, hlt⟩ := hvs.1.form (by omega)
    simp only [Value.slice.injEq, true_and] at e1
    obtain ⟨rfl, _⟩ := e1
    obtain ⟨ao, len, cap, e2, e3, e4⟩ := hnv k _ (List.getElem?_eq_getElem (by omega))
    refine ⟨g, ao, len, cap, rfl, e3, fun W t => ⟨?_, fun j hj => ?_⟩⟩
    · have h2 := hvs.1.cellAt k (by omega)
      rw [List.getElem?_eq_getElem (by omega), e2] at h2
      exact (t.cell (p := ⟨g, _, none⟩) hlt (fun h => h)).trans h2
    · obtain ⟨b, e5, ⟨e6, _⟩, e7⟩ := e4 j hj
      refine ⟨b, e5, (t.cell (p := ⟨b, _, none⟩) e6 (fun h => h)).trans ?_⟩
      have := e7 0 (.string (markB (k / 20 * 20))) rfl
      simpa [patN] using this
  have HV2 : Hid (∀ k, k < kf → ∃ g ao len cap, fo = some ⟨g, 0, none⟩ ∧ len ≤ 1099511627776 ∧ ∀ W, Tch (fun _ => False) w W → W.cell? ⟨g, k, none⟩ = some (.slice ao len cap) ∧ ∀ j, j < len → ∃ b, ao = some ⟨b, 0, none⟩ ∧ W.cell? ⟨b, j * 2, none⟩ = some (.string (markB (k / 20 * 20))) ∧ W.cell? ⟨b, j * 2 + 1, none⟩ = some (.string ⟨#[]⟩)) := fun k hk => by
    obtain ⟨g, cp, e1, _, hlt⟩ := hfs.1.form (by omega)
    simp only [Value.slice.injEq, true_and] at e1
    obtain ⟨rfl, _⟩ := e1
    obtain ⟨ao, len, cap, e2, e3, e4⟩ := hfv k _ (List.getElem?_eq_getElem (by omega))
    refine ⟨g, ao, len, cap, rfl, e3, fun W t => ⟨?_, fun j hj => ?_⟩⟩
    · have h2 := hfs.1.cellAt k (by omega)
      rw [List.getElem?_eq_getElem (by omega), e2] at h2
      exact (t.cell (p := ⟨g, _, none⟩) hlt (fun h => h)).trans h2
    · obtain ⟨b, e5, ⟨e6, _⟩, e7⟩ := e4 j hj
      have h7 := e7 0 (.string (markB (k / 20 * 20))) rfl
      have h8 := e7 1 (.string ⟨#[]⟩) rfl
      exact ⟨b, e5, (t.cell (p := ⟨b, _, none⟩) e6 (fun h => h)).trans h7, (t.cell (p := ⟨b, _, none⟩) e6 (fun h => h)).trans h8⟩
  have HM : Hid (∀ (k : Nat) W, k ≤ 1099511627776 → Tch (fun _ => False) w W → Calls Tryz.prog 33 #[.int .i64 (IntKind.i64.wrap (IntKind.i64.wrap ((k : Int) / 20) * 20))] W fun x w' => x = .returned (.string (markB (k / 20 * 20))) ∧ Tch (fun _ => False) w w') := fun k W hk t => by
    rw [wrap_mark hk]
    refine (mark_any (k / 20 * 20) W).mono ?_
    rintro x w' ⟨rfl, t'⟩
    exact ⟨rfl, t.trans' t'⟩
  clear hb hvs hnv hfs hfv hB
  go_enter Tryz.func7, Tryz.ntmps7
  go_wp2_with fail
  go_loopw [3] (fun i wr => ∃ k : Nat, i = .int .i64 k ∧ k ≤ kn ∧ Tch (fun _ => False) w wr) (fun i _ => kn - (intOf i).toNat)
  case atStart => exact ⟨0, rfl, by omega, Tch.refl _ _⟩
  case round =>
    obtain ⟨k, rfl, hk, hT⟩ := hrel
    obtain ⟨c0, -⟩ := HC.out wr hT
    by_cases hlt : (k : Int) < kn
    · obtain ⟨g, ao, len, cap, rfl, hlen, hW⟩ := HV.out k (by omega)
      have HW : Hid _ := hW
      clear hW
      go_wp2_with fail
      go_loopw [4] (fun q wr => ∃ j : Nat, q = .int .i64 j ∧ j ≤ len ∧ Tch (fun _ => False) w wr) (fun q _ => len - (intOf q).toNat)
      case atStart => exact ⟨0, rfl, by omega, hT⟩
      case round =>
        obtain ⟨j, rfl, hj, hT2⟩ := hrel
        obtain ⟨d0, -⟩ := HC.out wr hT2
        obtain ⟨d1, d2⟩ := HW.out wr hT2
        by_cases hjl : (j : Int) < len
        · obtain ⟨b, rfl, d3⟩ := d2 j (by omega)
          obtain ⟨mk, hmkd⟩ : ∃ mk, mk = markB (k / 20 * 20) := ⟨_, rfl⟩
          rw [← hmkd] at d3
          obtain ⟨C, hC⟩ : ∃ C : List Value → World → Prop, C = fun _ W => Tch (fun _ => False) w W := ⟨_, rfl⟩
          have hc : ∀ s W, C s W → W.cell? ⟨bb, 0, none⟩ = some (.slice (some ⟨g, 0, none⟩) kn nc) ∧ W.cell? ⟨g, k, none⟩ = some (.slice (some ⟨b, 0, none⟩) len cap) ∧ W.cell? ⟨b, j, none⟩ = some (.string mk) := fun s W h => by
            rw [hC] at h; rw [hmkd]
            obtain ⟨q1, q2⟩ := HW.out W h
            obtain ⟨b', e, q3⟩ := q2 j (by omega)
            cases e
            exact ⟨(HC.out W h).1, q1, q3⟩
          have hmk : ∀ s W, C s W → Calls Tryz.prog 33 #[.int .i64 (IntKind.i64.wrap (IntKind.i64.wrap ((k : Int) / 20) * 20))] W fun x w' => x = .returned (.string mk) ∧ C s w' := fun s W h => by
            rw [hC] at h ⊢; rw [hmkd]
            exact HM.out k W (by omega) h
          have s0 : C [] wr.drew := by rw [hC]; exact hT2.drew
          have hend : ∀ s W, C s W → Tch (fun _ => False) w W := fun s W h => by rw [hC] at h; exact h
          clear hC d2 c0 hmkd
          go_wp2_with fail
          clear d0 d1 d3
          refine wp_region_barv [] C (by kernel_rfl) (by kernel_rfl) (by kernel_rfl) s0 ?_
          clear s0
          iterate 13 (refine barv_read (by go_simp) (by rfl) ?_
                      apply Exists.intro
                      refine ⟨fun s' W hW b K Q hK => ?_, fun K hK => ?_⟩
                      obtain ⟨q0, q1, q2⟩ := hc _ W hW
                      go_simp
                      exact hK W hW
                      go_simp
                      refine hK _ ?_
                      clear hK K)
          refine barv_read (by go_simp) (by rfl) ?_
          apply Exists.intro
          refine ⟨fun s' W hW b K Q hK => ?_, fun K hK => ?_⟩
          go_simp
          go_at_call 33
          refine (hmk _ W hW).mono ?_
          rintro x w' ⟨rfl, h1⟩
          exact hK _ h1
          go_simp
          refine hK _ ?_
          clear hK K
          refine barv_read (by go_simp) (by rfl) ?_
          apply Exists.intro
          refine ⟨fun s' W hW b K Q hK => ?_, fun K hK => ?_⟩
          go_simp
          exact hK W hW
          go_simp
          refine hK _ ?_
          clear hK K
          refine barv_nil ?_
          intro w8 hw8
          have hT8 := hend _ _ hw8
          clear hw8 hend hc hmk
          go_wp2
          go_roundw
          case rel => exact ⟨j + 1, by go_num, by omega, hT8⟩
          case measure => simp [intOf]; omega
        · obtain rfl : len = j := by omega
          clear d2
          go_wp2
          go_roundw
          case rel => exact ⟨k + 1, by go_num, by omega, hT2⟩
          case measure => simp [intOf]; omega
    · obtain rfl : kn = k := by omega
      go_wp2_with fail
      clear c0
      go_loopw [5] (fun i wr => ∃ k : Nat, i = .int .i64 k ∧ k ≤ kf ∧ Tch (fun _ => False) w wr) (fun i _ => kf - (intOf i).toNat)
      case atStart => exact ⟨0, rfl, by omega, hT⟩
      case round =>
        obtain ⟨k, rfl, hk, hT⟩ := hrel
        obtain ⟨-, c0⟩ := HC.out wr hT
        by_cases hlt : (k : Int) < kf
        · obtain ⟨g, ao, len, cap, rfl, hlen, hW⟩ := HV2.out k (by omega)
          have HW : Hid _ := hW
          clear hW
          go_wp2_with fail
          go_loopw [6] (fun q wr => ∃ j : Nat, q = .int .i64 j ∧ j ≤ len ∧ Tch (fun _ => False) w wr) (fun q _ => len - (intOf q).toNat)
          case atStart => exact ⟨0, rfl, by omega, hT⟩
          case round =>
            obtain ⟨j, rfl, hj, hT2⟩ := hrel
            obtain ⟨-, d0⟩ := HC.out wr hT2
            obtain ⟨d1, d2⟩ := HW.out wr hT2
            by_cases hjl : (j : Int) < len
            · obtain ⟨b, rfl, d3, d4⟩ := d2 j (by omega)
              obtain ⟨mk, hmkd⟩ : ∃ mk, mk = markB (k / 20 * 20) := ⟨_, rfl⟩
              rw [← hmkd] at d3
              obtain ⟨C, hC⟩ : ∃ C : List Value → World → Prop, C = fun _ W => Tch (fun _ => False) w W := ⟨_, rfl⟩
              have hc : ∀ s W, C s W → W.cell? ⟨bb, 1, none⟩ = some (.slice (some ⟨g, 0, none⟩) kf fc) ∧ W.cell? ⟨g, k, none⟩ = some (.slice (some ⟨b, 0, none⟩) len cap) ∧ W.cell? ⟨b, j * 2, none⟩ = some (.string mk) ∧ W.cell? ⟨b, j * 2 + 1, none⟩ = some (.string ⟨#[]⟩) := fun s W h => by
                rw [hC] at h; rw [hmkd]
                obtain ⟨q1, q2⟩ := HW.out W h
                obtain ⟨b', e, q3, q4⟩ := q2 j (by omega)
                cases e
                exact ⟨(HC.out W h).2, q1, q3, q4⟩
              have hmk : ∀ s W, C s W → Calls Tryz.prog 33 #[.int .i64 (IntKind.i64.wrap (IntKind.i64.wrap ((k : Int) / 20) * 20))] W fun x w' => x = .returned (.string mk) ∧ C s w' := fun s W h => by
                rw [hC] at h ⊢; rw [hmkd]
                exact HM.out k W (by omega) h
              have s0 : C [] wr.drew := by rw [hC]; exact hT2.drew
              have hend : ∀ s W, C s W → Tch (fun _ => False) w W := fun s W h => by rw [hC] at h; exact h
              clear hC d2 c0 hmkd
              go_wp2_with fail
              clear d0 d1 d3 d4
              refine wp_region_barv [] C (by kernel_rfl) (by kernel_rfl) (by kernel_rfl) s0 ?_
              clear s0
              iterate 13 (refine barv_read (by go_simp) (by rfl) ?_
                          apply Exists.intro
                          refine ⟨fun s' W hW b K Q hK => ?_, fun K hK => ?_⟩
                          obtain ⟨q0, q1, q2, q3⟩ := hc _ W hW
                          go_simp
                          exact hK W hW
                          go_simp
                          refine hK _ ?_
                          clear hK K)
              refine barv_read (by go_simp) (by rfl) ?_
              apply Exists.intro
              refine ⟨fun s' W hW b K Q hK => ?_, fun K hK => ?_⟩
              go_simp
              go_at_call 33
              refine (hmk _ W hW).mono ?_
              rintro x w' ⟨rfl, h1⟩
              exact hK _ h1
              go_simp
              refine hK _ ?_
              clear hK K
              iterate 2 (refine barv_read (by go_simp) (by rfl) ?_
                         apply Exists.intro
                         refine ⟨fun s' W hW b K Q hK => ?_, fun K hK => ?_⟩
                         go_simp
                         exact hK W hW
                         go_simp
                         refine hK _ ?_
                         clear hK K)
              refine barv_nil ?_
              intro w8 hw8
              have hT8 := hend _ _ hw8
              clear hw8 hend hc hmk
              go_wp2
              go_roundw
              case rel => exact ⟨j + 1, by go_num, by omega, hT8⟩
              case measure => simp [intOf]; omega
            · obtain rfl : len = j := by omega
              clear d2
              go_wp2
              go_roundw
              case rel => exact ⟨k + 1, by go_num, by omega, hT2⟩
              case measure => simp [intOf]; omega
        · obtain rfl : kf = k := by omega
          go_wp2
          go_ret
          exact ⟨rfl, hT⟩
end Go.Proofs.YtjambfbibeihiaaGreat
/- The book: lists that come out. -/
namespace Go.Proofs.YtjambfbibeihiaaGreat
set_option maxRecDepth 100000
open Go.RowKit Go.ChangeMaps Go.Sort

/-- The cells of a list of texts. -/
def scl (nm : Nat → ByteArray) : Nat → List Value
  | 0 => []
  | k + 1 => scl nm k ++ [.string (nm k)]
theorem scl_len (nm : Nat → ByteArray) : ∀ k, (scl nm k).length = k
  | 0 => rfl
  | k + 1 => by simp [scl, scl_len nm k]
theorem scl_get (nm : Nat → ByteArray) : ∀ k i, i < k → (scl nm k)[i]? = some (.string (nm i))
  | 0, _, h => by omega
  | k + 1, i, h => by
    have hl := scl_len nm k
    rw [scl]
    rcases Nat.lt_or_ge i k with h1 | h1
    · rw [List.getElem?_append_left (by omega)]; exact scl_get nm k i h1
    · obtain rfl : i = k := by omega
      rw [List.getElem?_append_right (by omega), hl, Nat.sub_self]; rfl
theorem scl_names (l : List Nm) : l.map encStr = scl (fun i => ⟨(l.getD i []).toArray⟩) l.length := by
  apply List.ext_getElem?
  intro i
  rcases Nat.lt_or_ge i l.length with h | h
  · rw [scl_get _ _ i h, List.getElem?_map, List.getElem?_eq_getElem h, List.getD_eq_getElem?_getD, List.getElem?_eq_getElem h]; rfl
  · rw [List.getElem?_eq_none (by simpa using h), List.getElem?_eq_none (by rw [scl_len]; exact h)]
theorem LO.sls {w : World} {ω : Nat → Nat} {k : Nat} {ao : Option Addr} {cp n : Nat} {nm : Nat → ByteArray} (h : LO w ω k 9 1 (.slice ao n cp) n (scl nm n)) : SLs w ao n nm := fun i hi => by
  obtain ⟨g, cp', e1, _, hlt⟩ := h.1.form (by omega)
  simp only [Value.slice.injEq, true_and] at e1
  obtain ⟨rfl, _⟩ := e1
  refine ⟨g, 0, rfl, ?_⟩
  have := h.1.cells (g := g) rfl i _ (scl_get nm n i hi)
  rwa [Addr.add_lit] at this
theorem LO.fls {w : World} {ω : Nat → Nat} {k : Nat} {ao : Option Addr} {cp n : Nat} {nm bs : Nat → ByteArray} (h : LO w ω k 31 2 (.slice ao n cp) n (fcl nm bs n)) : FLs w ao n nm bs := fls_row h.1

/-- Two lists of texts that read the same, each its owner's. -/
def TwoS (w : World) (ω : Nat → Nat) (k k' : Nat) (a b : Value) : Prop := ∃ n nm, LO w ω k 9 1 a n (scl nm n) ∧ LO w ω k' 9 1 b n (scl nm n) ∧ n + 20 ≤ 1099511627776
def TwoF (w : World) (ω : Nat → Nat) (k k' : Nat) (a b : Value) : Prop := ∃ n nm bs, LO w ω k 31 2 a n (fcl nm bs n) ∧ LO w ω k' 31 2 b n (fcl nm bs n) ∧ n + 20 ≤ 1099511627776
theorem TwoS.ev {K : Nat → Prop} {w w' : World} {ω ω' : Nat → Nat} {k k' : Nat} {a b : Value} (h : TwoS w ω k k' a b) (e : Ev K w ω w' ω') (h1 : ¬ K k) (h2 : ¬ K k') : TwoS w' ω' k k' a b := by
  obtain ⟨n, nm, h3, h4, h5⟩ := h
  exact ⟨n, nm, h3.ev e h1, h4.ev e h2, h5⟩
theorem TwoF.ev {K : Nat → Prop} {w w' : World} {ω ω' : Nat → Nat} {k k' : Nat} {a b : Value} (h : TwoF w ω k k' a b) (e : Ev K w ω w' ω') (h1 : ¬ K k) (h2 : ¬ K k') : TwoF w' ω' k k' a b := by
  obtain ⟨n, nm, bs, h3, h4, h5⟩ := h
  exact ⟨n, nm, bs, h3.ev e h1, h4.ev e h2, h5⟩
theorem TwoS.same {w : World} {ω : Nat → Nat} {k k' : Nat} {a b : Value} (h : TwoS w ω k k' a b) : Calls Tryz.prog 78 #[a, b] w fun x w' => x = .returned (.bool true) ∧ ∃ m, w' = w.drewN m := by
  obtain ⟨n, nm, h3, h4, h5⟩ := h
  obtain ⟨ao, ac, rfl⟩ := rowN_of h3.1
  obtain ⟨bo, bc, rfl⟩ := rowN_of h4.1
  exact same_any ao bo n ac bc nm w h3.sls h4.sls (by omega)
theorem TwoF.same {w : World} {ω : Nat → Nat} {k k' : Nat} {a b : Value} (h : TwoF w ω k k' a b) : Calls Tryz.prog 11 #[a, b] w fun x w' => x = .returned (.bool true) ∧ ∃ m, w' = w.drewN m := by
  obtain ⟨n, nm, bs, h3, h4, h5⟩ := h
  obtain ⟨ao, ac, rfl⟩ := rowN_of h3.1
  obtain ⟨bo, bc, rfl⟩ := rowN_of h4.1
  exact samef_any ao bo n ac bc nm bs w h3.fls h4.fls (by omega)
theorem LO.drewN {w : World} {ω : Nat → Nat} {k : Nat} {e : TypeId} {sz : Nat} {v : Value} {n : Nat} {xs : List Value} (h : LO w ω k e sz v n xs) (m : Nat) : LO (w.drewN m) ω k e sz v n xs := h.tch ((Tch.refl (fun _ => False) w).drewN m) (fun _ _ h => h.elim)

/-- The book between the steps. -/
structure BO (w : World) (ω : Nat → Nat) (bb T : Nat) (hN wN hF wF : Value) : Prop where
  bk : ∃ kn kf, BK w ω bb kn kf hN wN hF wF ∧ (kn % 20 = 0 ∧ kf % 20 = 0) ∧ kn ≤ 40 * T ∧ kf ≤ 40 * T
  ns : TwoS w ω 9 10 hN wN
  fs : TwoF w ω 11 12 hF wF
theorem BO.ev {K : Nat → Prop} {w w' : World} {ω ω' : Nat → Nat} {bb T : Nat} {hN wN hF wF : Value} (h : BO w ω bb T hN wN hF wF) (e : Ev K w ω w' ω') (hk : ∀ i, 5 ≤ i → i ≤ 12 → ¬ K i) : BO w' ω' bb T hN wN hF wF := by
  obtain ⟨kn, kf, h1, h2⟩ := h.bk
  exact ⟨⟨kn, kf, h1.ev e (fun i a b => hk i a (by omega)), h2⟩, h.ns.ev e (hk 9 (by omega) (by omega)) (hk 10 (by omega) (by omega)), h.fs.ev e (hk 11 (by omega) (by omega)) (hk 12 (by omega) (by omega))⟩
theorem BO.drewN {w : World} {ω : Nat → Nat} {bb T : Nat} {hN wN hF wF : Value} (h : BO w ω bb T hN wN hF wF) (n : Nat) : BO (w.drewN n) ω bb T hN wN hF wF := h.ev (K := fun _ => False) ((Ev.refl _ w ω).drewN n) (fun _ _ _ h => h)
theorem BO.up {w : World} {ω : Nat → Nat} {bb T : Nat} {hN wN hF wF : Value} (h : BO w ω bb T hN wN hF wF) : BO w ω bb (T + 1) hN wN hF wF := by
  obtain ⟨kn, kf, h1, h2, h3, h4⟩ := h.bk
  exact ⟨⟨kn, kf, h1, h2, by omega, by omega⟩, h.ns, h.fs⟩
end Go.Proofs.YtjambfbibeihiaaGreat
/- The book: twoNames. -/
namespace Go.Proofs.YtjambfbibeihiaaGreat
set_option maxRecDepth 100000
open Go.RowKit Go.ChangeMaps Go.Sort

/-- a's become b's. -/
def relab (ω : Nat → Nat) (a b a' b' : Nat) : Nat → Nat := fun i => if ω i = a then b else if ω i = a' then b' else ω i
theorem relab_ne {ω : Nat → Nat} {a b a' b' i : Nat} (h1 : ω i ≠ a) (h2 : ω i ≠ a') : relab ω a b a' b' i = ω i := by unfold relab; rw [if_neg h1, if_neg h2]
theorem LO.rl {w : World} {ω : Nat → Nat} {a b a' b' k : Nat} {e : TypeId} {sz : Nat} {v : Value} {n : Nat} {xs : List Value} (h : LO w ω k e sz v n xs) (h1 : k ≠ a) (h2 : k ≠ a') : LO w (relab ω a b a' b') k e sz v n xs :=
  ⟨h.1, fun g hg => by rw [relab_ne (by rw [h.2 g hg]; exact h1) (by rw [h.2 g hg]; exact h2)]; exact h.2 g hg⟩
theorem LO.rl1 {w : World} {ω : Nat → Nat} {a b a' b' : Nat} {e : TypeId} {sz : Nat} {v : Value} {n : Nat} {xs : List Value} (h : LO w ω a e sz v n xs) : LO w (relab ω a b a' b') b e sz v n xs :=
  ⟨h.1, fun g hg => if_pos (h.2 g hg)⟩
theorem LO.rl2 {w : World} {ω : Nat → Nat} {a b a' b' : Nat} {e : TypeId} {sz : Nat} {v : Value} {n : Nat} {xs : List Value} (h : LO w ω a' e sz v n xs) (hne : a' ≠ a) : LO w (relab ω a b a' b') b' e sz v n xs :=
  ⟨h.1, fun g hg => by unfold Go.Proofs.YtjambfbibeihiaaGreat.relab; rw [if_neg (by rw [h.2 g hg]; exact hne), if_pos (h.2 g hg)]⟩
theorem NR.rl {w w' : World} {ω : Nat → Nat} {a b a' b' c bb : Nat} {e : TypeId} {pat : Nat → List Value} {nv : Value} {kn : Nat} (h : NR w ω c e pat nv kn) (t : Tch (fun i => i = bb) w w') (hbb : ω bb = 6) (h1 : 9 ≤ a) (h2 : 9 ≤ a') (hc : 7 ≤ c ∧ c ≤ 8) : NR w' (relab ω a b a' b') c e pat nv kn :=
  h.tch t (fun i hi hω => ⟨fun e => by subst e; omega, relab_ne (by omega) (by omega)⟩)
theorem Ev.rl {K : Nat → Prop} {w w' : World} {ω ω' : Nat → Nat} {a b a' b' : Nat} (h : Ev K w ω w' ω') (ha : K a) (hb : K b) (ha' : K a') (hb' : K b') : Ev K w ω w' (relab ω' a b a' b') := by
  refine ⟨h.tch, fun i hi => ?_, fun i h1 h2 => ?_⟩
  · unfold Go.Proofs.YtjambfbibeihiaaGreat.relab
    have old := h.old i hi
    split
    · rename_i e
      right
      refine ⟨?_, hb⟩
      rcases old with o | o
      · rw [← o, e]; exact ha
      · exact o.1
    · split
      · rename_i e
        right
        refine ⟨?_, hb'⟩
        rcases old with o | o
        · rw [← o, e]; exact ha'
        · exact o.1
      · exact old
  · unfold Go.Proofs.YtjambfbibeihiaaGreat.relab
    split
    · exact hb
    · split
      · exact hb'
      · exact h.new i h1 h2

theorem BK.cell {w : World} {ω : Nat → Nat} {bb kn kf : Nat} {hN wN hF wF : Value} (h : BK w ω bb kn kf hN wN hF wF) : (w.cell? ⟨bb, 2, none⟩ = some hN ∧ w.cell? ⟨bb, 3, none⟩ = some wN) ∧ (w.cell? ⟨bb, 4, none⟩ = some hF ∧ w.cell? ⟨bb, 5, none⟩ = some wF) ∧ ∀ j, w.frozen? ⟨bb, j, none⟩ = false := by
  obtain ⟨nv, fv, hb, _⟩ := h.row
  exact ⟨⟨by rw [blk_cell hb]; rfl, by rw [blk_cell hb]; rfl⟩, ⟨by rw [blk_cell hb]; rfl, by rw [blk_cell hb]; rfl⟩, fun j => blk_frozen hb j⟩
theorem BK.drewN {w : World} {ω : Nat → Nat} {bb kn kf : Nat} {hN wN hF wF : Value} (h : BK w ω bb kn kf hN wN hF wF) (n : Nat) : BK (w.drewN n) ω bb kn kf hN wN hF wF := h.ev (K := fun _ => False) ((Ev.refl _ w ω).drewN n) (fun _ _ _ h => h)
theorem TwoS.drewN {w : World} {ω : Nat → Nat} {k k' : Nat} {a b : Value} (h : TwoS w ω k k' a b) (n : Nat) : TwoS (w.drewN n) ω k k' a b := h.ev (K := fun _ => False) ((Ev.refl _ w ω).drewN n) (fun h => h) (fun h => h)
theorem TwoF.drewN {w : World} {ω : Nat → Nat} {k k' : Nat} {a b : Value} (h : TwoF w ω k k' a b) (n : Nat) : TwoF (w.drewN n) ω k k' a b := h.ev (K := fun _ => False) ((Ev.refl _ w ω).drewN n) (fun h => h) (fun h => h)

/-- The lists that came out are held. -/
theorem BK.holdN {w : World} {ω : Nat → Nat} {bb kn kf : Nat} {hN wN hF wF two want : Value} (h : BK w ω bb kn kf hN wN hF wF) : BK ((w.setCell ⟨bb, 2, none⟩ two).setCell ⟨bb, 3, none⟩ want) (relab ω 14 9 15 10) bb kn kf two want hF wF := by
  obtain ⟨nv, fv, hb, h1, h2⟩ := h.row
  have t := (Tch.setCell (fun i => i = bb) w ⟨bb, 2, none⟩ two rfl).setCellR ⟨bb, 3, none⟩ want rfl
  exact ⟨⟨nv, fv, blk_set (blk_set hb _) _, h1.rl t h.own (by omega) (by omega) (by omega), h2.rl t h.own (by omega) (by omega) (by omega)⟩, by rw [relab_ne (by rw [h.own]; omega) (by rw [h.own]; omega)]; exact h.own⟩
theorem BK.holdF {w : World} {ω : Nat → Nat} {bb kn kf : Nat} {hN wN hF wF two want : Value} (h : BK w ω bb kn kf hN wN hF wF) : BK ((w.setCell ⟨bb, 4, none⟩ two).setCell ⟨bb, 5, none⟩ want) (relab ω 14 11 15 12) bb kn kf hN wN two want := by
  obtain ⟨nv, fv, hb, h1, h2⟩ := h.row
  have t := (Tch.setCell (fun i => i = bb) w ⟨bb, 4, none⟩ two rfl).setCellR ⟨bb, 5, none⟩ want rfl
  exact ⟨⟨nv, fv, blk_set (blk_set hb _) _, h1.rl t h.own (by omega) (by omega) (by omega), h2.rl t h.own (by omega) (by omega) (by omega)⟩, by rw [relab_ne (by rw [h.own]; omega) (by rw [h.own]; omega)]; exact h.own⟩
theorem LO.cellbb {w : World} {ω : Nat → Nat} {k bb : Nat} {e : TypeId} {sz : Nat} {v : Value} {n : Nat} {xs : List Value} (h : LO w ω k e sz v n xs) (hbb : ω bb = 6) (hk : k ≠ 6) (p q : Nat) (x y : Value) : LO ((w.setCell ⟨bb, p, none⟩ x).setCell ⟨bb, q, none⟩ y) ω k e sz v n xs :=
  h.tch ((Tch.setCell (fun i => i = bb) w ⟨bb, p, none⟩ x rfl).setCellR ⟨bb, q, none⟩ y rfl) (fun i _ e => by subst e; rw [hbb]; exact fun h => hk h.symm)

set_option maxHeartbeats 2000000 in
theorem twoN (bb T n : Nat) (nm : Nat → ByteArray) (one two want hN wN hF wF : Value) (ω : Nat → Nat) (w : World) (hO : BO w ω bb T hN wN hF wF) (hT : T ≤ 4294967296) (h1 : LO w ω 13 9 1 one n (scl nm n)) (h2 : LO w ω 14 9 1 two n (scl nm n)) (h3 : LO w ω 15 9 1 want n (scl nm n)) (hn : n + 20 ≤ 1099511627776) :
    Calls Tryz.prog 67 #[.pointer (some ⟨bb, 0, none⟩), one, two, want] w fun x w' => x = .returned (.bool true) ∧ ∃ ω', BO w' ω' bb (T + 1) two want hF wF ∧ Ev (fun i => 5 ≤ i) w ω w' ω' := by
  obtain ⟨lo2, lc2, hv2⟩ := rowN_of h2.1
  obtain ⟨lo3, lc3, hv3⟩ := rowN_of h3.1
  have HV2 : Hid (two = .slice lo2 n lc2) := hv2
  have HV3 : Hid (want = .slice lo3 n lc3) := hv3
  clear hv2 hv3
  obtain ⟨kn, kf, hBK, ⟨hm1, hm2⟩, hk1, hk2⟩ := hO.bk
  have hNS := hO.ns
  have hFS := hO.fs
  clear hO
  have hS1 : TwoS w ω 13 15 one want := ⟨n, nm, h1, h3, hn⟩
  go_enter Tryz.func67, Tryz.ntmps67
  go_wp2_with fail
  refine hS1.same.mono ?_
  rintro x w1 ⟨rfl, m1, hw1⟩
  have E1 : Ev (fun i => 5 ≤ i) w ω w1 ω := by rw [hw1]; exact (Ev.refl _ w ω).drewN m1
  have hBK1 : BK w1 ω bb kn kf hN wN hF wF := by rw [hw1]; exact hBK.drewN m1
  have hNS1 : TwoS w1 ω 9 10 hN wN := by rw [hw1]; exact hNS.drewN m1
  have hFS1 : TwoF w1 ω 11 12 hF wF := by rw [hw1]; exact hFS.drewN m1
  have a1 : LO w1 ω 13 9 1 one n (scl nm n) := by rw [hw1]; exact h1.drewN m1
  have b1 : LO w1 ω 14 9 1 two n (scl nm n) := by rw [hw1]; exact h2.drewN m1
  have d1 : LO w1 ω 15 9 1 want n (scl nm n) := by rw [hw1]; exact h3.drewN m1
  clear hw1 hBK hNS hFS h1 h2 h3 hS1
  have hS2 : TwoS w1 ω 14 15 two want := ⟨n, nm, b1, d1, hn⟩
  go_wp2_with fail
  refine hS2.same.mono ?_
  rintro x w2 ⟨rfl, m2, hw2⟩
  have E2 : Ev (fun i => 5 ≤ i) w ω w2 ω := by rw [hw2]; exact E1.drewN m2
  have hBK2 : BK w2 ω bb kn kf hN wN hF wF := by rw [hw2]; exact hBK1.drewN m2
  have hNS2 : TwoS w2 ω 9 10 hN wN := by rw [hw2]; exact hNS1.drewN m2
  have hFS2 : TwoF w2 ω 11 12 hF wF := by rw [hw2]; exact hFS1.drewN m2
  have a2 : LO w2 ω 13 9 1 one n (scl nm n) := by rw [hw2]; exact a1.drewN m2
  have b2 : LO w2 ω 14 9 1 two n (scl nm n) := by rw [hw2]; exact b1.drewN m2
  have d2 : LO w2 ω 15 9 1 want n (scl nm n) := by rw [hw2]; exact d1.drewN m2
  clear hw2 hBK1 hNS1 hFS1 a1 b1 d1 E1 hS2
  obtain ⟨⟨c2, c3⟩, -, -⟩ := hBK2.cell
  have HS : Hid (∀ q, _) := fun q => (hNS2.drewN q).same
  have H2 : Hid (BK w2 ω bb kn kf hN wN hF wF ∧ TwoS w2 ω 9 10 hN wN ∧ TwoF w2 ω 11 12 hF wF ∧ Ev (fun i => 5 ≤ i) w ω w2 ω) := ⟨hBK2, hNS2, hFS2, E2⟩
  have HL2 : Hid (LO w2 ω 13 9 1 one n (scl nm n) ∧ LO w2 ω 14 9 1 two n (scl nm n) ∧ LO w2 ω 15 9 1 want n (scl nm n)) := ⟨a2, b2, d2⟩
  clear hBK2 hNS2 hFS2 a2 b2 d2 E2
  go_wp2_with fail
  go_quiet ((go_at_call 78; exact Calls.quiet_of (HS.out _)))
  obtain ⟨w3, hw3⟩ : ∃ w3, w3 = w2.drewN nq := ⟨_, rfl⟩
  rw [← hw3]
  obtain ⟨hBK2, hNS2, hFS2, E2⟩ := H2.out
  obtain ⟨a2, b2, d2⟩ := HL2.out
  have E3 : Ev (fun i => 5 ≤ i) w ω w3 ω := by rw [hw3]; exact E2.drewN nq
  have hBK3 : BK w3 ω bb kn kf hN wN hF wF := by rw [hw3]; exact hBK2.drewN nq
  have hNS3 : TwoS w3 ω 9 10 hN wN := by rw [hw3]; exact hNS2.drewN nq
  have hFS3 : TwoF w3 ω 11 12 hF wF := by rw [hw3]; exact hFS2.drewN nq
  have a3 : LO w3 ω 13 9 1 one n (scl nm n) := by rw [hw3]; exact a2.drewN nq
  have b3 : LO w3 ω 14 9 1 two n (scl nm n) := by rw [hw3]; exact b2.drewN nq
  have d3 : LO w3 ω 15 9 1 want n (scl nm n) := by rw [hw3]; exact d2.drewN nq
  clear hw3 hBK2 hNS2 hFS2 a2 b2 d2 E2 H2 HL2 HS c2 c3
  go_wp2_with fail
  refine (takeN bb 13 n kn kf one hN wN hF wF (scl nm n) ω w3 hBK3 a3 (by omega) hm1 (by omega) hn).mono ?_
  rintro x w4 ⟨rfl, ω4, hBK4, e4⟩
  have E4 := E3.trans (e4.mono (K' := fun i => 5 ≤ i) (fun i h => by omega))
  have hNS4 := hNS3.ev e4 (by omega) (by omega)
  have hFS4 := hFS3.ev e4 (by omega) (by omega)
  have b4 := b3.ev e4 (by omega)
  have d4 := d3.ev e4 (by omega)
  clear hBK3 a3 b3 d3 E3 e4 hNS3 hFS3
  have hS4 : TwoS w4 ω4 14 15 two want := ⟨n, nm, b4, d4, hn⟩
  go_wp2_with fail
  refine hS4.same.mono ?_
  rintro x w5 ⟨rfl, m5, hw5⟩
  have E5 : Ev (fun i => 5 ≤ i) w ω w5 ω4 := by rw [hw5]; exact E4.drewN m5
  have hBK5 : BK w5 ω4 bb (kn + 20) kf hN wN hF wF := by rw [hw5]; exact hBK4.drewN m5
  have hNS5 : TwoS w5 ω4 9 10 hN wN := by rw [hw5]; exact hNS4.drewN m5
  have hFS5 : TwoF w5 ω4 11 12 hF wF := by rw [hw5]; exact hFS4.drewN m5
  have b5 : LO w5 ω4 14 9 1 two n (scl nm n) := by rw [hw5]; exact b4.drewN m5
  have d5 : LO w5 ω4 15 9 1 want n (scl nm n) := by rw [hw5]; exact d4.drewN m5
  clear hw5 hBK4 hNS4 hFS4 b4 d4 E4 hS4
  obtain ⟨⟨c2, c3⟩, -, -⟩ := hBK5.cell
  have HS : Hid (∀ q, _) := fun q => (hNS5.drewN q).same
  have H5 : Hid (BK w5 ω4 bb (kn + 20) kf hN wN hF wF ∧ TwoS w5 ω4 9 10 hN wN ∧ TwoF w5 ω4 11 12 hF wF ∧ Ev (fun i => 5 ≤ i) w ω w5 ω4) := ⟨hBK5, hNS5, hFS5, E5⟩
  have HL5 : Hid (LO w5 ω4 14 9 1 two n (scl nm n) ∧ LO w5 ω4 15 9 1 want n (scl nm n)) := ⟨b5, d5⟩
  clear hBK5 hNS5 hFS5 b5 d5 E5
  go_wp2_with fail
  go_quiet ((go_at_call 78; exact Calls.quiet_of (HS.out _)))
  obtain ⟨w6, hw6⟩ : ∃ w6, w6 = w5.drewN nq := ⟨_, rfl⟩
  rw [← hw6]
  obtain ⟨hBK5, hNS5, hFS5, E5⟩ := H5.out
  obtain ⟨b5, d5⟩ := HL5.out
  have E6 : Ev (fun i => 5 ≤ i) w ω w6 ω4 := by rw [hw6]; exact E5.drewN _
  have hBK6 : BK w6 ω4 bb (kn + 20) kf hN wN hF wF := by rw [hw6]; exact hBK5.drewN _
  have hNS6 : TwoS w6 ω4 9 10 hN wN := by rw [hw6]; exact hNS5.drewN _
  have hFS6 : TwoF w6 ω4 11 12 hF wF := by rw [hw6]; exact hFS5.drewN _
  have b6 : LO w6 ω4 14 9 1 two n (scl nm n) := by rw [hw6]; exact b5.drewN _
  have d6 : LO w6 ω4 15 9 1 want n (scl nm n) := by rw [hw6]; exact d5.drewN _
  clear hw6 hBK5 hNS5 hFS5 b5 d5 E5 H5 HL5 HS c2 c3
  obtain ⟨nh, nmh, g6, _, hnh⟩ := hNS6
  obtain ⟨⟨c2, -⟩, -, -⟩ := hBK6.cell
  go_wp2_with fail
  refine (takeN bb 9 nh (kn + 20) kf hN hN wN hF wF (scl nmh nh) ω4 w6 hBK6 g6 (by omega) (by omega) (by omega) hnh).mono ?_
  rintro x w7 ⟨rfl, ω7, hBK7, e7⟩
  have E7 := E6.trans (e7.mono (K' := fun i => 5 ≤ i) (fun i h => by omega))
  have hFS7 := hFS6.ev e7 (by omega) (by omega)
  have b7 := b6.ev e7 (by omega)
  have d7 := d6.ev e7 (by omega)
  clear hBK6 g6 b6 d6 E6 e7 hFS6 c2
  have hS7 : TwoS w7 ω7 14 15 two want := ⟨n, nm, b7, d7, hn⟩
  go_wp2_with fail
  refine hS7.same.mono ?_
  rintro x w8 ⟨rfl, m8, hw8⟩
  have E8 : Ev (fun i => 5 ≤ i) w ω w8 ω7 := by rw [hw8]; exact E7.drewN m8
  have hBK8 : BK w8 ω7 bb (kn + 20 + 20) kf hN wN hF wF := by rw [hw8]; exact hBK7.drewN m8
  have hFS8 : TwoF w8 ω7 11 12 hF wF := by rw [hw8]; exact hFS7.drewN m8
  have b8 : LO w8 ω7 14 9 1 two n (scl nm n) := by rw [hw8]; exact b7.drewN m8
  have d8 : LO w8 ω7 15 9 1 want n (scl nm n) := by rw [hw8]; exact d7.drewN m8
  clear hw8 hBK7 hFS7 b7 d7 E7 hS7
  obtain ⟨⟨c2, c3⟩, -, cf⟩ := hBK8.cell
  have f2 := cf 2
  have f3 := cf 3
  have HEND : Hid (∃ ω', BO ((w8.setCell ⟨bb, 2, none⟩ two).setCell ⟨bb, 3, none⟩ want) ω' bb (T + 1) two want hF wF ∧ Ev (fun i => 5 ≤ i) w ω ((w8.setCell ⟨bb, 2, none⟩ two).setCell ⟨bb, 3, none⟩ want) ω') := by
    have hbb := hBK8.own
    obtain ⟨nf, nmf, bsf, k1, k2, k3⟩ := hFS8
    refine ⟨_, ⟨⟨_, _, hBK8.holdN, ⟨by omega, by omega⟩, by omega, by omega⟩, ⟨n, nm, ?_, ?_, hn⟩, ⟨nf, nmf, bsf, ?_, ?_, k3⟩⟩, ?_⟩
    · exact (b8.cellbb hbb (by omega) 2 3 two want).rl1
    · exact (d8.cellbb hbb (by omega) 2 3 two want).rl2 (by omega)
    · exact (k1.cellbb hbb (by omega) 2 3 two want).rl (by omega) (by omega)
    · exact (k2.cellbb hbb (by omega) 2 3 two want).rl (by omega) (by omega)
    · have t : Ev (fun i => 5 ≤ i) w8 ω7 ((w8.setCell ⟨bb, 2, none⟩ two).setCell ⟨bb, 3, none⟩ want) ω7 :=
        ⟨(Tch.setCell _ w8 ⟨bb, 2, none⟩ two (by show 5 ≤ ω7 bb; omega)).setCellR ⟨bb, 3, none⟩ want (by show 5 ≤ ω7 bb; omega), fun _ _ => Or.inl rfl, fun i h1 h2 => by simp at h2; omega⟩
      exact (E8.trans t).rl (by show 5 ≤ 14; omega) (by show 5 ≤ 9; omega) (by show 5 ≤ 15; omega) (by show 5 ≤ 10; omega)
  have hv2 := HV2.out
  have hv3 := HV3.out
  subst hv2 hv3
  clear hBK8 hFS8 b8 d8 E8 cf
  go_wp2
  go_ret
  exact ⟨rfl, HEND.out⟩
end Go.Proofs.YtjambfbibeihiaaGreat
/- The book: twoFiles. -/
namespace Go.Proofs.YtjambfbibeihiaaGreat
set_option maxRecDepth 100000
open Go.RowKit Go.ChangeMaps Go.Sort

set_option maxHeartbeats 2000000 in
theorem twoF (bb T n : Nat) (nm bs : Nat → ByteArray) (one two want hN wN hF wF : Value) (ω : Nat → Nat) (w : World) (hO : BO w ω bb T hN wN hF wF) (hT : T ≤ 4294967296) (h1 : LO w ω 13 31 2 one n (fcl nm bs n)) (h2 : LO w ω 14 31 2 two n (fcl nm bs n)) (h3 : LO w ω 15 31 2 want n (fcl nm bs n)) (hn : n + 20 ≤ 1099511627776) :
    Calls Tryz.prog 71 #[.pointer (some ⟨bb, 0, none⟩), one, two, want] w fun x w' => x = .returned (.bool true) ∧ ∃ ω', BO w' ω' bb (T + 1) hN wN two want ∧ Ev (fun i => 5 ≤ i) w ω w' ω' := by
  obtain ⟨lo2, lc2, hv2⟩ := rowN_of h2.1
  obtain ⟨lo3, lc3, hv3⟩ := rowN_of h3.1
  have HV2 : Hid (two = .slice lo2 n lc2) := hv2
  have HV3 : Hid (want = .slice lo3 n lc3) := hv3
  clear hv2 hv3
  obtain ⟨kn, kf, hBK, ⟨hm1, hm2⟩, hk1, hk2⟩ := hO.bk
  have hNS := hO.ns
  have hFS := hO.fs
  clear hO
  have hS1 : TwoF w ω 13 15 one want := ⟨n, nm, bs, h1, h3, hn⟩
  go_enter Tryz.func71, Tryz.ntmps71
  go_wp2_with fail
  refine hS1.same.mono ?_
  rintro x w1 ⟨rfl, m1, hw1⟩
  have E1 : Ev (fun i => 5 ≤ i) w ω w1 ω := by rw [hw1]; exact (Ev.refl _ w ω).drewN m1
  have hBK1 : BK w1 ω bb kn kf hN wN hF wF := by rw [hw1]; exact hBK.drewN m1
  have hNS1 : TwoS w1 ω 9 10 hN wN := by rw [hw1]; exact hNS.drewN m1
  have hFS1 : TwoF w1 ω 11 12 hF wF := by rw [hw1]; exact hFS.drewN m1
  have a1 : LO w1 ω 13 31 2 one n (fcl nm bs n) := by rw [hw1]; exact h1.drewN m1
  have b1 : LO w1 ω 14 31 2 two n (fcl nm bs n) := by rw [hw1]; exact h2.drewN m1
  have d1 : LO w1 ω 15 31 2 want n (fcl nm bs n) := by rw [hw1]; exact h3.drewN m1
  clear hw1 hBK hNS hFS h1 h2 h3 hS1
  have hS2 : TwoF w1 ω 14 15 two want := ⟨n, nm, bs, b1, d1, hn⟩
  go_wp2_with fail
  refine hS2.same.mono ?_
  rintro x w2 ⟨rfl, m2, hw2⟩
  have E2 : Ev (fun i => 5 ≤ i) w ω w2 ω := by rw [hw2]; exact E1.drewN m2
  have hBK2 : BK w2 ω bb kn kf hN wN hF wF := by rw [hw2]; exact hBK1.drewN m2
  have hNS2 : TwoS w2 ω 9 10 hN wN := by rw [hw2]; exact hNS1.drewN m2
  have hFS2 : TwoF w2 ω 11 12 hF wF := by rw [hw2]; exact hFS1.drewN m2
  have a2 : LO w2 ω 13 31 2 one n (fcl nm bs n) := by rw [hw2]; exact a1.drewN m2
  have b2 : LO w2 ω 14 31 2 two n (fcl nm bs n) := by rw [hw2]; exact b1.drewN m2
  have d2 : LO w2 ω 15 31 2 want n (fcl nm bs n) := by rw [hw2]; exact d1.drewN m2
  clear hw2 hBK1 hNS1 hFS1 a1 b1 d1 E1 hS2
  obtain ⟨-, ⟨c2, c3⟩, -⟩ := hBK2.cell
  have HS : Hid (∀ q, _) := fun q => (hFS2.drewN q).same
  have H2 : Hid (BK w2 ω bb kn kf hN wN hF wF ∧ TwoS w2 ω 9 10 hN wN ∧ TwoF w2 ω 11 12 hF wF ∧ Ev (fun i => 5 ≤ i) w ω w2 ω) := ⟨hBK2, hNS2, hFS2, E2⟩
  have HL2 : Hid (LO w2 ω 13 31 2 one n (fcl nm bs n) ∧ LO w2 ω 14 31 2 two n (fcl nm bs n) ∧ LO w2 ω 15 31 2 want n (fcl nm bs n)) := ⟨a2, b2, d2⟩
  clear hBK2 hNS2 hFS2 a2 b2 d2 E2
  go_wp2_with fail
  go_quiet ((go_at_call 11; exact Calls.quiet_of (HS.out _)))
  obtain ⟨w3, hw3⟩ : ∃ w3, w3 = w2.drewN nq := ⟨_, rfl⟩
  rw [← hw3]
  obtain ⟨hBK2, hNS2, hFS2, E2⟩ := H2.out
  obtain ⟨a2, b2, d2⟩ := HL2.out
  have E3 : Ev (fun i => 5 ≤ i) w ω w3 ω := by rw [hw3]; exact E2.drewN nq
  have hBK3 : BK w3 ω bb kn kf hN wN hF wF := by rw [hw3]; exact hBK2.drewN nq
  have hNS3 : TwoS w3 ω 9 10 hN wN := by rw [hw3]; exact hNS2.drewN nq
  have hFS3 : TwoF w3 ω 11 12 hF wF := by rw [hw3]; exact hFS2.drewN nq
  have a3 : LO w3 ω 13 31 2 one n (fcl nm bs n) := by rw [hw3]; exact a2.drewN nq
  have b3 : LO w3 ω 14 31 2 two n (fcl nm bs n) := by rw [hw3]; exact b2.drewN nq
  have d3 : LO w3 ω 15 31 2 want n (fcl nm bs n) := by rw [hw3]; exact d2.drewN nq
  clear hw3 hBK2 hNS2 hFS2 a2 b2 d2 E2 H2 HL2 HS c2 c3
  go_wp2_with fail
  refine (takeF bb 13 n kn kf one hN wN hF wF (fcl nm bs n) ω w3 hBK3 a3 (by omega) hm2 (by omega) hn).mono ?_
  rintro x w4 ⟨rfl, ω4, hBK4, e4⟩
  have E4 := E3.trans (e4.mono (K' := fun i => 5 ≤ i) (fun i h => by omega))
  have hNS4 := hNS3.ev e4 (by omega) (by omega)
  have hFS4 := hFS3.ev e4 (by omega) (by omega)
  have b4 := b3.ev e4 (by omega)
  have d4 := d3.ev e4 (by omega)
  clear hBK3 a3 b3 d3 E3 e4 hNS3 hFS3
  have hS4 : TwoF w4 ω4 14 15 two want := ⟨n, nm, bs, b4, d4, hn⟩
  go_wp2_with fail
  refine hS4.same.mono ?_
  rintro x w5 ⟨rfl, m5, hw5⟩
  have E5 : Ev (fun i => 5 ≤ i) w ω w5 ω4 := by rw [hw5]; exact E4.drewN m5
  have hBK5 : BK w5 ω4 bb kn (kf + 20) hN wN hF wF := by rw [hw5]; exact hBK4.drewN m5
  have hNS5 : TwoS w5 ω4 9 10 hN wN := by rw [hw5]; exact hNS4.drewN m5
  have hFS5 : TwoF w5 ω4 11 12 hF wF := by rw [hw5]; exact hFS4.drewN m5
  have b5 : LO w5 ω4 14 31 2 two n (fcl nm bs n) := by rw [hw5]; exact b4.drewN m5
  have d5 : LO w5 ω4 15 31 2 want n (fcl nm bs n) := by rw [hw5]; exact d4.drewN m5
  clear hw5 hBK4 hNS4 hFS4 b4 d4 E4 hS4
  obtain ⟨-, ⟨c2, c3⟩, -⟩ := hBK5.cell
  have HS : Hid (∀ q, _) := fun q => (hFS5.drewN q).same
  have H5 : Hid (BK w5 ω4 bb kn (kf + 20) hN wN hF wF ∧ TwoS w5 ω4 9 10 hN wN ∧ TwoF w5 ω4 11 12 hF wF ∧ Ev (fun i => 5 ≤ i) w ω w5 ω4) := ⟨hBK5, hNS5, hFS5, E5⟩
  have HL5 : Hid (LO w5 ω4 14 31 2 two n (fcl nm bs n) ∧ LO w5 ω4 15 31 2 want n (fcl nm bs n)) := ⟨b5, d5⟩
  clear hBK5 hNS5 hFS5 b5 d5 E5
  go_wp2_with fail
  go_quiet ((go_at_call 11; exact Calls.quiet_of (HS.out _)))
  obtain ⟨w6, hw6⟩ : ∃ w6, w6 = w5.drewN nq := ⟨_, rfl⟩
  rw [← hw6]
  obtain ⟨hBK5, hNS5, hFS5, E5⟩ := H5.out
  obtain ⟨b5, d5⟩ := HL5.out
  have E6 : Ev (fun i => 5 ≤ i) w ω w6 ω4 := by rw [hw6]; exact E5.drewN _
  have hBK6 : BK w6 ω4 bb kn (kf + 20) hN wN hF wF := by rw [hw6]; exact hBK5.drewN _
  have hNS6 : TwoS w6 ω4 9 10 hN wN := by rw [hw6]; exact hNS5.drewN _
  have hFS6 : TwoF w6 ω4 11 12 hF wF := by rw [hw6]; exact hFS5.drewN _
  have b6 : LO w6 ω4 14 31 2 two n (fcl nm bs n) := by rw [hw6]; exact b5.drewN _
  have d6 : LO w6 ω4 15 31 2 want n (fcl nm bs n) := by rw [hw6]; exact d5.drewN _
  clear hw6 hBK5 hNS5 hFS5 b5 d5 E5 H5 HL5 HS c2 c3
  obtain ⟨nh, nmh, bsh, g6, _, hnh⟩ := hFS6
  obtain ⟨-, ⟨c2, -⟩, -⟩ := hBK6.cell
  go_wp2_with fail
  refine (takeF bb 11 nh kn (kf + 20) hF hN wN hF wF (fcl nmh bsh nh) ω4 w6 hBK6 g6 (by omega) (by omega) (by omega) hnh).mono ?_
  rintro x w7 ⟨rfl, ω7, hBK7, e7⟩
  have E7 := E6.trans (e7.mono (K' := fun i => 5 ≤ i) (fun i h => by omega))
  have hNS7 := hNS6.ev e7 (by omega) (by omega)
  have b7 := b6.ev e7 (by omega)
  have d7 := d6.ev e7 (by omega)
  clear hBK6 g6 b6 d6 E6 e7 hNS6 c2
  have hS7 : TwoF w7 ω7 14 15 two want := ⟨n, nm, bs, b7, d7, hn⟩
  go_wp2_with fail
  refine hS7.same.mono ?_
  rintro x w8 ⟨rfl, m8, hw8⟩
  have E8 : Ev (fun i => 5 ≤ i) w ω w8 ω7 := by rw [hw8]; exact E7.drewN m8
  have hBK8 : BK w8 ω7 bb kn (kf + 20 + 20) hN wN hF wF := by rw [hw8]; exact hBK7.drewN m8
  have hNS8 : TwoS w8 ω7 9 10 hN wN := by rw [hw8]; exact hNS7.drewN m8
  have b8 : LO w8 ω7 14 31 2 two n (fcl nm bs n) := by rw [hw8]; exact b7.drewN m8
  have d8 : LO w8 ω7 15 31 2 want n (fcl nm bs n) := by rw [hw8]; exact d7.drewN m8
  clear hw8 hBK7 hNS7 b7 d7 E7 hS7
  obtain ⟨-, ⟨c2, c3⟩, cf⟩ := hBK8.cell
  have f2 := cf 4
  have f3 := cf 5
  have HEND : Hid (∃ ω', BO ((w8.setCell ⟨bb, 4, none⟩ two).setCell ⟨bb, 5, none⟩ want) ω' bb (T + 1) hN wN two want ∧ Ev (fun i => 5 ≤ i) w ω ((w8.setCell ⟨bb, 4, none⟩ two).setCell ⟨bb, 5, none⟩ want) ω') := by
    have hbb := hBK8.own
    obtain ⟨nf, nmf, k1, k2, k3⟩ := hNS8
    refine ⟨_, ⟨⟨_, _, hBK8.holdF, ⟨by omega, by omega⟩, by omega, by omega⟩, ⟨nf, nmf, ?_, ?_, k3⟩, ⟨n, nm, bs, ?_, ?_, hn⟩⟩, ?_⟩
    · exact (k1.cellbb hbb (by omega) 4 5 two want).rl (by omega) (by omega)
    · exact (k2.cellbb hbb (by omega) 4 5 two want).rl (by omega) (by omega)
    · exact (b8.cellbb hbb (by omega) 4 5 two want).rl1
    · exact (d8.cellbb hbb (by omega) 4 5 two want).rl2 (by omega)
    · have t : Ev (fun i => 5 ≤ i) w8 ω7 ((w8.setCell ⟨bb, 4, none⟩ two).setCell ⟨bb, 5, none⟩ want) ω7 :=
        ⟨(Tch.setCell _ w8 ⟨bb, 4, none⟩ two (by show 5 ≤ ω7 bb; omega)).setCellR ⟨bb, 5, none⟩ want (by show 5 ≤ ω7 bb; omega), fun _ _ => Or.inl rfl, fun i h1 h2 => by simp at h2; omega⟩
      exact (E8.trans t).rl (by show 5 ≤ 14; omega) (by show 5 ≤ 11; omega) (by show 5 ≤ 15; omega) (by show 5 ≤ 12; omega)
  have hv2 := HV2.out
  have hv3 := HV3.out
  subst hv2 hv3
  clear hBK8 hNS8 b8 d8 E8 cf
  go_wp2
  go_ret
  exact ⟨rfl, HEND.out⟩
end Go.Proofs.YtjambfbibeihiaaGreat
