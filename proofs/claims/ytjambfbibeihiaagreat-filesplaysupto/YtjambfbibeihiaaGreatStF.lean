import Derived.Test.YtjambfbibeihiaaGreatStE
/- A step: a new disk; a torn list. -/
namespace Go.Proofs.YtjambfbibeihiaaGreat
set_option maxRecDepth 100000
open Go.RowKit Go.ChangeMaps Go.Sort

def pk (c n : Int) : Int := (if c < 0 then -(c + 1) else c) % n
theorem pick_any (c n : Int) (w : World) (h1 : -9223372036854775808 ≤ c) (h2 : c ≤ 9223372036854775807) (hn : 0 < n) (hn2 : n ≤ 9223372036854775807) :
    Calls Tryz.prog 5 #[.int .i64 c, .int .i64 n] w fun x w' => x = .returned (.int .i64 (pk c n)) ∧ w' = w := by
  have hnz : (n == 0) = false := by simp; omega
  by_cases h0 : c < 0
  · have hp : 0 ≤ -(c + 1) := by omega
    have HU : Hid (-((c + 1).tmod n) = pk c n) := by show _ = _; unfold pk; rw [if_pos h0, ← Int.neg_tmod, Int.tmod_eq_emod_of_nonneg hp]
    go_enter Tryz.func5, Tryz.ntmps5
    go_wp2
    go_ret
    exact ⟨ret_int HU.out, rfl⟩
  · have HU : Hid (c % n = pk c n) := by show _ = _; unfold pk; rw [if_neg h0]
    have hp : 0 ≤ c := by omega
    go_enter Tryz.func5, Tryz.ntmps5
    go_wp2
    go_ret
    exact ⟨ret_int HU.out, rfl⟩
theorem pk_rng (c n : Int) (hn : 0 < n) : 0 ≤ pk c n ∧ pk c n < n := by
  unfold pk; exact ⟨Int.emod_nonneg _ (by omega), Int.emod_lt_of_pos _ hn⟩


theorem create_new (c : Nat) : (newD c).create [97] = (0, { newD c with m := [([97], ⟨[], 0⟩)] }) := by
  simp [Dsk.create, Dsk.refuse, newD, okN, okB, getL, Dsk.act, putL, delL, insL]

section
variable (bb T k db rb : Nat) (d : Dsk) (c N M : Int) (tw : Bool) (nm S : ByteArray) (lo : Option Addr) (ln lc : Nat) (hN wN hF wF : Value) (ω : Nat → Nat) (w : World)

set_option maxHeartbeats 4000000 in
theorem step_19 (hb : BO w ω bb T hN wN hF wF) (hp : PR w ω k db rb d) (hk : 1 ≤ k ∧ k ≤ 3) (hc : 1 ≤ c ∧ c ≤ 1000000000) (hn : -9223372036854775808 ≤ N ∧ N ≤ 9223372036854775807) (hm : -9223372036854775808 ≤ M ∧ M ≤ 9223372036854775807) :
    Calls Tryz.prog 6 #[pairV db rb c, .pointer (some ⟨bb, 0, none⟩), opV 19 N M tw nm S lo ln lc] w fun x w' => x = .returned (.tuple #[pairV db rb c, .bool true]) ∧ Stepped w ω bb T k d w' db rb := by
  obtain ⟨cn, rfl⟩ : ∃ cn : Nat, c = cn := ⟨c.toNat, by omega⟩
  obtain ⟨w0, hw0⟩ : ∃ w0, w0 = ((w.alloc (.cells (pairC db rb cn) 26)).alloc (.cells (opC 19 N M tw nm S lo ln lc) 41)).alloc (.cells #[.pointer none, .pointer none, .int .i64 0] 26) := ⟨_, rfl⟩
  have h0 := CW.start (pc := pairC db rb cn) (oc := opC 19 N M tw nm S lo ln lc) hp hb hk
  rw [← hw0] at h0
  have hnw := new_any cn w0 (by omega) (by omega)
  have HZ : Hid (∀ W, Tch (fun _ => False) w0 W → ∃ ω', CW w ω bb T k db rb (pairC db rb cn) (opC 19 N M tw nm S lo ln lc) hN wN hF wF d d W ω') := fun W t => by
    obtain ⟨rc, hr, hz⟩ := h0.b2
    exact ⟨_, h0.zero hk (fun _ => False) t (fun _ _ h => h.elim) ⟨rc, (t.block _ (blk_lt hr) (fun h => h)).trans hr, hz⟩ (fun _ h => h.elim)⟩
  have HO : Hid (∀ W, Tch (fun _ => False) w0 W → W.cell? ⟨w.heap.size + 1, 1, none⟩ = some (.int .i64 N) ∧ W.cell? ⟨w.heap.size + 1, 2, none⟩ = some (.int .i64 M)) := fun W t => by
    have := (t.block _ (blk_lt h0.b1) (fun h => h)).trans h0.b1
    exact ⟨by rw [blk_cell this]; rfl, by rw [blk_cell this]; rfl⟩
  clear hb hp h0 hc
  go_enter Tryz.func6, Tryz.ntmps6
  go_wp2_with fail
  rw [← hw0]
  clear hw0
  refine hnw.mono ?_
  rintro x w1 ⟨b, rfl, h1, t1⟩
  clear hnw
  have hcr := create_f b (newD cn) _ w1 ⟨#[97]⟩ h1 (by show 0 < maxLen; unfold maxLen; omega)
  rw [show (⟨#[97]⟩ : ByteArray).data.toList = [97] from rfl, create_new] at hcr
  go_wp2_with fail
  refine hcr.mono ?_
  rintro x w2 ⟨rfl, h2, t2⟩
  have T2 : Tch (fun _ => False) w0 w2 := t1.trans t2 (fun i hi h => h hi)
  have o1 := (HO.out w2 T2).1
  have hpk := pick_any N 9 w2 hn.1 hn.2 (by omega) (by omega)
  have hpr := pk_rng N 9 (by omega)
  clear hcr h1 t1 t2
  go_wp2_with fail
  refine hpk.mono ?_
  rintro x wA ⟨rfl, hwA⟩
  have hwA' := hwA.symm
  subst hwA'
  clear hpk hwA
  have harm := arm_f b _ _ w2 (pk N 9) h2 (by omega)
  obtain ⟨d3, hd3⟩ : ∃ d3, ({ newD cn with m := [([97], ⟨[], 0⟩)] } : Dsk).arm (pk N 9) = (0, d3) ∧ d3.dead = false := by
    refine ⟨_, by unfold Dsk.arm; rw [if_neg (by omega), if_neg (by simp [newD])], rfl⟩
  rw [hd3.1] at harm
  go_wp2_with fail
  refine harm.mono ?_
  rintro x w3 ⟨rfl, h3, t3⟩
  have T3 : Tch (fun _ => False) w0 w3 := T2.trans t3 (fun i hi h => h hi)
  have o2 := (HO.out w3 T3).2
  have hpk := pick_any M 9 w3 hm.1 hm.2 (by omega) (by omega)
  have hpr2 := pk_rng M 9 (by omega)
  clear harm h2 t3 o1
  go_wp2_with fail
  refine hpk.mono ?_
  rintro x wA ⟨rfl, hwA⟩
  have hwA' := hwA.symm
  subst hwA'
  clear hpk hwA
  have hfs := failSync_f b _ _ w3 (pk M 9) h3 (by omega)
  obtain ⟨d4, hd4⟩ : ∃ d4, d3.failSync (pk M 9) = (0, d4) := ⟨_, by unfold Dsk.failSync; rw [if_neg (by omega), if_neg (by rw [hd3.2]; simp)]⟩
  rw [hd4] at hfs
  go_wp2_with fail
  refine hfs.mono ?_
  rintro x w4 ⟨rfl, h4, t4⟩
  have T4 : Tch (fun _ => False) w0 w4 := T3.trans t4 (fun i hi h => h hi)
  obtain ⟨ω5, h5⟩ := HZ.out w4 T4
  obtain ⟨⟨q0, q1, q2⟩, ⟨⟨y0, g0⟩, ⟨y1, g1⟩, ⟨y2, g2⟩⟩, gf⟩ := h5.cells
  have gf0 := gf 0
  have gf1 := gf 1
  have gf2 := gf 2
  have HP : Hid _ := h5.put hk (.pointer (some ⟨db, 0, none⟩)) (.pointer (some ⟨rb, 0, none⟩)) (.int .i64 cn)
  clear hfs h3 h4 t4 o2 h5 gf hd3 hd4 HZ HO T2 T3 T4
  go_wp2
  refine bodyPost_ret (res_step HP.out.2 true _ rfl rfl) rfl ?_
  exact ⟨rfl, HP.out.1.stepped ⟨by omega, id⟩⟩
end
end Go.Proofs.YtjambfbibeihiaaGreat
