import Derived.Test.YtjambfbibeihiaaGreatStD
/- Steps: crashes, loads, a new disk. -/
namespace Go.Proofs.YtjambfbibeihiaaGreat
set_option maxRecDepth 100000
open Go.RowKit Go.ChangeMaps Go.Sort

theorem CW.crashed {w : World} {ω : Nat → Nat} {bb T k db rb : Nat} {pc oc : Array Value} {hN wN hF wF : Value} {d d' : Dsk} {W W' : World} {ω' ω'' : Nat → Nat} (h : CW w ω bb T k db rb pc oc hN wN hF wF d d W ω') (hk : 1 ≤ k ∧ k ≤ 3) (hp : PR W' ω'' k db rb d') (e : Ev (fun i => i = 16 ∨ i = k ∨ i = k + 1) W ω' W' ω'') : CW w ω bb T k db rb pc oc hN wN hF wF d' d' W' ω'' := by
  obtain ⟨r1, r2, r3, r4⟩ := h.rest e (by omega)
  exact ⟨h.ev.trans (e.mono (fun i h => by rcases h with h | h | h <;> simp only [KS] <;> omega)), hp.df, hp.rf, h.bo.ev e (fun i h1 h2 h => by omega), r1, r2, r3, r4, h.k0.ev e (by omega) h.ev.tch.size⟩
section
variable (bb T k db rb : Nat) (d : Dsk) (c N M : Int) (tw : Bool) (nm S : ByteArray) (lo : Option Addr) (ln lc : Nat) (nmL : Nat → ByteArray) (byL : Nat → Int) (hN wN hF wF : Value) (ω : Nat → Nat) (w : World)

set_option maxHeartbeats 4000000 in
theorem step_15 (hb : BO w ω bb T hN wN hF wF) (hp : PR w ω k db rb d) (hk : 1 ≤ k ∧ k ≤ 3) (hl : (d.m.length + 1) * 40 ≤ 140737488355328) (hL : KLs w lo ln nmL byL) (hLω : ∀ a, 0 < ln → lo = some a → a.block < w.heap.size ∧ ω a.block = 0) (hnil : lo = none → ln = 0 ∧ lc = 0) (hn : (ln + 2) * 40 ≤ 140737488355328) :
    Calls Tryz.prog 6 #[pairV db rb c, .pointer (some ⟨bb, 0, none⟩), opV 15 N M tw nm S lo ln lc] w fun x w' => x = .returned (.tuple #[pairV db rb c, .bool true]) ∧ Stepped w ω bb T k d w' db rb := by
  obtain ⟨w0, hw0⟩ : ∃ w0, w0 = ((w.alloc (.cells (pairC db rb c) 26)).alloc (.cells (opC 15 N M tw nm S lo ln lc) 41)).alloc (.cells #[.pointer none, .pointer none, .int .i64 0] 26) := ⟨_, rfl⟩
  have h0 := CW.start (pc := pairC db rb c) (oc := opC 15 N M tw nm S lo ln lc) hp hb hk
  rw [← hw0] at h0
  have t0 : Tch (fun _ => False) w w0 := by rw [hw0]; exact box3_no _ _ _ _
  have hcr := crashes_any k db rb d c lo ln lc nmL byL _ w0 ⟨h0.df, h0.rf⟩ hk hl (hL.no t0) (fun a h1 e => ⟨Nat.lt_of_lt_of_le (hLω a h1 e).1 t0.size, by rw [ext_lt (hLω a h1 e).1]; exact (hLω a h1 e).2⟩) hnil hn
  have H0 : Hid _ := h0
  clear hb hp h0 hL hLω hnil
  go_enter Tryz.func6, Tryz.ntmps6
  go_wp2_with fail
  rw [← hw0]
  clear hw0
  refine hcr.mono ?_
  rintro x w1 ⟨rfl, ω1, d1, hp1, ⟨hl1, hn1, -⟩, E1⟩
  have h1 := H0.out.crashed hk hp1 E1
  obtain ⟨⟨q0, q1, q2⟩, ⟨⟨y0, g0⟩, ⟨y1, g1⟩, ⟨y2, g2⟩⟩, gf⟩ := h1.cells
  have gf0 := gf 0
  have gf1 := gf 1
  have gf2 := gf 2
  have HP : Hid _ := h1.put hk (.pointer (some ⟨db, 0, none⟩)) (.pointer (some ⟨rb, 0, none⟩)) (.int .i64 c)
  clear hcr H0 h1 gf hp1 E1
  go_wp2
  refine bodyPost_ret (res_step HP.out.2 true _ rfl rfl) rfl ?_
  exact ⟨rfl, HP.out.1.stepped ⟨by omega, hn1⟩⟩
end
end Go.Proofs.YtjambfbibeihiaaGreat
