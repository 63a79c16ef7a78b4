import Derived.Test.YtjambfbibeihiaaGreatAs
/- What asks: List, Files. -/
namespace Go.Proofs.YtjambfbibeihiaaGreat
set_option maxRecDepth 100000
open Go.RowKit Go.ChangeMaps Go.Sort

theorem LO.fresh {w w' : World} {ω : Nat → Nat} (k : Nat) {e : TypeId} {sz : Nat} {v : Value} {n : Nat} {xs : List Value} (h : w'.ownsRow w.heap.size e sz v n xs) : LO w' (ext ω w.heap.size k) k e sz v n xs := by
  refine ⟨?_, fun g hg => ext_ge (h.lt g hg).1⟩
  obtain ⟨h1, h2⟩ := h
  refine ⟨h1, ?_⟩
  rcases h2 with h2 | ⟨g, cap, cur, h3, h4, h5⟩
  · exact Or.inl h2
  · exact Or.inr ⟨g, cap, cur, h3, Nat.zero_le _, h5⟩
theorem FO.own {w : World} {sb n : Nat} {d : Dsk} {base : Nat} (h : FO w sb n n d) (hb : base ≤ sb) (hn : n ≤ maxLen) : w.ownsRow base 31 2 (.slice (some ⟨sb, 0, none⟩) n n) n (fcl (nmAt d) (bsAt d) n) := by
  obtain ⟨cur, h1, h2⟩ := h.blk
  refine ⟨fcl_len _ _ n, Or.inr ⟨sb, n, cur, rfl, hb, h1, Nat.le_refl _, hn, h2, ?_⟩⟩
  apply List.ext_getElem?
  intro i
  rcases Nat.lt_or_ge i (n * 2) with hi | hi
  · rw [List.getElem?_take_of_lt hi]
    obtain ⟨g1, g2⟩ := fcl_get (nmAt d) (bsAt d) n (i / 2) (by omega)
    obtain ⟨k1, k2⟩ := h.got (i / 2) (by omega)
    rw [blk_cell h1] at k1 k2
    rcases Nat.mod_two_eq_zero_or_one i with e | e
    · rw [show i / 2 * 2 = i by omega] at g1 k1
      rw [g1]; simpa using k1
    · rw [show i / 2 * 2 + 1 = i by omega] at g2 k2
      rw [g2]; simpa using k2
  · rw [List.getElem?_eq_none (by simp; omega), List.getElem?_eq_none (by rw [fcl_len]; exact hi)]

section
variable (bb T k db rb : Nat) (d : Dsk) (c N M : Int) (tw : Bool) (nm S : ByteArray) (lo : Option Addr) (ln lc : Nat) (hN wN hF wF : Value) (ω : Nat → Nat) (w : World)

set_option maxHeartbeats 2000000 in
theorem asks_list (hb : BO w ω bb T hN wN hF wF) (hT : T ≤ 4294967296) (hp : PR w ω k db rb d) (hk : 1 ≤ k ∧ k ≤ 3) (hl : d.m.length + 20 ≤ 1099511627776) :
    Calls Tryz.prog 31 #[pairV db rb c, .pointer (some ⟨bb, 0, none⟩), opV 9 N M tw nm S lo ln lc] w fun x w' => x = .returned (.bool true) ∧ Asked w ω bb T k db rb d w' := by
  obtain ⟨w1, hw1⟩ : ∃ w1, w1 = (w.alloc (.cells (pairC db rb c) 26)).alloc (.cells (opC 9 N M tw nm S lo ln lc) 41) := ⟨_, rfl⟩
  have t1 : Tch (fun _ => False) w w1 := by rw [hw1]; exact box2_no _ _ _
  have hbx := boxes hw1
  have E1 : Ev (fun i => i = 16) w ω w1 (ext ω w.heap.size 16) := Ev.ofNo 16 rfl t1
  obtain ⟨ω1, hω1⟩ : ∃ ω1, ω1 = ext ω w.heap.size 16 := ⟨_, rfl⟩
  rw [← hω1] at E1
  have hb1 := hb.ev E1 (fun i h1 _ h => by omega)
  have hp1 := hp.ev E1 (by omega) (by omega)
  obtain ⟨σ, hK1, _⟩ := hp1.df
  have hl1 := list_any db d σ w1 hK1 (by omega)
  obtain ⟨nmv, hnm⟩ : ∃ nmv : Nat → ByteArray, (d.m.map (·.1)).map encStr = scl nmv d.m.length := ⟨fun i => ⟨((d.m.map (·.1)).getD i []).toArray⟩, by rw [scl_names, List.length_map]⟩
  rw [hnm] at hl1
  have p0 : w1.cell? ⟨w.heap.size, 0, none⟩ = some (.pointer (some ⟨db, 0, none⟩)) := (hbx w1 (Tch.refl _ _)).1 0
  go_enter Tryz.func31, Tryz.ntmps31
  go_wp2_with fail
  rw [← hw1]
  refine hl1.mono ?_
  rintro x w2 ⟨v1, rfl, ho2, t2⟩
  have E2 : Ev (fun i => i = 13) w1 ω1 w2 (ext ω1 w1.heap.size 13) := Ev.ofNo 13 rfl t2
  have a2 : LO w2 (ext ω1 w1.heap.size 13) 13 9 1 v1 d.m.length (scl nmv d.m.length) := LO.fresh 13 ho2
  obtain ⟨ω2, hω2⟩ : ∃ ω2, ω2 = ext ω1 w1.heap.size 13 := ⟨_, rfl⟩
  rw [← hω2] at E2 a2
  have hb2 := hb1.ev E2 (fun i h1 _ h => by omega)
  have hp2 := hp1.ev E2 (by omega) (by omega)
  obtain ⟨σ2, hK2, _⟩ := hp2.df
  have hl2 := list_any db d σ2 w2 hK2 (by omega)
  rw [hnm] at hl2
  have p0 : w2.cell? ⟨w.heap.size, 0, none⟩ = some (.pointer (some ⟨db, 0, none⟩)) := (hbx w2 t2).1 0
  clear hw1 hl1 hω1 hω2 ho2 hb1 hp1 hb hp hK1 hK2
  go_wp2_with fail
  refine hl2.mono ?_
  rintro x w3 ⟨v2, rfl, ho3, t3⟩
  have E3 : Ev (fun i => i = 14) w2 ω2 w3 (ext ω2 w2.heap.size 14) := Ev.ofNo 14 rfl t3
  have b3 : LO w3 (ext ω2 w2.heap.size 14) 14 9 1 v2 d.m.length (scl nmv d.m.length) := LO.fresh 14 ho3
  obtain ⟨ω3, hω3⟩ : ∃ ω3, ω3 = ext ω2 w2.heap.size 14 := ⟨_, rfl⟩
  rw [← hω3] at E3 b3
  have a3 := a2.ev E3 (by omega)
  have hb3 := hb2.ev E3 (fun i h1 _ h => by omega)
  have hp3 := hp2.ev E3 (by omega) (by omega)
  obtain ⟨rv, acts, hR3, _⟩ := hp3.rf
  have hl3 := rlist_any rb d rv acts w3 hR3 (by omega)
  rw [hnm] at hl3
  have p1 : w3.cell? ⟨w.heap.size, 1, none⟩ = some (.pointer (some ⟨rb, 0, none⟩)) := (hbx w3 (t2.trans' t3)).1 1
  clear hl2 hω3 ho3 hb2 hp2 a2 p0 hR3
  go_wp2_with fail
  refine hl3.mono ?_
  rintro x w4 ⟨v3, rfl, ho4, t4⟩
  have E4 : Ev (fun i => i = 15) w3 ω3 w4 (ext ω3 w3.heap.size 15) := Ev.ofNo 15 rfl t4
  have d4 : LO w4 (ext ω3 w3.heap.size 15) 15 9 1 v3 d.m.length (scl nmv d.m.length) := LO.fresh 15 ho4
  obtain ⟨ω4, hω4⟩ : ∃ ω4, ω4 = ext ω3 w3.heap.size 15 := ⟨_, rfl⟩
  rw [← hω4] at E4 d4
  have a4 := a3.ev E4 (by omega)
  have b4 := b3.ev E4 (by omega)
  have hb4 := hb3.ev E4 (fun i h1 _ h => by omega)
  have hp4 := hp3.ev E4 (by omega) (by omega)
  have hE := (((E1.mono (K' := KB) (fun i h => by show 5 ≤ i; omega)).trans (E2.mono (K' := KB) (fun i h => by show 5 ≤ i; omega))).trans (E3.mono (K' := KB) (fun i h => by show 5 ≤ i; omega))).trans (E4.mono (K' := KB) (fun i h => by show 5 ≤ i; omega))
  have h5 := twoN bb T d.m.length nmv v1 v2 v3 hN wN hF wF ω4 w4 hb4 hT a4 b4 d4 (by omega)
  clear hl3 hω4 ho4 hb3 hp3 a3 b3 p1 hb4 a4 b4 d4 hnm hbx
  go_wp2_with fail
  refine h5.mono ?_
  rintro x w5 ⟨rfl, ω5, hb5, E5⟩
  have HF5 : Hid (Asked w ω bb T k db rb d w5) := ⟨ω5, _, _, _, _, hb5, hp4.ev E5 (by omega) (by omega), hE.trans E5⟩
  clear h5 hb5 E5 hE hp4
  go_wp2
  go_ret
  exact ⟨rfl, HF5.out⟩

set_option maxHeartbeats 2000000 in
theorem asks_files (hb : BO w ω bb T hN wN hF wF) (hT : T ≤ 4294967296) (hp : PR w ω k db rb d) (hk : 1 ≤ k ∧ k ≤ 3) (hl : d.m.length + 20 ≤ 1099511627776) :
    Calls Tryz.prog 31 #[pairV db rb c, .pointer (some ⟨bb, 0, none⟩), opV 17 N M tw nm S lo ln lc] w fun x w' => x = .returned (.bool true) ∧ Asked w ω bb T k db rb d w' := by
  have hBd := Bd.of hp.df (by omega)
  have hla : ∀ p ∈ d.m, p.2.la ≤ p.2.bs.length ∧ p.2.bs.length ≤ 9223372036854775807 := fun p hq => by
    have h1 := hBd.room
    have h2 := hBd.cap
    have h3 : p.2.bs.length ≤ d.used := sumF_mem lenF hq
    exact ⟨hBd.la p hq, by omega⟩
  obtain ⟨w1, hw1⟩ : ∃ w1, w1 = (w.alloc (.cells (pairC db rb c) 26)).alloc (.cells (opC 17 N M tw nm S lo ln lc) 41) := ⟨_, rfl⟩
  have t1 : Tch (fun _ => False) w w1 := by rw [hw1]; exact box2_no _ _ _
  have hbx := boxes hw1
  have E1 : Ev (fun i => i = 16) w ω w1 (ext ω w.heap.size 16) := Ev.ofNo 16 rfl t1
  obtain ⟨ω1, hω1⟩ : ∃ ω1, ω1 = ext ω w.heap.size 16 := ⟨_, rfl⟩
  rw [← hω1] at E1
  have hb1 := hb.ev E1 (fun i h1 _ h => by omega)
  have hp1 := hp.ev E1 (by omega) (by omega)
  obtain ⟨σ, hK1, _⟩ := hp1.df
  have hl1 := files_any db d σ w1 hK1 (by omega)
  have p0 : w1.cell? ⟨w.heap.size, 0, none⟩ = some (.pointer (some ⟨db, 0, none⟩)) := (hbx w1 (Tch.refl _ _)).1 0
  have hmx : d.m.length ≤ maxLen := by unfold maxLen; omega
  go_enter Tryz.func31, Tryz.ntmps31
  go_wp2_with fail
  rw [← hw1]
  refine hl1.mono ?_
  rintro x w2 ⟨sb, rfl, hO2, hsb2, t2⟩
  have E2 : Ev (fun i => i = 13) w1 ω1 w2 (ext ω1 w1.heap.size 13) := Ev.ofNo 13 rfl t2
  have a2 : LO w2 (ext ω1 w1.heap.size 13) 13 31 2 (.slice (some ⟨sb, 0, none⟩) d.m.length d.m.length) d.m.length (fcl (rnm d.m) (rbs d.m) d.m.length) := LO.fresh 13 (hO2.own hsb2 hmx)
  obtain ⟨ω2, hω2⟩ : ∃ ω2, ω2 = ext ω1 w1.heap.size 13 := ⟨_, rfl⟩
  rw [← hω2] at E2 a2
  have hb2 := hb1.ev E2 (fun i h1 _ h => by omega)
  have hp2 := hp1.ev E2 (by omega) (by omega)
  obtain ⟨σ2, hK2, _⟩ := hp2.df
  have hl2 := files_any db d σ2 w2 hK2 (by omega)
  have p0 : w2.cell? ⟨w.heap.size, 0, none⟩ = some (.pointer (some ⟨db, 0, none⟩)) := (hbx w2 t2).1 0
  clear hw1 hl1 hω1 hω2 hO2 hb1 hp1 hb hp hK1 hK2
  go_wp2_with fail
  refine hl2.mono ?_
  rintro x w3 ⟨sc, rfl, hO3, hsc3, t3⟩
  have E3 : Ev (fun i => i = 14) w2 ω2 w3 (ext ω2 w2.heap.size 14) := Ev.ofNo 14 rfl t3
  have b3 : LO w3 (ext ω2 w2.heap.size 14) 14 31 2 (.slice (some ⟨sc, 0, none⟩) d.m.length d.m.length) d.m.length (fcl (rnm d.m) (rbs d.m) d.m.length) := LO.fresh 14 (hO3.own hsc3 hmx)
  obtain ⟨ω3, hω3⟩ : ∃ ω3, ω3 = ext ω2 w2.heap.size 14 := ⟨_, rfl⟩
  rw [← hω3] at E3 b3
  have a3 := a2.ev E3 (by omega)
  have hb3 := hb2.ev E3 (fun i h1 _ h => by omega)
  have hp3 := hp2.ev E3 (by omega) (by omega)
  obtain ⟨rv, acts, hR3, _⟩ := hp3.rf
  have hl3 := rfiles_row rb d rv acts w3 hR3 (by omega) hla
  have p1 : w3.cell? ⟨w.heap.size, 1, none⟩ = some (.pointer (some ⟨rb, 0, none⟩)) := (hbx w3 (t2.trans' t3)).1 1
  clear hl2 hω3 hO3 hb2 hp2 a2 p0 hR3
  go_wp2_with fail
  refine hl3.mono ?_
  rintro x w4 ⟨ao4, cp4, rfl, ho4, t4⟩
  have E4 : Ev (fun i => i = 15) w3 ω3 w4 (ext ω3 w3.heap.size 15) := Ev.ofNo 15 rfl t4
  have d4 : LO w4 (ext ω3 w3.heap.size 15) 15 31 2 (.slice ao4 d.m.length cp4) d.m.length (fcl (rnm d.m) (rbs d.m) d.m.length) := LO.fresh 15 ho4
  obtain ⟨ω4, hω4⟩ : ∃ ω4, ω4 = ext ω3 w3.heap.size 15 := ⟨_, rfl⟩
  rw [← hω4] at E4 d4
  have a4 := a3.ev E4 (by omega)
  have b4 := b3.ev E4 (by omega)
  have hb4 := hb3.ev E4 (fun i h1 _ h => by omega)
  have hp4 := hp3.ev E4 (by omega) (by omega)
  have hE := (((E1.mono (K' := KB) (fun i h => by show 5 ≤ i; omega)).trans (E2.mono (K' := KB) (fun i h => by show 5 ≤ i; omega))).trans (E3.mono (K' := KB) (fun i h => by show 5 ≤ i; omega))).trans (E4.mono (K' := KB) (fun i h => by show 5 ≤ i; omega))
  have h5 := twoF bb T d.m.length (rnm d.m) (rbs d.m) _ _ _ hN wN hF wF ω4 w4 hb4 hT a4 b4 d4 (by omega)
  clear hl3 hω4 ho4 hb3 hp3 a3 b3 p1 hb4 a4 b4 d4 hbx
  go_wp2_with fail
  refine h5.mono ?_
  rintro x w5 ⟨rfl, ω5, hb5, E5⟩
  have HF5 : Hid (Asked w ω bb T k db rb d w5) := ⟨ω5, _, _, _, _, hb5, hp4.ev E5 (by omega) (by omega), hE.trans E5⟩
  clear h5 hb5 E5 hE hp4
  go_wp2
  go_ret
  exact ⟨rfl, HF5.out⟩
end
end Go.Proofs.YtjambfbibeihiaaGreat
