import Derived.Test.YtjambfbibeihiaaGreatPl0
/- FilesPlays, walked. -/
namespace Go.Proofs.YtjambfbibeihiaaGreat
set_option maxRecDepth 100000
open Go.RowKit Go.ChangeMaps Go.Sort

structure OpR where
  kd : Int
  N : Int
  M : Int
  tw : Bool
  nm : ByteArray
  S : ByteArray
  lo : Option Addr
  ln : Nat
  lc : Nat
  nmL : Nat → ByteArray
  byL : Nat → Int
/-- A step of a script that may be played. -/
structure OpR.ok (w : World) (o : OpR) : Prop where
  n : -9223372036854775808 ≤ o.N ∧ o.N ≤ 9223372036854775807
  m : -9223372036854775808 ≤ o.M ∧ o.M ≤ 9223372036854775807
  nm : o.nm.size ≤ maxLen
  l : KLs w o.lo o.ln o.nmL o.byL
  lt : ∀ a, 0 < o.ln → o.lo = some a → a.block < w.heap.size
  nil : o.lo = none → o.ln = 0 ∧ o.lc = 0
  len : (o.ln + 2) * 40 ≤ 140737488355328
/-- It lies there. -/
def OpAt (w : World) (b p : Nat) (o : OpR) : Prop := w.cell? ⟨b, p, none⟩ = some (.int .i64 o.kd) ∧ w.cell? ⟨b, p + 1, none⟩ = some (.int .i64 o.N) ∧ w.cell? ⟨b, p + 2, none⟩ = some (.int .i64 o.M) ∧ w.cell? ⟨b, p + 3, none⟩ = some (.bool o.tw) ∧ w.cell? ⟨b, p + 4, none⟩ = some (.string o.nm) ∧ w.cell? ⟨b, p + 5, none⟩ = some (.string o.S) ∧ w.cell? ⟨b, p + 6, none⟩ = some (.slice o.lo o.ln o.lc)
def opOf (kd M : Int) (nm S : ByteArray) : OpR := ⟨kd, 0, M, false, nm, S, none, 0, 0, fun _ => ⟨#[]⟩, fun _ => 0⟩

def nmB : Nat → ByteArray := fun _ => ⟨#[98]⟩
def bsX : Nat → ByteArray := fun _ => ⟨#[120]⟩
theorem noBad0 {c : Int} {nm bs : Nat → ByteArray} {e : Int} (h : 1 ≤ c ∧ c ≤ 1000000000) : ¬ LoadsBad c 0 nm bs e := by
  rintro (⟨h1, _⟩ | ⟨_, ⟨⟨i, hi, _⟩, _⟩ | ⟨_, ⟨⟨i, hi, _⟩, _⟩ | ⟨_, ⟨i, hi, _⟩, _⟩⟩⟩)
  all_goals omega
theorem noBad1 {c : Int} {e : Int} (h : 1 ≤ c ∧ c ≤ 1000000000) : ¬ LoadsBad c 1 nmB bsX e := by
  rintro (⟨h1, _⟩ | ⟨_, ⟨⟨i, hi, h2⟩, _⟩ | ⟨_, ⟨⟨i, hi, h2⟩, _⟩ | ⟨_, ⟨i, hi, h2⟩, _⟩⟩⟩)
  · omega
  · exact absurd h2 (by show ¬ okN [98] = false; decide)
  · obtain rfl : i = 0 := by omega
    exact h2 rfl
  · obtain rfl : i = 0 := by omega
    have : lens bsX (0 + 1) = 1 := rfl
    omega

def nilS : Value := .slice none 0 0
theorem lo_nil (w : World) (ω : Nat → Nat) (k : Nat) (e : TypeId) (sz : Nat) : LO w ω k e sz (.slice none 0 0) 0 [] := ⟨⟨by simp, Or.inl ⟨rfl, rfl⟩⟩, fun g h => by cases h⟩
theorem bo_new {w : World} {ω : Nat → Nat} {bb : Nat} (h : w.heap[bb]? = some (.cells #[.slice none 0 0, .slice none 0 0, .slice none 0 0, .slice none 0 0, .slice none 0 0, .slice none 0 0] 38 (0, 0))) (ho : ω bb = 6) : BO w ω bb 0 (.slice none 0 0) (.slice none 0 0) (.slice none 0 0) (.slice none 0 0) :=
  ⟨⟨0, 0, ⟨⟨_, _, h, ⟨[], lo_nil w ω 7 _ 1, fun i v hv => by simp at hv⟩, ⟨[], lo_nil w ω 8 _ 1, fun i v hv => by simp at hv⟩⟩, ho⟩, ⟨rfl, rfl⟩, by omega, by omega⟩,
   ⟨0, fun _ => ⟨#[]⟩, lo_nil w ω 9 _ 1, lo_nil w ω 10 _ 1, by omega⟩, ⟨0, fun _ => ⟨#[]⟩, fun _ => ⟨#[]⟩, lo_nil w ω 11 _ 2, lo_nil w ω 12 _ 2, by omega⟩⟩
def firstOp : Nat → OpR
  | 0 => opOf 1 0 ⟨#[97]⟩ ⟨#[]⟩
  | 1 => opOf 2 0 ⟨#[97]⟩ ⟨#[104]⟩
  | 2 => opOf 5 0 ⟨#[97]⟩ ⟨#[]⟩
  | 3 => opOf 17 0 ⟨#[]⟩ ⟨#[]⟩
  | _ => opOf 3 1 ⟨#[97]⟩ ⟨#[]⟩
theorem firstOp_ok (w : World) (j : Nat) : (firstOp j).ok w := by
  have key : ∀ kd M nm S, (M = 0 ∨ M = 1) → nm.size ≤ 1 → (opOf kd M nm S).ok w := fun kd M nm S hM hnm => ⟨⟨by show (-9223372036854775808 : Int) ≤ 0; omega, by show (0 : Int) ≤ 9223372036854775807; omega⟩, ⟨by show (-9223372036854775808 : Int) ≤ M; omega, by show M ≤ 9223372036854775807; omega⟩, by show nm.size ≤ maxLen; unfold maxLen; omega, fun i hi => absurd hi (Nat.not_lt_zero i), fun a h => absurd h (Nat.lt_irrefl 0), fun _ => ⟨rfl, rfl⟩, by show (0 + 2) * 40 ≤ 140737488355328; omega⟩
  unfold firstOp
  split
  · exact key 1 0 _ _ (Or.inl rfl) (by decide)
  · exact key 2 0 _ _ (Or.inl rfl) (by decide)
  · exact key 5 0 _ _ (Or.inl rfl) (by decide)
  · exact key 17 0 _ _ (Or.inl rfl) (by decide)
  · exact key 3 1 _ _ (Or.inr rfl) (by decide)
abbrev fCells : Array Value := #[.int .i64 1, .int .i64 0, .int .i64 0, .bool false, .string ⟨#[97]⟩, .string ⟨#[]⟩, .slice none 0 0, .int .i64 2, .int .i64 0, .int .i64 0, .bool false, .string ⟨#[97]⟩, .string ⟨#[104]⟩, .slice none 0 0, .int .i64 5, .int .i64 0, .int .i64 0, .bool false, .string ⟨#[97]⟩, .string ⟨#[]⟩, .slice none 0 0, .int .i64 17, .int .i64 0, .int .i64 0, .bool false, .string ⟨#[]⟩, .string ⟨#[]⟩, .slice none 0 0, .int .i64 3, .int .i64 0, .int .i64 1, .bool false, .string ⟨#[97]⟩, .string ⟨#[]⟩, .slice none 0 0]
theorem firstOp_at {W : World} {g : Nat} (h : W.heap[g]? = some (.cells fCells 41 (0, 0))) (j : Nat) (hj : j < 5) : OpAt W g (0 + j * 7) (firstOp j) := by
  unfold OpAt
  rw [blk_cell h, blk_cell h, blk_cell h, blk_cell h, blk_cell h, blk_cell h, blk_cell h]
  obtain rfl | rfl | rfl | rfl | rfl : j = 0 ∨ j = 1 ∨ j = 2 ∨ j = 3 ∨ j = 4 := by omega
  all_goals exact ⟨rfl, rfl, rfl, rfl, rfl, rfl, rfl⟩
theorem OpAt.heap {W W' : World} {b p : Nat} {o : OpR} (h : OpAt W b p o) (e : W'.heap[b]? = W.heap[b]?) : OpAt W' b p o := by
  have key : ∀ j, W'.cell? ⟨b, j, none⟩ = W.cell? ⟨b, j, none⟩ := fun j => World.cell?_of_block (w := W) e
  unfold OpAt at *
  simp only [key]; exact h
theorem KLs.heap {W W' : World} {lo : Option Addr} {ln : Nat} {nm : Nat → ByteArray} {by' : Nat → Int} (h : KLs W lo ln nm by') (e : ∀ a, 0 < ln → lo = some a → W'.heap[a.block]? = W.heap[a.block]?) : KLs W' lo ln nm by' := fun i hi => by
  obtain ⟨b, off, h1, ⟨h2, h3⟩, h4⟩ := h i hi
  have hb := e _ (by omega) h1
  have key : ∀ j, W'.cell? ⟨b, j, none⟩ = W.cell? ⟨b, j, none⟩ := fun j => World.cell?_of_block (w := W) hb
  exact ⟨b, off, h1, ⟨(key _).trans h2, (key _).trans h3⟩, h4⟩

set_option maxHeartbeats 2000000 in
theorem plays_law (one two : Int) (so : Option Addr) (n cap : Nat) (os : Nat → OpR) (w : World) (h1 : -9223372036854775808 ≤ one ∧ one ≤ 9223372036854775807) (h2 : -9223372036854775808 ≤ two ∧ two ≤ 9223372036854775807)
    (hs : ∀ i, i < n → ∃ b off, so = some ⟨b, off, none⟩ ∧ OpAt w b (off + i * 7) (os i) ∧ (os i).ok w) (hn : n ≤ 1048576) :
    Calls Tryz.prog 3 #[.int .i64 one, .int .i64 two, .slice so n cap] w fun x w' => x = .returned (.bool true) ∧ Tch (fun _ => False) w w' := by
  have HS : Hid _ := hs
  clear hs
  have hp1 := fun W => pick_any one 200 W h1.1 h1.2 (by omega) (by omega)
  have hp2 := fun W => pick_any two 60 W h2.1 h2.2 (by omega) (by omega)
  obtain ⟨k1, hk1⟩ : ∃ k1, k1 = pk one 200 := ⟨_, rfl⟩
  obtain ⟨k2, hk2⟩ : ∃ k2, k2 = pk two 60 := ⟨_, rfl⟩
  have b1 : 0 ≤ k1 ∧ k1 < 200 := by rw [hk1]; exact pk_rng one 200 (by omega)
  have b2 : 0 ≤ k2 ∧ k2 < 60 := by rw [hk2]; exact pk_rng two 60 (by omega)
  rw [← hk1] at hp1
  rw [← hk2] at hp2
  clear hk1 hk2
  have HP1 : Hid _ := hp1
  have HP2 : Hid _ := hp2
  clear hp1 hp2
  go_enter Tryz.func3, Tryz.ntmps3
  go_wp2_with fail
  refine (HP1.out _).mono ?_
  rintro x w1 ⟨rfl, hw1⟩
  rw [hw1]
  clear hw1 w1 HP1
  go_wp2_with fail
  refine (loads_any (1 + k1) none 0 0 (fun _ => ⟨#[]⟩) (fun _ => ⟨#[]⟩) w (fun i hi => by omega) (fun _ => ⟨rfl, rfl⟩) (by omega) (by show (0 : Nat) ≤ _; omega)).mono ?_
  rintro x wA ⟨dv, rv, rfl, ⟨e, hB⟩, tA⟩
  rcases hB with ⟨_, _, hbad⟩ | hB
  · exact absurd hbad (noBad0 (by omega))
  obtain ⟨db1, rb1, rfl, rfl⟩ : ∃ db1 rb1, dv = .pointer (some ⟨db1, 0, none⟩) ∧ rv = .pointer (some ⟨rb1, 0, none⟩) := by
    obtain ⟨_, _, _, _, b, rb, v, h3, h4, _⟩ := hB
    exact ⟨b, rb, h3, h4⟩
  have BA := BB.ofBoth (Or.inr hB) none (fun i h => by cases h)
  clear hB
  have B1 := BA.alloc (.cells (pairC db1 rb1 (1 + k1)) 26)
  obtain ⟨wB, hwB⟩ : ∃ wB, wB = wA.alloc (.cells (pairC db1 rb1 (1 + k1)) 26) := ⟨_, rfl⟩
  obtain ⟨m1, hm1⟩ : ∃ m1, m1 = wA.heap.size := ⟨_, rfl⟩
  rw [← hwB, ← hm1] at B1
  have tB : Tch (fun _ => False) w wB := by rw [hwB]; exact tA.allocR _
  obtain ⟨ω1, kc1, hkc1, hok1, hP1, hω1, E1, hold1⟩ := BB.pair (k := 1) (ω := fun _ => 0) (Nat.le_refl _) (by rw [hm1]; exact tA.size) B1 tB
  have x1 : wB.heap[m1]? = some (.cells (pairC db1 rb1 (1 + k1)) 26 (0, 0)) := by rw [hwB, hm1]; exact box_one wA _
  have HwB : Hid (wB = wA.alloc (.cells (pairC db1 rb1 (1 + k1)) 26) ∧ m1 = wA.heap.size) := ⟨hwB, hm1⟩
  have hm1w : w.heap.size ≤ m1 := by rw [hm1]; exact tA.size
  clear BA B1 tA hwB hm1 e hkc1
  go_wp2_with fail
  rw [← HwB.out.1, ← HwB.out.2]
  refine (HP2.out _).mono ?_
  rintro x w2 ⟨rfl, hw2⟩
  rw [hw2]
  clear hw2 w2 HP2
  obtain ⟨wC, hwC⟩ : ∃ wC, wC = wB.alloc (.cells #[.string ⟨#[98]⟩, .string ⟨#[120]⟩] 31) := ⟨_, rfl⟩
  have tC : Tch (fun _ => False) wB wC := by rw [hwC]; exact Tch.alloc _ _ _
  have hFL : FLs wC (some ⟨wB.heap.size, 0, none⟩) 1 nmB bsX := fun i hi => by
    obtain rfl : i = 0 := by omega
    exact ⟨wB.heap.size, 0, rfl, by rw [hwC]; simp [nmB], by rw [hwC]; simp [bsX]⟩
  have HwC : Hid (wC = wB.alloc (.cells #[.string ⟨#[98]⟩, .string ⟨#[120]⟩] 31)) := hwC
  clear hwC
  go_wp2_with fail
  rw [← HwC.out]
  refine (loads_any (1 + k2) (some ⟨wB.heap.size, 0, none⟩) 1 1 nmB bsX wC hFL (fun h => by cases h) (by omega) (by show (1 : Nat) ≤ _; omega)).mono ?_
  rintro x wD ⟨dv, rv, rfl, ⟨e, hB⟩, tD⟩
  rcases hB with ⟨_, _, hbad⟩ | hB
  · exact absurd hbad (noBad1 (by omega))
  obtain ⟨db2, rb2, rfl, rfl⟩ : ∃ db2 rb2, dv = .pointer (some ⟨db2, 0, none⟩) ∧ rv = .pointer (some ⟨rb2, 0, none⟩) := by
    obtain ⟨_, _, _, _, b, rb, v, h3, h4, _⟩ := hB
    exact ⟨b, rb, h3, h4⟩
  have BA := BB.ofBoth (Or.inr hB) none (fun i h => by cases h)
  clear hB
  have B2 := BA.alloc (.cells (pairC db2 rb2 (1 + k2)) 26)
  obtain ⟨wE, hwE⟩ : ∃ wE, wE = wD.alloc (.cells (pairC db2 rb2 (1 + k2)) 26) := ⟨_, rfl⟩
  obtain ⟨m2, hm2⟩ : ∃ m2, m2 = wD.heap.size := ⟨_, rfl⟩
  rw [← hwE, ← hm2] at B2
  have tE : Tch (fun _ => False) wB wE := by rw [hwE]; exact (tC.trans' tD).allocR _
  obtain ⟨ω2, kc2, hkc2, hok2, hP2, hω2, E2, hold2⟩ := BB.pair (k := 3) (ω := ω1) tC.size (by rw [hm2]; exact (tC.trans' tD).size) B2 tE
  have x2 : wE.heap[m2]? = some (.cells (pairC db2 rb2 (1 + k2)) 26 (0, 0)) := by rw [hwE, hm2]; exact box_one wD _
  have HwE : Hid (wE = wD.alloc (.cells (pairC db2 rb2 (1 + k2)) 26) ∧ m2 = wD.heap.size) := ⟨hwE, hm2⟩
  have hm12 : m1 < wB.heap.size ∧ wB.heap.size ≤ m2 := ⟨blk_lt x1, by rw [hm2]; exact (tC.trans' tD).size⟩
  have x1E : wE.heap[m1]? = some (.cells (pairC db1 rb1 (1 + k1)) 26 (0, 0)) := (tE.block m1 hm12.1 (fun h => h)).trans x1
  have o1E : ω2 m1 = 0 := by rw [hold2 m1 hm12.1]; exact hω1
  have P1 : PR wE ω2 1 db1 rb1 _ := hP1.ev E2 (by omega) (by omega)
  clear BA B2 hwE hm2 e tD hP1 hFL x1 E2 hkc2
  obtain ⟨c0, c1, c2⟩ : wE.cell? ⟨m1, 0, none⟩ = some (.pointer (some ⟨db1, 0, none⟩)) ∧ wE.cell? ⟨m1, 1, none⟩ = some (.pointer (some ⟨rb1, 0, none⟩)) ∧ wE.cell? ⟨m1, 2, none⟩ = some (.int .i64 (1 + k1)) := ⟨by rw [blk_cell x1E]; rfl, by rw [blk_cell x1E]; rfl, by rw [blk_cell x1E]; rfl⟩
  obtain ⟨c3, c4, c5⟩ : wE.cell? ⟨m2, 0, none⟩ = some (.pointer (some ⟨db2, 0, none⟩)) ∧ wE.cell? ⟨m2, 1, none⟩ = some (.pointer (some ⟨rb2, 0, none⟩)) ∧ wE.cell? ⟨m2, 2, none⟩ = some (.int .i64 (1 + k2)) := ⟨by rw [blk_cell x2]; rfl, by rw [blk_cell x2]; rfl, by rw [blk_cell x2]; rfl⟩
  rw [HwE.out.1, HwE.out.2] at c3 c4 c5
  rw [HwE.out.1] at c0 c1 c2
  go_wp2_with fail
  obtain ⟨wF, hwF⟩ : ∃ wF, wF = wE.alloc (.cells #[.slice none 0 0, .slice none 0 0, .slice none 0 0, .slice none 0 0, .slice none 0 0, .slice none 0 0] 38) := ⟨_, rfl⟩
  obtain ⟨bb, hbb⟩ : ∃ bb, bb = wE.heap.size := ⟨_, rfl⟩
  obtain ⟨wL, hwL⟩ : ∃ wL, wL = wF.alloc (.cells fCells 41) := ⟨_, rfl⟩
  obtain ⟨gf, hgf⟩ : ∃ gf, gf = wF.heap.size := ⟨_, rfl⟩
  have hsE : wD.heap.size + 1 = wE.heap.size := by rw [HwE.out.1]; simp
  have hsF : wE.heap.size + 1 = wF.heap.size := by rw [hwF]; simp
  have tF : Tch (fun _ => False) wE wF := by rw [hwF]; exact Tch.alloc _ _ _
  have tL : Tch (fun _ => False) wF wL := by rw [hwL]; exact Tch.alloc _ _ _
  have bF : wF.heap[bb]? = some (.cells #[.slice none 0 0, .slice none 0 0, .slice none 0 0, .slice none 0 0, .slice none 0 0, .slice none 0 0] 38 (0, 0)) := by rw [hwF, hbb]; exact box_one wE _
  have gL : wL.heap[gf]? = some (.cells fCells 41 (0, 0)) := by rw [hwL, hgf]; exact box_one wF _
  have eF : Ev (fun i => i = 6) wE ω2 wF (ext ω2 wE.heap.size 6) := Ev.ofNo 6 rfl tF
  have hbo := bo_new bF (show ext ω2 wE.heap.size 6 bb = 6 from ext_ge (by omega))
  have eL : Ev (fun i => i = 0) wF (ext ω2 wE.heap.size 6) wL (ext (ext ω2 wE.heap.size 6) wF.heap.size 0) := Ev.ofNo 0 rfl tL
  have hboL := hbo.ev eL (fun i h1 _ h => by omega)
  have P1L := (P1.ev eF (by omega) (by omega)).ev eL (by omega) (by omega)
  have P2L := (hP2.ev eF (by omega) (by omega)).ev eL (by omega) (by omega)
  obtain ⟨ωL, hωL⟩ : ∃ ωL, ωL = ext (ext ω2 wE.heap.size 6) wF.heap.size 0 := ⟨_, rfl⟩
  rw [← hωL] at hboL P1L P2L
  have oL : ∀ i, i < wE.heap.size → ωL i = ω2 i := fun i hi => by rw [hωL, ext_lt (by omega), ext_lt hi]
  have x1L : wL.heap[m1]? = _ := ((tF.trans' tL).block m1 (blk_lt x1E) (fun h => h)).trans x1E
  have x2L : wL.heap[m2]? = _ := ((tF.trans' tL).block m2 (blk_lt x2) (fun h => h)).trans x2
  have HPS : Hid (PS wL ωL m1 m2 bb 0 wL ωL (mkD kc1 (mk3 (fun _ => ⟨#[]⟩) (fun _ => ⟨#[]⟩) 0 0)) (mkD kc2 (mk3 nmB bsX 1 1)) db1 rb1 db2 rb2 (1 + k1) (1 + k2)) :=
    ⟨⟨_, _, _, _, hboL⟩, P1L, P2L, ⟨x1L, by rw [oL m1 (blk_lt x1E)]; exact o1E⟩, ⟨x2L, by rw [oL m2 (blk_lt x2)]; exact hω2⟩, fun i _ h0 _ _ => ⟨rfl, h0⟩, Tch.refl _ _, ⟨⟨by have := length_mk3 (fun _ => (⟨#[]⟩ : ByteArray)) (fun _ => (⟨#[]⟩ : ByteArray)) 0; show (mk3 (fun _ => (⟨#[]⟩ : ByteArray)) (fun _ => (⟨#[]⟩ : ByteArray)) 0 0).length ≤ _; omega, by have := length_mk3 nmB bsX 1; show (mk3 nmB bsX 1 1).length ≤ _; omega⟩, nok_mk3 hok1.ok, nok_mk3 hok2.ok⟩, by omega, by omega⟩
  have HA : Hid (∀ i, i < w.heap.size → i < wL.heap.size ∧ ωL i = 0 ∧ i ≠ m1 ∧ i ≠ m2 ∧ wL.heap[i]? = w.heap[i]?) := fun i hi => by
    have h3 : w.heap.size ≤ wB.heap.size := tB.size
    have h4 := tE.size
    refine ⟨by have := tF.size; have := tL.size; omega, by rw [oL i (by omega), hold2 i (by omega), hold1 i hi], by omega, by omega, ((tF.trans' tL).block i (by omega) (fun h => h)).trans ((tE.block i (by omega) (fun h => h)).trans (tB.block i hi (fun h => h)))⟩
  have HT : Hid (Tch (fun _ => False) w wL) := (tB.trans' tE).trans' (tF.trans' tL)
  have HG : Hid (gf < wL.heap.size ∧ ωL gf = 0 ∧ gf ≠ m1 ∧ gf ≠ m2) := ⟨blk_lt gL, by rw [hωL]; exact ext_ge (by omega), by have := blk_lt x1E; omega, by have := blk_lt x2; omega⟩
  have HGL : Hid (wL.heap[gf]? = some (.cells fCells 41 (0, 0))) := gL
  have hm12' : m1 ≠ m2 := by omega
  have hb3 : m2 + 1 = bb := by have := HwE.out.2; omega
  have hg3 : bb + 1 = gf := by omega
  rw [← HwE.out.1, ← HwE.out.2, ← hwF, hb3, hg3, ← hwL]
  have HM : Hid (wL.heap.size ≤ wL.heap.size) := Nat.le_refl _
  clear hwF hbb hwL hgf hsE hsF tF tL bF gL eF hbo eL hboL P1L P2L hωL oL x1L x2L hb3 hg3 c0 c1 c2 c3 c4 c5 x1E x2 o1E hω2 P1 hP2 hok1 hok2 hold1 hold2 tB tC tE E1 HwB HwC HwE hω1 hm12 hm1w
  go_loopw [13] (fun i wr => ∃ j : Nat, i = .int .i64 j ∧ j ≤ 5 + n ∧ Hid (∃ ω d1 d2 db1 rb1 db2 rb2 c1 c2, PS wL ωL m1 m2 bb j wr ω d1 d2 db1 rb1 db2 rb2 c1 c2)) (fun i _ => 5 + n - (intOf i).toNat)
  case atStart => exact ⟨0, rfl, by omega, _, _, _, _, _, _, _, _, _, HPS.out⟩
  case round =>
    clear HPS
    obtain ⟨j, rfl, hj, HP⟩ := hrel
    obtain ⟨ω, d1, d2, e1, r1, e2, r2, c1, c2, hP⟩ := HP.out
    clear HP
    by_cases hjn : j < 5 + n
    · have hjn' : (j : Int) < 5 + n := by omega
      obtain ⟨wZ, hwZ⟩ : ∃ wZ, wZ = wr.alloc (.cells #[.int .i64 0, .int .i64 0, .int .i64 0, .bool false, .string ⟨#[]⟩, .string ⟨#[]⟩, .slice none 0 0] 41) := ⟨_, rfl⟩
      have tZ : Tch (fun _ => False) wr wZ := by rw [hwZ]; exact Tch.alloc _ _ _
      have HwZ : Hid (wZ = wr.alloc (.cells #[.int .i64 0, .int .i64 0, .int .i64 0, .bool false, .string ⟨#[]⟩, .string ⟨#[]⟩, .slice none 0 0] 41)) := hwZ
      clear hwZ
      have hzz : ∀ i, i < wL.heap.size → ωL i = 0 → i ≠ m1 → i ≠ m2 → wr.heap[i]? = wL.heap[i]? := fun i a b c d => (hP.z i a b c d).1
      by_cases hj5 : j < 5
      · have hj5' : (j : Int) < 5 := by omega
        obtain ⟨o, ho⟩ : ∃ o, o = firstOp j := ⟨_, rfl⟩
        have hO : OpAt wZ gf (j * 7) o := by
          have h0 := firstOp_at HGL.out j hj5
          rw [Nat.zero_add, ← ho] at h0
          have h3 := hzz gf HG.out.1 HG.out.2.1 HG.out.2.2.1 HG.out.2.2.2
          exact h0.heap ((tZ.block gf (by have := hP.h.size; have := HG.out.1; omega) (fun h => h)).trans h3)
        have hok : o.ok w := by rw [ho]; exact firstOp_ok w j
        clear ho
        obtain ⟨kd, N, M, tw, nm, S, lo, ln, lc, nmL, byL⟩ := o
        have HOK : Hid _ := hok
        obtain ⟨W1, hW1⟩ : ∃ W1, W1 = wr.alloc (.cells (opC kd N M tw nm S lo ln lc) 41) := ⟨_, rfl⟩
        have t1 : Tch (fun _ => False) wr W1 := by rw [hW1]; exact Tch.alloc _ _ _
        obtain ⟨ω1, hω1⟩ : ∃ ω1, ω1 = ext ω wr.heap.size 0 := ⟨_, rfl⟩
        have hQ := hP.no t1
        rw [← hω1] at hQ
        have HQ : Hid _ := hQ
        have HKω : Hid (∀ a, 0 < ln → lo = some a → a.block < W1.heap.size ∧ ω1 a.block = 0) := fun a h0 e => by
          obtain ⟨a1, a2, a3, a4, _⟩ := HA.out a.block (hok.lt a h0 e)
          have h5 := hQ.z a.block a1 a2 a3 a4
          exact ⟨by have := hQ.h.size; omega, h5.2⟩
        have HKL : Hid (KLs W1 lo ln nmL byL) := KLs.heap hok.l (fun a h0 e => by
          obtain ⟨a1, a2, a3, a4, a5⟩ := HA.out a.block (hok.lt a h0 e)
          exact (hQ.z a.block a1 a2 a3 a4).1.trans a5)
        have g0 : W1.cell? ⟨m1, 0, none⟩ = some (.pointer (some ⟨e1, 0, none⟩)) := by rw [blk_cell hQ.x1.1]; rfl
        have g1 : W1.cell? ⟨m1, 1, none⟩ = some (.pointer (some ⟨r1, 0, none⟩)) := by rw [blk_cell hQ.x1.1]; rfl
        have g2 : W1.cell? ⟨m1, 2, none⟩ = some (.int .i64 c1) := by rw [blk_cell hQ.x1.1]; rfl
        have g3 : W1.cell? ⟨m2, 0, none⟩ = some (.pointer (some ⟨e2, 0, none⟩)) := by rw [blk_cell hQ.x2.1]; rfl
        have g4 : W1.cell? ⟨m2, 1, none⟩ = some (.pointer (some ⟨r2, 0, none⟩)) := by rw [blk_cell hQ.x2.1]; rfl
        have g5 : W1.cell? ⟨m2, 2, none⟩ = some (.int .i64 c2) := by rw [blk_cell hQ.x2.1]; rfl
        rw [hW1] at g0 g1 g2 g3 g4 g5
        have HW1 : Hid (W1 = wr.alloc (.cells (opC kd N M tw nm S lo ln lc) 41)) := hW1
        obtain ⟨a0, a1, a2, a3, a4, a5, a6⟩ := hO
        simp only at a0 a1 a2 a3 a4 a5 a6
        rw [HwZ.out] at a0 a1 a2 a3 a4 a5 a6
        clear hW1 hω1 hQ t1 hP hzz tZ hok
        cases tw with
        | false =>
          obtain ⟨hN, wN, hF, wF, hbo⟩ := HQ.out.bo
          go_wp2_with fail
          rw [← HW1.out]
          refine (step_any bb j 1 e1 r1 d1 c1 kd N M false nm S lo ln lc nmL byL hN wN hF wF ω1 W1 hbo HQ.out.p1 (by omega) (by have := HQ.out.l; omega) (by omega) HQ.out.c.1 HOK.out.n HOK.out.m HOK.out.nm HKL.out HKω.out HOK.out.nil HOK.out.len).mono ?_
          rintro x w' ⟨db', rb', c', rfl, hc', hst⟩
          have hy : w'.heap[m1]? = some (.cells (pairC e1 r1 c1) 26 (0, 0)) := by
            obtain ⟨_, _, _, _, _, _, _, _, _, _, k0⟩ := hst
            exact (k0 m1 (blk_lt HQ.out.x1.1) HQ.out.x1.2).1.trans HQ.out.x1.1
          have y0 : w'.cell? ⟨m1, 0, none⟩ = some (.pointer (some ⟨e1, 0, none⟩)) := by rw [blk_cell hy]; rfl
          have y1 : w'.cell? ⟨m1, 1, none⟩ = some (.pointer (some ⟨r1, 0, none⟩)) := by rw [blk_cell hy]; rfl
          have y2 : w'.cell? ⟨m1, 2, none⟩ = some (.int .i64 c1) := by rw [blk_cell hy]; rfl
          have f0 := blk_frozen hy 0
          have f1 := blk_frozen hy 1
          have f2 := blk_frozen hy 2
          obtain ⟨ω2, d', hPS2⟩ := HQ.out.step1 hst hc' hm12'
          have HPS2 : Hid _ := hPS2
          obtain ⟨hN2, wN2, hF2, wF2, hbo2⟩ := hPS2.bo
          obtain ⟨kn, kf, hbk, _, hk1, hk2⟩ := hbo2.bk
          have hst2 := still_any bb kn kf hN2 wN2 hF2 wF2 ω2 _ hbk (by omega) (by omega)
          clear hbo hst hy hPS2 hbo2 hbk g0 g1 g2 g3 g4 g5
          go_wp2_with fail
          refine hst2.mono ?_
          rintro x w3 ⟨rfl, t3⟩
          have HPS3 : Hid _ := HPS2.out.no t3
          clear hst2 t3 y0 y1 y2 f0 f1 f2
          go_wp2_with fail
          go_roundw
          case rel => exact ⟨j + 1, by go_num, by omega, _, _, _, _, _, _, _, _, _, HPS3.out⟩
          case measure => simp [intOf]; omega
        | true =>
          obtain ⟨hN, wN, hF, wF, hbo⟩ := HQ.out.bo
          go_wp2_with fail
          rw [← HW1.out]
          refine (step_any bb j 3 e2 r2 d2 c2 kd N M true nm S lo ln lc nmL byL hN wN hF wF ω1 W1 hbo HQ.out.p2 (by omega) (by have := HQ.out.l; omega) (by omega) HQ.out.c.2 HOK.out.n HOK.out.m HOK.out.nm HKL.out HKω.out HOK.out.nil HOK.out.len).mono ?_
          rintro x w' ⟨db', rb', c', rfl, hc', hst⟩
          have hy : w'.heap[m2]? = some (.cells (pairC e2 r2 c2) 26 (0, 0)) := by
            obtain ⟨_, _, _, _, _, _, _, _, _, _, k0⟩ := hst
            exact (k0 m2 (blk_lt HQ.out.x2.1) HQ.out.x2.2).1.trans HQ.out.x2.1
          have y0 : w'.cell? ⟨m2, 0, none⟩ = some (.pointer (some ⟨e2, 0, none⟩)) := by rw [blk_cell hy]; rfl
          have y1 : w'.cell? ⟨m2, 1, none⟩ = some (.pointer (some ⟨r2, 0, none⟩)) := by rw [blk_cell hy]; rfl
          have y2 : w'.cell? ⟨m2, 2, none⟩ = some (.int .i64 c2) := by rw [blk_cell hy]; rfl
          have f0 := blk_frozen hy 0
          have f1 := blk_frozen hy 1
          have f2 := blk_frozen hy 2
          obtain ⟨ω2, d', hPS2⟩ := HQ.out.step2 hst hc' hm12'
          have HPS2 : Hid _ := hPS2
          obtain ⟨hN2, wN2, hF2, wF2, hbo2⟩ := hPS2.bo
          obtain ⟨kn, kf, hbk, _, hk1, hk2⟩ := hbo2.bk
          have hst2 := still_any bb kn kf hN2 wN2 hF2 wF2 ω2 _ hbk (by omega) (by omega)
          clear hbo hst hy hPS2 hbo2 hbk g0 g1 g2 g3 g4 g5
          go_wp2_with fail
          refine hst2.mono ?_
          rintro x w3 ⟨rfl, t3⟩
          have HPS3 : Hid _ := HPS2.out.no t3
          clear hst2 t3 y0 y1 y2 f0 f1 f2
          go_wp2_with fail
          go_roundw
          case rel => exact ⟨j + 1, by go_num, by omega, _, _, _, _, _, _, _, _, _, HPS3.out⟩
          case measure => simp [intOf]; omega
      · have hj5' : ¬ (j : Int) < 5 := by omega
        obtain ⟨q, rfl⟩ : ∃ q, j = 5 + q := ⟨j - 5, by omega⟩
        obtain ⟨sb, off, rfl, hO0, hok0⟩ := HS.out q (by omega)
        obtain ⟨o, ho⟩ : ∃ o, o = os q := ⟨_, rfl⟩
        rw [← ho] at hO0 hok0
        have hok := hok0
        have hsb : sb < w.heap.size := cell_lt hO0.1
        have hO : OpAt wZ sb (off + q * 7) o := by
          obtain ⟨a1, a2, a3, a4, a5⟩ := HA.out sb hsb
          have h3 := (hzz sb a1 a2 a3 a4).trans a5
          exact hO0.heap ((tZ.block sb (by have := hP.h.size; omega) (fun h => h)).trans h3)
        have hsub : IntKind.i64.wrap (((5 + q : Nat) : Int) - 5) = (q : Int) := by rw [IntKind.wrap_i64]; omega
        have hqn : (q : Int) < n := by omega
        clear ho hO0 hok0
        obtain ⟨kd, N, M, tw, nm, S, lo, ln, lc, nmL, byL⟩ := o
        have HOK : Hid _ := hok
        obtain ⟨W1, hW1⟩ : ∃ W1, W1 = wr.alloc (.cells (opC kd N M tw nm S lo ln lc) 41) := ⟨_, rfl⟩
        have t1 : Tch (fun _ => False) wr W1 := by rw [hW1]; exact Tch.alloc _ _ _
        obtain ⟨ω1, hω1⟩ : ∃ ω1, ω1 = ext ω wr.heap.size 0 := ⟨_, rfl⟩
        have hQ := hP.no t1
        rw [← hω1] at hQ
        have HQ : Hid _ := hQ
        have HKω : Hid (∀ a, 0 < ln → lo = some a → a.block < W1.heap.size ∧ ω1 a.block = 0) := fun a h0 e => by
          obtain ⟨a1, a2, a3, a4, _⟩ := HA.out a.block (hok.lt a h0 e)
          have h5 := hQ.z a.block a1 a2 a3 a4
          exact ⟨by have := hQ.h.size; omega, h5.2⟩
        have HKL : Hid (KLs W1 lo ln nmL byL) := KLs.heap hok.l (fun a h0 e => by
          obtain ⟨a1, a2, a3, a4, a5⟩ := HA.out a.block (hok.lt a h0 e)
          exact (hQ.z a.block a1 a2 a3 a4).1.trans a5)
        have g0 : W1.cell? ⟨m1, 0, none⟩ = some (.pointer (some ⟨e1, 0, none⟩)) := by rw [blk_cell hQ.x1.1]; rfl
        have g1 : W1.cell? ⟨m1, 1, none⟩ = some (.pointer (some ⟨r1, 0, none⟩)) := by rw [blk_cell hQ.x1.1]; rfl
        have g2 : W1.cell? ⟨m1, 2, none⟩ = some (.int .i64 c1) := by rw [blk_cell hQ.x1.1]; rfl
        have g3 : W1.cell? ⟨m2, 0, none⟩ = some (.pointer (some ⟨e2, 0, none⟩)) := by rw [blk_cell hQ.x2.1]; rfl
        have g4 : W1.cell? ⟨m2, 1, none⟩ = some (.pointer (some ⟨r2, 0, none⟩)) := by rw [blk_cell hQ.x2.1]; rfl
        have g5 : W1.cell? ⟨m2, 2, none⟩ = some (.int .i64 c2) := by rw [blk_cell hQ.x2.1]; rfl
        rw [hW1] at g0 g1 g2 g3 g4 g5
        have HW1 : Hid (W1 = wr.alloc (.cells (opC kd N M tw nm S lo ln lc) 41)) := hW1
        obtain ⟨a0, a1, a2, a3, a4, a5, a6⟩ := hO
        simp only at a0 a1 a2 a3 a4 a5 a6
        rw [HwZ.out] at a0 a1 a2 a3 a4 a5 a6
        clear hW1 hω1 hQ t1 hP hzz tZ hok
        cases tw with
        | false =>
          obtain ⟨hN, wN, hF, wF, hbo⟩ := HQ.out.bo
          go_wp2_with fail
          rw [← HW1.out]
          refine (step_any bb (5 + q) 1 e1 r1 d1 c1 kd N M false nm S lo ln lc nmL byL hN wN hF wF ω1 W1 hbo HQ.out.p1 (by omega) (by have := HQ.out.l; omega) (by omega) HQ.out.c.1 HOK.out.n HOK.out.m HOK.out.nm HKL.out HKω.out HOK.out.nil HOK.out.len).mono ?_
          rintro x w' ⟨db', rb', c', rfl, hc', hst⟩
          have hy : w'.heap[m1]? = some (.cells (pairC e1 r1 c1) 26 (0, 0)) := by
            obtain ⟨_, _, _, _, _, _, _, _, _, _, k0⟩ := hst
            exact (k0 m1 (blk_lt HQ.out.x1.1) HQ.out.x1.2).1.trans HQ.out.x1.1
          have y0 : w'.cell? ⟨m1, 0, none⟩ = some (.pointer (some ⟨e1, 0, none⟩)) := by rw [blk_cell hy]; rfl
          have y1 : w'.cell? ⟨m1, 1, none⟩ = some (.pointer (some ⟨r1, 0, none⟩)) := by rw [blk_cell hy]; rfl
          have y2 : w'.cell? ⟨m1, 2, none⟩ = some (.int .i64 c1) := by rw [blk_cell hy]; rfl
          have f0 := blk_frozen hy 0
          have f1 := blk_frozen hy 1
          have f2 := blk_frozen hy 2
          obtain ⟨ω2, d', hPS2⟩ := HQ.out.step1 hst hc' hm12'
          have HPS2 : Hid _ := hPS2
          obtain ⟨hN2, wN2, hF2, wF2, hbo2⟩ := hPS2.bo
          obtain ⟨kn, kf, hbk, _, hk1, hk2⟩ := hbo2.bk
          have hst2 := still_any bb kn kf hN2 wN2 hF2 wF2 ω2 _ hbk (by omega) (by omega)
          clear hbo hst hy hPS2 hbo2 hbk g0 g1 g2 g3 g4 g5
          go_wp2_with fail
          refine hst2.mono ?_
          rintro x w3 ⟨rfl, t3⟩
          have HPS3 : Hid _ := HPS2.out.no t3
          clear hst2 t3 y0 y1 y2 f0 f1 f2
          go_wp2_with fail
          go_roundw
          case rel => exact ⟨5 + q + 1, by go_num, by omega, _, _, _, _, _, _, _, _, _, HPS3.out⟩
          case measure => simp [intOf]; omega
        | true =>
          obtain ⟨hN, wN, hF, wF, hbo⟩ := HQ.out.bo
          go_wp2_with fail
          rw [← HW1.out]
          refine (step_any bb (5 + q) 3 e2 r2 d2 c2 kd N M true nm S lo ln lc nmL byL hN wN hF wF ω1 W1 hbo HQ.out.p2 (by omega) (by have := HQ.out.l; omega) (by omega) HQ.out.c.2 HOK.out.n HOK.out.m HOK.out.nm HKL.out HKω.out HOK.out.nil HOK.out.len).mono ?_
          rintro x w' ⟨db', rb', c', rfl, hc', hst⟩
          have hy : w'.heap[m2]? = some (.cells (pairC e2 r2 c2) 26 (0, 0)) := by
            obtain ⟨_, _, _, _, _, _, _, _, _, _, k0⟩ := hst
            exact (k0 m2 (blk_lt HQ.out.x2.1) HQ.out.x2.2).1.trans HQ.out.x2.1
          have y0 : w'.cell? ⟨m2, 0, none⟩ = some (.pointer (some ⟨e2, 0, none⟩)) := by rw [blk_cell hy]; rfl
          have y1 : w'.cell? ⟨m2, 1, none⟩ = some (.pointer (some ⟨r2, 0, none⟩)) := by rw [blk_cell hy]; rfl
          have y2 : w'.cell? ⟨m2, 2, none⟩ = some (.int .i64 c2) := by rw [blk_cell hy]; rfl
          have f0 := blk_frozen hy 0
          have f1 := blk_frozen hy 1
          have f2 := blk_frozen hy 2
          obtain ⟨ω2, d', hPS2⟩ := HQ.out.step2 hst hc' hm12'
          have HPS2 : Hid _ := hPS2
          obtain ⟨hN2, wN2, hF2, wF2, hbo2⟩ := hPS2.bo
          obtain ⟨kn, kf, hbk, _, hk1, hk2⟩ := hbo2.bk
          have hst2 := still_any bb kn kf hN2 wN2 hF2 wF2 ω2 _ hbk (by omega) (by omega)
          clear hbo hst hy hPS2 hbo2 hbk g0 g1 g2 g3 g4 g5
          go_wp2_with fail
          refine hst2.mono ?_
          rintro x w3 ⟨rfl, t3⟩
          have HPS3 : Hid _ := HPS2.out.no t3
          clear hst2 t3 y0 y1 y2 f0 f1 f2
          go_wp2_with fail
          go_roundw
          case rel => exact ⟨5 + q + 1, by go_num, by omega, _, _, _, _, _, _, _, _, _, HPS3.out⟩
          case measure => simp [intOf]; omega
    · have hj' : ¬ (j : Int) < 5 + n := by omega
      obtain ⟨hN, wN, hF, wF, hbo⟩ := hP.bo
      have g0 : wr.cell? ⟨m1, 0, none⟩ = some (.pointer (some ⟨e1, 0, none⟩)) := by rw [blk_cell hP.x1.1]; rfl
      have g1 : wr.cell? ⟨m1, 1, none⟩ = some (.pointer (some ⟨r1, 0, none⟩)) := by rw [blk_cell hP.x1.1]; rfl
      have g2 : wr.cell? ⟨m1, 2, none⟩ = some (.int .i64 c1) := by rw [blk_cell hP.x1.1]; rfl
      have he := ended_any (c := c1) hbo hP.p1 (by omega) (by have := hP.l; omega) (by omega) hP.l.2.1
      have HP : Hid _ := hP
      clear hP
      go_wp2_with fail
      refine he.mono ?_
      rintro x wX ⟨rfl, ωX, hNX, wNX, hFX, wFX, hboX, eX, kX⟩
      have p2X := HP.out.p2.ev eX (by show ¬ (3 = 0 ∨ 3 = 1 ∨ 3 = 1 + 1 ∨ 5 ≤ 3); omega) (by show ¬ (3 + 1 = 0 ∨ 3 + 1 = 1 ∨ 3 + 1 = 1 + 1 ∨ 5 ≤ 3 + 1); omega)
      obtain ⟨y1, y2⟩ := kX m2 (blk_lt HP.out.x2.1) HP.out.x2.2
      have y3 := y1.trans HP.out.x2.1
      clear g0 g1 g2 he
      have g3 : wX.cell? ⟨m2, 0, none⟩ = some (.pointer (some ⟨e2, 0, none⟩)) := by rw [blk_cell y3]; rfl
      have g4 : wX.cell? ⟨m2, 1, none⟩ = some (.pointer (some ⟨r2, 0, none⟩)) := by rw [blk_cell y3]; rfl
      have g5 : wX.cell? ⟨m2, 2, none⟩ = some (.int .i64 c2) := by rw [blk_cell y3]; rfl
      have he := ended_any (c := c2) hboX p2X (by omega) (by have := HP.out.l; omega) (by omega) HP.out.l.2.2
      have HK : Hid _ := kX
      have HE : Hid _ := eX
      clear kX eX y1 y2 y3 p2X hboX hbo
      go_wp2_with fail
      refine he.mono ?_
      rintro x wY ⟨rfl, ωY, hNY, wNY, hFY, wFY, hboY, eY, kY⟩
      have HK2 : Hid _ := kY
      have HE2 : Hid _ := eY
      clear kY eY hboY he g3 g4 g5
      go_wp2_with fail
      go_ret
      refine ⟨rfl, ?_⟩
      have tt := ((HT.out.mono (T := fun _ => True) (fun _ _ _ => trivial)).trans HP.out.h (fun _ _ _ => trivial)).trans ((HE.out.tch.mono (T := fun _ => True) (fun _ _ _ => trivial)).trans HE2.out.tch (fun _ _ _ => trivial)) (fun _ _ _ => trivial)
      refine ⟨tt.os, tt.tape, tt.output, tt.size, fun i hi _ => ?_⟩
      obtain ⟨a1, a2, a3, a4, a5⟩ := HA.out i hi
      obtain ⟨q1, q2⟩ := HP.out.z i a1 a2 a3 a4
      have hs1 := HP.out.h.size
      obtain ⟨q3, q4⟩ := HK.out i (by omega) q2
      obtain ⟨q5, _⟩ := HK2.out i (by have := HE.out.tch.size; omega) q4
      exact q5.trans (q3.trans (q1.trans a5))
end Go.Proofs.YtjambfbibeihiaaGreat
