import Derived.Test.YtjambfbibeihiaaGreatBkV
import Derived.Test.YtjambfbibeihiaaGreatRef14
/- A pair of disks; what asks. -/
namespace Go.Proofs.YtjambfbibeihiaaGreat
set_option maxRecDepth 100000
open Go.RowKit Go.ChangeMaps Go.Sort

/-- A pair: the program's disk (k's) and the document's (k + 1's), the same. -/
structure PR (w : World) (ω : Nat → Nat) (k db rb : Nat) (d : Dsk) : Prop where
  df : DF w db d (oth ω k w)
  rf : RF w rb d (oth ω (k + 1) w)
theorem PR.ev {K : Nat → Prop} {w w' : World} {ω ω' : Nat → Nat} {k db rb : Nat} {d : Dsk} (h : PR w ω k db rb d) (e : Ev K w ω w' ω') (h1 : ¬ K k) (h2 : ¬ K (k + 1)) : PR w' ω' k db rb d := ⟨h.df.ev e h1, h.rf.ev e h2⟩
theorem PR.drewN {w : World} {ω : Nat → Nat} {k db rb : Nat} {d : Dsk} (h : PR w ω k db rb d) (n : Nat) : PR (w.drewN n) ω k db rb d := h.ev (K := fun _ => False) ((Ev.refl _ w ω).drewN n) (fun h => h) (fun h => h)
theorem Bd.of {w : World} {b : Nat} {d : Dsk} {F : Nat → Prop} (h : DF w b d F) (hl : (d.m.length + 1) * 40 ≤ 140737488355328) : Bd d := by
  obtain ⟨σ, ⟨mb, gm, h⟩, _⟩ := h
  refine ⟨h.room, h.cap, h.die, h.fail, hl, fun p hp => ?_⟩
  rw [h.m] at hp
  obtain ⟨q, hq, rfl⟩ := List.mem_map.1 hp
  exact (h.fs q hq).le

abbrev pairV (db rb : Nat) (c : Int) : Value := .agg #[.pointer (some ⟨db, 0, none⟩), .pointer (some ⟨rb, 0, none⟩), .int .i64 c]
abbrev opV (kd N M : Int) (tw : Bool) (nm S : ByteArray) (lo : Option Addr) (ln lc : Nat) : Value := .agg #[.int .i64 kd, .int .i64 N, .int .i64 M, .bool tw, .string nm, .string S, .slice lo ln lc]
abbrev opC (kd N M : Int) (tw : Bool) (nm S : ByteArray) (lo : Option Addr) (ln lc : Nat) : Array Value := #[.int .i64 kd, .int .i64 N, .int .i64 M, .bool tw, .string nm, .string S, .slice lo ln lc]
abbrev pairC (db rb : Nat) (c : Int) : Array Value := #[.pointer (some ⟨db, 0, none⟩), .pointer (some ⟨rb, 0, none⟩), .int .i64 c]

/-- What is turned by asking: the book's, and 16's (boxes). -/
abbrev KB : Nat → Prop := fun i => 5 ≤ i
def Asked (w : World) (ω : Nat → Nat) (bb T k db rb : Nat) (d : Dsk) (w' : World) : Prop := ∃ ω' hN wN hF wF, BO w' ω' bb (T + 1) hN wN hF wF ∧ PR w' ω' k db rb d ∧ Ev KB w ω w' ω'
theorem Asked.of {w w' : World} {ω : Nat → Nat} {bb T k db rb : Nat} {d : Dsk} {hN wN hF wF : Value} (hb : BO w ω bb T hN wN hF wF) (hp : PR w ω k db rb d) (hk : 1 ≤ k ∧ k ≤ 3) (t : Tch (fun _ => False) w w') : Asked w ω bb T k db rb d w' := by
  have e : Ev KB w ω w' (ext ω w.heap.size 16) := Ev.ofNo 16 (by show 5 ≤ 16; omega) t
  have e0 : Ev (fun i => i = 16) w ω w' (ext ω w.heap.size 16) := Ev.ofNo 16 rfl t
  exact ⟨_, _, _, _, _, (hb.ev e0 (fun i h1 _ h => by omega)).up, hp.ev e0 (by omega) (by omega), e⟩

/-- The boxes of a pair and a step. -/
theorem boxes {w w1 : World} {pc oc : Array Value} {tp to : TypeId} (h : w1 = (w.alloc (.cells pc tp)).alloc (.cells oc to)) : ∀ W, Tch (fun _ => False) w1 W → (∀ j, W.cell? ⟨w.heap.size, j, none⟩ = pc[j]?) ∧ ∀ j, W.cell? ⟨w.heap.size + 1, j, none⟩ = oc[j]? := fun W t => by
  have h1 : w1.heap[w.heap.size]? = some (.cells pc tp (0, 0)) := by
    rw [h]
    exact (heap_alloc_old _ _ (by simp)).trans (box_one w _)
  have h2 : w1.heap[w.heap.size + 1]? = some (.cells oc to (0, 0)) := by
    rw [h]
    have := box_one (w.alloc (.cells pc tp)) (.cells oc to)
    simpa using this
  have k1 := (t.block _ (blk_lt h1) (fun h => h)).trans h1
  have k2 := (t.block _ (blk_lt h2) (fun h => h)).trans h2
  exact ⟨blk_cell k1, blk_cell k2⟩
theorem rfree_f (rb : Nat) (d : Dsk) (F : Nat → Prop) (w : World) (h : RF w rb d F) (hB : Bd d) : Calls Tryz.prog 46 #[.pointer (some ⟨rb, 0, none⟩)] w fun x w' => x = .returned (.int .i64 ((d.cap : Int) - d.used)) ∧ w' = w := by
  obtain ⟨v, acts, h, _⟩ := h
  have h1 := hB.len
  have h2 := hB.room
  have h3 := hB.cap
  exact rfree_any rb d v acts w h (by omega) (by omega) h3

section
variable (bb T k db rb : Nat) (d : Dsk) (c N M : Int) (tw : Bool) (nm S : ByteArray) (lo : Option Addr) (ln lc : Nat) (hN wN hF wF : Value) (ω : Nat → Nat) (w : World)

set_option maxHeartbeats 2000000 in
theorem asks_read (hb : BO w ω bb T hN wN hF wF) (hp : PR w ω k db rb d) (hk : 1 ≤ k ∧ k ≤ 3) (hl : (d.m.length + 1) * 40 ≤ 140737488355328) (hn1 : N ≤ 9223372036854775807) (hm1 : M ≤ 9223372036854775807) :
    Calls Tryz.prog 31 #[pairV db rb c, .pointer (some ⟨bb, 0, none⟩), opV 3 N M tw nm S lo ln lc] w fun x w' => x = .returned (.bool true) ∧ Asked w ω bb T k db rb d w' := by
  have HE : Hid (∀ W, Tch (fun _ => False) w W → Asked w ω bb T k db rb d W) := fun W t => Asked.of hb hp hk t
  have hB := Bd.of hp.df hl
  have HD : Hid (∀ W, Tch (fun _ => False) w W → DF W db d (oth ω k w)) := fun W t => hp.df.no t
  have HR : Hid (∀ W, Tch (fun _ => False) w W → RF W rb d (oth ω (k + 1) w)) := fun W t => hp.rf.no t
  obtain ⟨w1, hw1⟩ : ∃ w1, w1 = (w.alloc (.cells (pairC db rb c) 26)).alloc (.cells (opC 3 N M tw nm S lo ln lc) 41) := ⟨_, rfl⟩
  have t1 : Tch (fun _ => False) w w1 := by rw [hw1]; exact box2_no _ _ _
  have hbx := boxes hw1 w1 (Tch.refl _ _)
  have hr1 := read_f db d _ w1 nm N M (HD.out w1 t1) hm1
  have hr2 := rread_f rb d _ w1 nm N M (HR.out w1 t1) hB hn1 hm1
  generalize (⟨(d.read nm.data.toList N M).1.toArray⟩ : ByteArray) = X at *
  generalize (d.read nm.data.toList N M).2 = E at *
  clear hb hp
  go_enter Tryz.func31, Tryz.ntmps31
  go_wp2_with fail
  rw [← hw1]
  refine hr1.mono ?_
  rintro x wA ⟨rfl, hwA⟩
  have hwA' := hwA.symm
  subst hwA'
  have p0 : w1.cell? ⟨w.heap.size, 0, none⟩ = some (.pointer (some ⟨db, 0, none⟩)) := hbx.1 0
  have p1 : w1.cell? ⟨w.heap.size, 1, none⟩ = some (.pointer (some ⟨rb, 0, none⟩)) := hbx.1 1
  have o1 : w1.cell? ⟨w.heap.size + 1, 1, none⟩ = some (.int .i64 N) := hbx.2 1
  have o2 : w1.cell? ⟨w.heap.size + 1, 2, none⟩ = some (.int .i64 M) := hbx.2 2
  have o4 : w1.cell? ⟨w.heap.size + 1, 4, none⟩ = some (.string nm) := hbx.2 4
  clear hr1 hwA hw1 hbx
  go_wp2_with fail
  refine hr2.mono ?_
  rintro x w2 ⟨rfl, m2, hw2⟩
  have HT : Hid (Tch (fun _ => False) w w2) := by rw [hw2]; exact t1.drewN m2
  clear hr2 hw2
  go_wp2
  go_ret
  exact ⟨rfl, HE.out _ HT.out⟩

set_option maxHeartbeats 2000000 in
theorem asks_size (hb : BO w ω bb T hN wN hF wF) (hp : PR w ω k db rb d) (hk : 1 ≤ k ∧ k ≤ 3) (hl : (d.m.length + 1) * 40 ≤ 140737488355328) :
    Calls Tryz.prog 31 #[pairV db rb c, .pointer (some ⟨bb, 0, none⟩), opV 4 N M tw nm S lo ln lc] w fun x w' => x = .returned (.bool true) ∧ Asked w ω bb T k db rb d w' := by
  have HE : Hid (∀ W, Tch (fun _ => False) w W → Asked w ω bb T k db rb d W) := fun W t => Asked.of hb hp hk t
  have hB := Bd.of hp.df hl
  have HD : Hid (∀ W, Tch (fun _ => False) w W → DF W db d (oth ω k w)) := fun W t => hp.df.no t
  have HR : Hid (∀ W, Tch (fun _ => False) w W → RF W rb d (oth ω (k + 1) w)) := fun W t => hp.rf.no t
  obtain ⟨w1, hw1⟩ : ∃ w1, w1 = (w.alloc (.cells (pairC db rb c) 26)).alloc (.cells (opC 4 N M tw nm S lo ln lc) 41) := ⟨_, rfl⟩
  have t1 : Tch (fun _ => False) w w1 := by rw [hw1]; exact box2_no _ _ _
  have hbx := boxes hw1 w1 (Tch.refl _ _)
  have hr1 := size_f db d _ w1 nm (HD.out w1 t1)
  have hr2 := rsize_f rb d _ w1 nm (HR.out w1 t1) hB
  generalize (d.size nm.data.toList).1 = X at *
  generalize (d.size nm.data.toList).2 = E at *
  clear hb hp
  go_enter Tryz.func31, Tryz.ntmps31
  go_wp2_with fail
  rw [← hw1]
  refine hr1.mono ?_
  rintro x wA ⟨rfl, hwA⟩
  have hwA' := hwA.symm
  subst hwA'
  have p0 : w1.cell? ⟨w.heap.size, 0, none⟩ = some (.pointer (some ⟨db, 0, none⟩)) := hbx.1 0
  have p1 : w1.cell? ⟨w.heap.size, 1, none⟩ = some (.pointer (some ⟨rb, 0, none⟩)) := hbx.1 1
  have o1 : w1.cell? ⟨w.heap.size + 1, 1, none⟩ = some (.int .i64 N) := hbx.2 1
  have o2 : w1.cell? ⟨w.heap.size + 1, 2, none⟩ = some (.int .i64 M) := hbx.2 2
  have o4 : w1.cell? ⟨w.heap.size + 1, 4, none⟩ = some (.string nm) := hbx.2 4
  clear hr1 hwA hw1 hbx
  go_wp2_with fail
  refine hr2.mono ?_
  rintro x w2 ⟨rfl, m2, hw2⟩
  have HT : Hid (Tch (fun _ => False) w w2) := by rw [hw2]; exact t1.drewN m2
  clear hr2 hw2
  go_wp2
  go_ret
  exact ⟨rfl, HE.out _ HT.out⟩

set_option maxHeartbeats 2000000 in
theorem asks_free (hb : BO w ω bb T hN wN hF wF) (hp : PR w ω k db rb d) (hk : 1 ≤ k ∧ k ≤ 3) (hl : (d.m.length + 1) * 40 ≤ 140737488355328) :
    Calls Tryz.prog 31 #[pairV db rb c, .pointer (some ⟨bb, 0, none⟩), opV 10 N M tw nm S lo ln lc] w fun x w' => x = .returned (.bool true) ∧ Asked w ω bb T k db rb d w' := by
  have HE : Hid (∀ W, Tch (fun _ => False) w W → Asked w ω bb T k db rb d W) := fun W t => Asked.of hb hp hk t
  have hB := Bd.of hp.df hl
  have HD : Hid (∀ W, Tch (fun _ => False) w W → DF W db d (oth ω k w)) := fun W t => hp.df.no t
  have HR : Hid (∀ W, Tch (fun _ => False) w W → RF W rb d (oth ω (k + 1) w)) := fun W t => hp.rf.no t
  obtain ⟨w1, hw1⟩ : ∃ w1, w1 = (w.alloc (.cells (pairC db rb c) 26)).alloc (.cells (opC 10 N M tw nm S lo ln lc) 41) := ⟨_, rfl⟩
  have t1 : Tch (fun _ => False) w w1 := by rw [hw1]; exact box2_no _ _ _
  have hbx := boxes hw1 w1 (Tch.refl _ _)
  have H1 : Hid (∀ q, _) := fun q => free_f db d _ (w1.drewN q) (HD.out (w1.drewN q) (t1.drewN q))
  have H2 : Hid (∀ q, _) := fun q => rfree_f rb d _ (w1.drewN q) (HR.out (w1.drewN q) (t1.drewN q)) hB
  generalize (d.cap : Int) - d.used = X at *
  clear hb hp
  have p0 : w1.cell? ⟨w.heap.size, 0, none⟩ = some (.pointer (some ⟨db, 0, none⟩)) := hbx.1 0
  have p1 : w1.cell? ⟨w.heap.size, 1, none⟩ = some (.pointer (some ⟨rb, 0, none⟩)) := hbx.1 1
  have o1 : w1.cell? ⟨w.heap.size + 1, 1, none⟩ = some (.int .i64 N) := hbx.2 1
  have o2 : w1.cell? ⟨w.heap.size + 1, 2, none⟩ = some (.int .i64 M) := hbx.2 2
  have o4 : w1.cell? ⟨w.heap.size + 1, 4, none⟩ = some (.string nm) := hbx.2 4
  go_enter Tryz.func31, Tryz.ntmps31
  go_wp2_with fail
  rw [← hw1]
  clear hw1 hbx
  go_quiet ((first | (go_at_call 40; exact Calls.quiet_of (H1.out _)) | (go_at_call 46; exact Calls.quiet_of_same (H2.out _))))
  go_wp2
  go_ret
  exact ⟨rfl, HE.out _ (t1.drewN _)⟩

set_option maxHeartbeats 2000000 in
theorem asks_dead (hb : BO w ω bb T hN wN hF wF) (hp : PR w ω k db rb d) (hk : 1 ≤ k ∧ k ≤ 3) (hl : (d.m.length + 1) * 40 ≤ 140737488355328) :
    Calls Tryz.prog 31 #[pairV db rb c, .pointer (some ⟨bb, 0, none⟩), opV 13 N M tw nm S lo ln lc] w fun x w' => x = .returned (.bool true) ∧ Asked w ω bb T k db rb d w' := by
  have HE : Hid (∀ W, Tch (fun _ => False) w W → Asked w ω bb T k db rb d W) := fun W t => Asked.of hb hp hk t
  have hB := Bd.of hp.df hl
  have HD : Hid (∀ W, Tch (fun _ => False) w W → DF W db d (oth ω k w)) := fun W t => hp.df.no t
  have HR : Hid (∀ W, Tch (fun _ => False) w W → RF W rb d (oth ω (k + 1) w)) := fun W t => hp.rf.no t
  obtain ⟨w1, hw1⟩ : ∃ w1, w1 = (w.alloc (.cells (pairC db rb c) 26)).alloc (.cells (opC 13 N M tw nm S lo ln lc) 41) := ⟨_, rfl⟩
  have t1 : Tch (fun _ => False) w w1 := by rw [hw1]; exact box2_no _ _ _
  have hbx := boxes hw1 w1 (Tch.refl _ _)
  have H1 : Hid (∀ q, _) := fun q => dead_f db d _ (w1.drewN q) (HD.out (w1.drewN q) (t1.drewN q))
  have H2 : Hid (∀ q, _) := fun q => rdead_f rb d _ (w1.drewN q) (HR.out (w1.drewN q) (t1.drewN q))
  generalize d.dead = X at *
  clear hb hp
  have p0 : w1.cell? ⟨w.heap.size, 0, none⟩ = some (.pointer (some ⟨db, 0, none⟩)) := hbx.1 0
  have p1 : w1.cell? ⟨w.heap.size, 1, none⟩ = some (.pointer (some ⟨rb, 0, none⟩)) := hbx.1 1
  have o1 : w1.cell? ⟨w.heap.size + 1, 1, none⟩ = some (.int .i64 N) := hbx.2 1
  have o2 : w1.cell? ⟨w.heap.size + 1, 2, none⟩ = some (.int .i64 M) := hbx.2 2
  have o4 : w1.cell? ⟨w.heap.size + 1, 4, none⟩ = some (.string nm) := hbx.2 4
  go_enter Tryz.func31, Tryz.ntmps31
  go_wp2_with fail
  rw [← hw1]
  clear hw1 hbx
  go_quiet ((first | (go_at_call 68; exact Calls.quiet_of_same (H1.out _)) | (go_at_call 69; exact Calls.quiet_of_same (H2.out _))))
  go_wp2
  go_ret
  exact ⟨rfl, HE.out _ (t1.drewN _)⟩

set_option maxHeartbeats 2000000 in
theorem asks_pending (hb : BO w ω bb T hN wN hF wF) (hp : PR w ω k db rb d) (hk : 1 ≤ k ∧ k ≤ 3) (hl : (d.m.length + 1) * 40 ≤ 140737488355328) (hs : nm.size ≤ maxLen) :
    Calls Tryz.prog 31 #[pairV db rb c, .pointer (some ⟨bb, 0, none⟩), opV 14 N M tw nm S lo ln lc] w fun x w' => x = .returned (.bool true) ∧ Asked w ω bb T k db rb d w' := by
  have HE : Hid (∀ W, Tch (fun _ => False) w W → Asked w ω bb T k db rb d W) := fun W t => Asked.of hb hp hk t
  have hB := Bd.of hp.df hl
  have HD : Hid (∀ W, Tch (fun _ => False) w W → DF W db d (oth ω k w)) := fun W t => hp.df.no t
  have HR : Hid (∀ W, Tch (fun _ => False) w W → RF W rb d (oth ω (k + 1) w)) := fun W t => hp.rf.no t
  obtain ⟨w1, hw1⟩ : ∃ w1, w1 = (w.alloc (.cells (pairC db rb c) 26)).alloc (.cells (opC 14 N M tw nm S lo ln lc) 41) := ⟨_, rfl⟩
  have t1 : Tch (fun _ => False) w w1 := by rw [hw1]; exact box2_no _ _ _
  have hbx := boxes hw1 w1 (Tch.refl _ _)
  have H1 : Hid (∀ q, _) := fun q => pending_f db d _ (w1.drewN q) nm (HD.out (w1.drewN q) (t1.drewN q)) hs
  have H2 : Hid (∀ q, _) := fun q => rpending_f rb d _ (w1.drewN q) nm (HR.out (w1.drewN q) (t1.drewN q)) hB
  generalize (d.pending nm.data.toList : Int) = X at *
  clear hb hp
  have p0 : w1.cell? ⟨w.heap.size, 0, none⟩ = some (.pointer (some ⟨db, 0, none⟩)) := hbx.1 0
  have p1 : w1.cell? ⟨w.heap.size, 1, none⟩ = some (.pointer (some ⟨rb, 0, none⟩)) := hbx.1 1
  have o1 : w1.cell? ⟨w.heap.size + 1, 1, none⟩ = some (.int .i64 N) := hbx.2 1
  have o2 : w1.cell? ⟨w.heap.size + 1, 2, none⟩ = some (.int .i64 M) := hbx.2 2
  have o4 : w1.cell? ⟨w.heap.size + 1, 4, none⟩ = some (.string nm) := hbx.2 4
  go_enter Tryz.func31, Tryz.ntmps31
  go_wp2_with fail
  rw [← hw1]
  clear hw1 hbx
  go_quiet ((first | (go_at_call 35; exact Calls.quiet_of (H1.out _)) | (go_at_call 29; exact Calls.quiet_of (H2.out _))))
  go_wp2
  go_ret
  exact ⟨rfl, HE.out _ (t1.drewN _)⟩
end
end Go.Proofs.YtjambfbibeihiaaGreat
