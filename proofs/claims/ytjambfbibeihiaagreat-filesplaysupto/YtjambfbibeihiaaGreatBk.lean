import Derived.Test.YtjambfbibeihiaaGreatRef13
import Derived.Test.YtjambfbibeihiaaGreatBarv
import Derived.Deep.AppendLies
/- Who owns a block; the book: mark, same. -/
namespace Go.Proofs.YtjambfbibeihiaaGreat
set_option maxRecDepth 100000
open Go.RowKit Go.ChangeMaps Go.Sort

/-- From w and its owners on: only what is K's is turned, and changes its owner among K's. -/
structure Ev (K : Nat → Prop) (w : World) (ω : Nat → Nat) (w' : World) (ω' : Nat → Nat) : Prop where
  tch : Tch (fun i => K (ω i)) w w'
  old : ∀ i, i < w.heap.size → ω' i = ω i ∨ K (ω i) ∧ K (ω' i)
  new : ∀ i, w.heap.size ≤ i → i < w'.heap.size → K (ω' i)
theorem Ev.trans {K : Nat → Prop} {w w1 w2 : World} {ω ω1 ω2 : Nat → Nat} (h : Ev K w ω w1 ω1) (k : Ev K w1 ω1 w2 ω2) : Ev K w ω w2 ω2 := by
  have hs := h.tch.size
  refine ⟨h.tch.trans k.tch (fun i hi hk => ?_), fun i hi => ?_, fun i hi hi2 => ?_⟩
  · rcases h.old i hi with e | e
    · rw [← e]; exact hk
    · exact e.1
  · rcases h.old i hi with e | e
    · rcases k.old i (by omega) with e2 | e2
      · exact Or.inl (e2.trans e)
      · right; rw [← e]; exact e2
    · rcases k.old i (by omega) with e2 | e2
      · right; rw [e2]; exact e
      · exact Or.inr ⟨e.1, e2.2⟩
  · rcases Nat.lt_or_ge i w1.heap.size with h1 | h1
    · rcases k.old i h1 with e | e
      · rw [e]; exact h.new i hi h1
      · exact e.2
    · exact k.new i h1 hi2
theorem Ev.mono {K K' : Nat → Prop} {w w1 : World} {ω ω1 : Nat → Nat} (h : Ev K w ω w1 ω1) (hk : ∀ i, K i → K' i) : Ev K' w ω w1 ω1 :=
  ⟨h.tch.mono (fun _ _ h => hk _ h), fun i hi => (h.old i hi).imp id (fun e => ⟨hk _ e.1, hk _ e.2⟩), fun i h1 h2 => hk _ (h.new i h1 h2)⟩
theorem Ev.refl (K : Nat → Prop) (w : World) (ω : Nat → Nat) : Ev K w ω w ω := ⟨Tch.refl _ _, fun _ _ => Or.inl rfl, fun i h1 h2 => by omega⟩
/-- New blocks are k's. -/
def ext (ω : Nat → Nat) (n k : Nat) : Nat → Nat := fun i => if i < n then ω i else k
theorem ext_lt {ω : Nat → Nat} {n k i : Nat} (h : i < n) : ext ω n k i = ω i := if_pos h
theorem ext_ge {ω : Nat → Nat} {n k i : Nat} (h : n ≤ i) : ext ω n k i = k := if_neg (by omega)
theorem Ev.ofTch {K : Nat → Prop} {w w' : World} {ω : Nat → Nat} (k : Nat) (hk : K k) (t : Tch (fun i => K (ω i)) w w') : Ev K w ω w' (ext ω w.heap.size k) :=
  ⟨t, fun i hi => Or.inl (ext_lt hi), fun i h1 _ => by rw [ext_ge h1]; exact hk⟩
theorem Ev.ofNo {K : Nat → Prop} {w w' : World} {ω : Nat → Nat} (k : Nat) (hk : K k) (t : Tch (fun _ => False) w w') : Ev K w ω w' (ext ω w.heap.size k) := Ev.ofTch k hk (t.mono (fun _ _ h => h.elim))
theorem Ev.drewN {K : Nat → Prop} {w w' : World} {ω ω' : Nat → Nat} (h : Ev K w ω w' ω') (n : Nat) : Ev K w ω (w'.drewN n) ω' := ⟨h.tch.drewN n, h.old, h.new⟩

/-- All blocks that are not k's. -/
def oth (ω : Nat → Nat) (k : Nat) (w : World) : Nat → Prop := fun i => i < w.heap.size ∧ ω i ≠ k
theorem DF.ev {K : Nat → Prop} {w w' : World} {ω ω' : Nat → Nat} {b : Nat} {d : Dsk} {k : Nat} (h : DF w b d (oth ω k w)) (e : Ev K w ω w' ω') (hk : ¬ K k) : DF w' b d (oth ω' k w') := by
  obtain ⟨σ, h, hF⟩ := h
  have hs := e.tch.size
  refine ⟨σ, h.tch e.tch (fun i hi hs => (hF i ⟨hi, fun e => hk (e ▸ hs)⟩).1), fun i hi => ⟨?_, hi.1⟩⟩
  rcases Nat.lt_or_ge i w.heap.size with h1 | h1
  · refine (hF i ⟨h1, fun e1 => ?_⟩).1
    rcases e.old i h1 with e2 | e2
    · exact hi.2 (e2.trans e1)
    · exact hk (e1 ▸ e2.1)
  · cases hs : σ i with
    | none => rfl
    | some a => have := h.lt i (by rw [hs]; exact fun h => by cases h); omega
theorem RF.ev {K : Nat → Prop} {w w' : World} {ω ω' : Nat → Nat} {b : Nat} {d : Dsk} {k : Nat} (h : RF w b d (oth ω k w)) (e : Ev K w ω w' ω') (hk : ¬ K k) : RF w' b d (oth ω' k w') := by
  obtain ⟨v, acts, h, h1, h2, h3⟩ := h
  have hs := e.tch.size
  have own : ∀ g, g < w.heap.size → ¬ oth ω k w g → ω g = k := fun g hg hn => by
    by_cases e1 : ω g = k
    · exact e1
    · exact absurd ⟨hg, e1⟩ hn
  have own' : ∀ g, g < w.heap.size → ω g = k → ω' g = k := fun g hg e1 => by
    rcases e.old g hg with e2 | e2
    · exact e2.trans e1
    · exact absurd (e1 ▸ e2.1) hk
  have hb := own b h.lt h1
  refine ⟨v, acts, h.tch e.tch (fun hb' => hk (hb ▸ hb')) (fun g hg hb' => hk (own g (h.own.lt g hg).2 (h2 g hg).1 ▸ hb')), fun hf => hf.2 (own' b h.lt hb), fun g hg => ⟨fun hf => hf.2 (own' g (h.own.lt g hg).2 (own g (h.own.lt g hg).2 (h2 g hg).1)), (h2 g hg).2⟩, fun i hi => hi.1⟩
/-- Behind an act of its own. -/
theorem DF.did {w w' : World} {ω : Nat → Nat} {b : Nat} {d : Dsk} {k : Nat} (h : DF w' b d (oth ω k w)) (t : Kept (oth ω k w) w w') : DF w' b d (oth (ext ω w.heap.size k) k w') ∧ Ev (fun i => i = k) w ω w' (ext ω w.heap.size k) := by
  refine ⟨h.mono (fun i hi => ?_), Ev.ofTch k rfl (t.mono (fun i hi hn => ?_))⟩
  · rcases Nat.lt_or_ge i w.heap.size with h1 | h1
    · exact ⟨h1, by rw [← ext_lt (ω := ω) (k := k) h1]; exact hi.2⟩
    · exact absurd (ext_ge h1) hi.2
  · by_cases e : ω i = k
    · exact e
    · exact absurd ⟨hi, e⟩ hn
theorem RF.did {w w' : World} {ω : Nat → Nat} {b : Nat} {d : Dsk} {k : Nat} (h : RF w' b d (oth ω k w)) (t : Kept (oth ω k w) w w') : RF w' b d (oth (ext ω w.heap.size k) k w') ∧ Ev (fun i => i = k) w ω w' (ext ω w.heap.size k) := by
  refine ⟨?_, Ev.ofTch k rfl (t.mono (fun i hi hn => ?_))⟩
  · obtain ⟨v, acts, h, h1, h2, h3⟩ := h
    have key : ∀ g, oth (ext ω w.heap.size k) k w' g → oth ω k w g := fun i hi => by
      rcases Nat.lt_or_ge i w.heap.size with h1 | h1
      · exact ⟨h1, by rw [← ext_lt (ω := ω) (k := k) h1]; exact hi.2⟩
      · exact absurd (ext_ge h1) hi.2
    exact ⟨v, acts, h, fun hf => h1 (key _ hf), fun g hg => ⟨fun hf => (h2 g hg).1 (key _ hf), (h2 g hg).2⟩, fun i hi => hi.1⟩
  · by_cases e : ω i = k
    · exact e
    · exact absurd ⟨hi, e⟩ hn

/-- What mark tells. -/
def markB (n : Nat) : ByteArray := (⟨#[111, 118, 101, 114]⟩ : ByteArray) ++ ⟨#[UInt8.ofNat (n % 256), UInt8.ofNat (n / 256 % 256), UInt8.ofNat (n / 65536 % 256)]⟩
theorem conv_three (a b c : Nat) (w : World) (h1 : a ≤ 255) (h2 : b ≤ 255) (h3 : c ≤ 255) : (convert 74 9 (.slice (some ⟨w.heap.size, 0, none⟩) 3 3)).run Tryz.prog (w.alloc (.cells #[.int .u8 (a : Int), .int .u8 (b : Int), .int .u8 (c : Int)] 5)) = .ok (.string ⟨#[UInt8.ofNat a, UInt8.ofNat b, UInt8.ofNat c]⟩) (w.alloc (.cells #[.int .u8 (a : Int), .int .u8 (b : Int), .int .u8 (c : Int)] 5)) := by
  have hb := box_one w (.cells #[.int .u8 (a : Int), .int .u8 (b : Int), .int .u8 (c : Int)] 5)
  have := run_convert_bytes_back (P := Tryz.prog) (w.alloc (.cells #[.int .u8 (a : Int), .int .u8 (b : Int), .int .u8 (c : Int)] 5)) 74 9 5 ⟨w.heap.size, 0, none⟩ 3 [UInt8.ofNat a, UInt8.ofNat b, UInt8.ofNat c] Tryz.underlying74 Tryz.underlying5 Tryz.underlying9 (fun j hj => by
    have hj' : j < 3 := hj
    have ea : (UInt8.ofNat a).toNat = a := by simp; omega
    have eb : (UInt8.ofNat b).toNat = b := by simp; omega
    have ec : (UInt8.ofNat c).toNat = c := by simp; omega
    rcases (show j = 0 ∨ j = 1 ∨ j = 2 by omega) with rfl | rfl | rfl
    · rw [Addr.add_lit, blk_cell hb]; simp [ea]
    · rw [Addr.add_lit, blk_cell hb]; simp [eb]
    · rw [Addr.add_lit, blk_cell hb]; simp [ec])
  simpa using this
theorem mark_any (n : Nat) (w : World) :
    Calls Tryz.prog 33 #[.int .i64 n] w fun x w' => x = .returned (.string (markB n)) ∧ Tch (fun _ => False) w w' := by
  have hc := conv_three (n % 256) (n / 256 % 256) (n / 65536 % 256) w (by omega) (by omega) (by omega)
  have e1 : ((n % 256 : Nat) : Int) = (n : Int) % 256 := by omega
  have e2 : ((n / 256 % 256 : Nat) : Int) = (n : Int) / 256 % 256 := by omega
  have e3 : ((n / 65536 % 256 : Nat) : Int) = (n : Int) / 65536 % 256 := by omega
  rw [e1, e2, e3] at hc
  clear e1 e2 e3
  obtain ⟨mb, hmb⟩ : ∃ mb : ByteArray, mb = ⟨#[UInt8.ofNat (n % 256), UInt8.ofNat (n / 256 % 256), UInt8.ofNat (n / 65536 % 256)]⟩ := ⟨_, rfl⟩
  have hms : mb.size = 3 := by rw [hmb]; rfl
  have HM : Hid ((⟨#[111, 118, 101, 114]⟩ : ByteArray) ++ mb = markB n) := by show _ = _; rw [hmb]; rfl
  rw [← hmb] at hc
  clear hmb
  go_enter Tryz.func33, Tryz.ntmps33
  go_wp2
  go_ret
  exact ⟨by rw [← HM.out]; rfl, Tch.alloc _ _ _⟩

/-- The cells of a list of texts. -/
def SLs (w : World) (ao : Option Addr) (n : Nat) (nm : Nat → ByteArray) : Prop := ∀ i, i < n → ∃ b off, ao = some ⟨b, off, none⟩ ∧ w.cell? ⟨b, off + i, none⟩ = some (.string (nm i))
theorem SLs.tch {S : Nat → Prop} {w w' : World} {ao : Option Addr} {n : Nat} {nm : Nat → ByteArray} (h : SLs w ao n nm) (t : Tch S w w') (hS : ∀ i, i < w.heap.size → S i → ∀ a, ao = some a → a.block ≠ i) : SLs w' ao n nm := fun i hi => by
  obtain ⟨b, off, h1, h2⟩ := h i hi
  exact ⟨b, off, h1, (t.cell (p := ⟨b, _, none⟩) (cell_lt h2) (fun hs => hS b (cell_lt h2) hs _ h1 rfl)).trans h2⟩
theorem SLs.no {w w' : World} {ao : Option Addr} {n : Nat} {nm : Nat → ByteArray} (h : SLs w ao n nm) (t : Tch (fun _ => False) w w') : SLs w' ao n nm := h.tch t (fun _ _ h => h.elim)

set_option maxHeartbeats 2000000 in
theorem same_any (ao bo : Option Addr) (n ca cb : Nat) (nm : Nat → ByteArray) (w : World) (ha : SLs w ao n nm) (hb : SLs w bo n nm) (hn : n ≤ 9223372036854775807) :
    Calls Tryz.prog 78 #[.slice ao n ca, .slice bo n cb] w fun x w' => x = .returned (.bool true) ∧ ∃ m, w' = w.drewN m := by
  have HA : Hid (∀ m, SLs (w.drewN m) ao n nm) := fun m => ha.no ((Tch.refl _ w).drewN m)
  have HB : Hid (∀ m, SLs (w.drewN m) bo n nm) := fun m => hb.no ((Tch.refl _ w).drewN m)
  clear ha hb
  go_enter Tryz.func78, Tryz.ntmps78
  go_wp2_with fail
  go_loopw [5] (fun i wr => ∃ (k m : Nat), i = .int .i64 k ∧ k ≤ n ∧ wr = w.drewN m) (fun i _ => n - (intOf i).toNat)
  case atStart => exact ⟨0, 0, rfl, by omega, rfl⟩
  case round =>
    obtain ⟨k, m, rfl, hk, hwr⟩ := hrel
    by_cases hlt : (k : Int) < n
    · have hA := HA.out m
      have hB := HB.out m
      rw [← hwr] at hA hB
      obtain ⟨ab, off, rfl, a0⟩ := hA k (by omega)
      obtain ⟨bb, off', rfl, b0⟩ := hB k (by omega)
      clear hA hB
      have HW : Hid (wr = w.drewN m) := hwr
      clear hwr
      go_wp2_with fail
      go_quiet (fail)
      go_wp2
      go_roundw
      case rel => exact ⟨k + 1, m + nq, by go_num, by omega, by rw [HW.out, World.drewN_drewN]⟩
      case measure => simp [intOf]; omega
    · obtain rfl : n = k := by omega
      subst hwr
      go_wp2
      go_ret
      exact ⟨rfl, m, rfl⟩
end Go.Proofs.YtjambfbibeihiaaGreat
