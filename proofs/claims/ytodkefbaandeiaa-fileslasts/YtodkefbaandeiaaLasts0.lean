/- FilesLasts: what it needs. -/
import Derived.Test.YtodkefbaandeiaaRoom
import Derived.Test.YtodkefbaandeiaaLoad
import Derived.Test.YtodkefbaandeiaaFiles
import Derived.Test.YtodkefbaandeiaaKeeps
namespace Go.Proofs.Ytodkefbaandeiaa
open Go.RowKit Go.ChangeMaps Go.Sort

/-- The files by their texts and how much of each lasts. -/
def fz (z : Nat → ByteArray) (la : Nat → Nat) : Nat → Fl := fun i => ⟨(z i).data.toList, la i⟩
def upd {α : Type} (f : Nat → α) (k : Nat) (x : α) : Nat → α := fun i => if i = k then x else f i
theorem upd_same {α : Type} (f : Nat → α) (k : Nat) (x : α) : upd f k x k = x := if_pos rfl
theorem upd_other {α : Type} (f : Nat → α) {k i : Nat} (x : α) (h : i ≠ k) : upd f k x i = f i := if_neg h
theorem updF_eq (f : Nat → Fl) (k : Nat) (x : Fl) : updF f k x = upd f k x := rfl
theorem fz_upd (z : Nat → ByteArray) (la : Nat → Nat) (k : Nat) (b : ByteArray) (l : Nat) {x : Fl} (hx : x = ⟨b.data.toList, l⟩) : updF (fz z la) k x = fz (upd z k b) (upd la k l) := by
  funext i
  by_cases e : i = k
  · subst e; rw [updF_same, hx]; simp [fz, upd_same]
  · rw [updF_other _ _ e]; simp [fz, upd_other _ _ e]
theorem fz_la (z : Nat → ByteArray) (la : Nat → Nat) (k : Nat) (l : Nat) {x : Fl} (hx : x = ⟨(z k).data.toList, l⟩) : updF (fz z la) k x = fz z (upd la k l) := by
  funext i
  by_cases e : i = k
  · subst e; rw [updF_same, hx]; simp [fz, upd_same]
  · rw [updF_other _ _ e]; simp [fz, upd_other _ _ e]
theorem fz_e0 : (fun _ => e0) = fz (fun _ => ⟨#[]⟩) (fun _ => 0) := rfl
def Z4 (z : Nat → ByteArray) : Nat := (z 0).size + (z 1).size + (z 2).size + (z 3).size
theorem used_fz (c : Nat) (z : Nat → ByteArray) (la : Nat → Nat) : (D4 c (fz z la)).used = Z4 z := by
  rw [d4_used]; simp [fz, Z4]
theorem Z4_upd (z : Nat → ByteArray) {k : Nat} (hk : k < 4) (b : ByteArray) : Z4 (upd z k b) = Z4 z - (z k).size + b.size := by
  unfold Z4
  rcases lt4 hk with rfl | rfl | rfl | rfl <;> simp [upd] <;> omega
theorem Z4_ge (z : Nat → ByteArray) {k : Nat} (hk : k < 4) : (z k).size ≤ Z4 z := by
  unfold Z4
  rcases lt4 hk with rfl | rfl | rfl | rfl <;> omega
theorem Z4_two (z : Nat → ByteArray) {k j : Nat} (hk : k < 4) (hj : j < 4) (h : k ≠ j) : (z k).size + (z j).size ≤ Z4 z := by
  unfold Z4
  rcases lt4 hk with rfl | rfl | rfl | rfl <;> rcases lt4 hj with rfl | rfl | rfl | rfl <;> first | exact absurd rfl h | omega

/-- A row of four texts at block sb. -/
def Txt4 (w : World) (sb : Nat) (z : Nat → ByteArray) : Prop := w.heap[sb]? = some (.cells #[.string (z 0), .string (z 1), .string (z 2), .string (z 3)] 9 (0, 0))
theorem Txt4.cell {w : World} {sb : Nat} {z : Nat → ByteArray} (h : Txt4 w sb z) {k : Nat} (hk : k < 4) : w.cell? ⟨sb, k, none⟩ = some (.string (z k)) := by
  rw [blk_cell h]
  rcases lt4 hk with rfl | rfl | rfl | rfl <;> rfl
theorem Txt4.fz {w : World} {sb : Nat} {z : Nat → ByteArray} (h : Txt4 w sb z) (k : Nat) : w.frozen? ⟨sb, k, none⟩ = false := blk_frozen h k
theorem Txt4.set {w : World} {sb : Nat} {z : Nat → ByteArray} (h : Txt4 w sb z) {k : Nat} (hk : k < 4) (v : ByteArray) : Txt4 (w.setCell ⟨sb, k, none⟩ (.string v)) sb (upd z k v) := by
  unfold Txt4
  rw [blk_set h]
  rcases lt4 hk with rfl | rfl | rfl | rfl <;> rfl
theorem Txt4.tch {w w' : World} {sb : Nat} {z : Nat → ByteArray} {S : Nat → Prop} (h : Txt4 w sb z) (t : Tch S w w') (hs : ¬ S sb) : Txt4 w' sb z := by
  unfold Txt4 at *
  rw [t.block sb (blk_lt h) hs]; exact h
theorem Four4.upd {w : World} {sb : Nat} {la : Nat → Nat} (h : Four4 w sb (fun i => (la i : Int))) {k : Nat} (hk : k < 4) {v : Int} {l : Nat} (hv : v = l) : Four4 (w.setCell ⟨sb, k, none⟩ (.int .i64 v)) sb (fun i => ((Go.Proofs.Ytodkefbaandeiaa.upd la k l i : Nat) : Int)) := by
  subst hv
  refine (h.set hk _).congr (fun i _ => ?_)
  by_cases e : i = k
  · simp [e, upd_same]
  · simp [e, upd_other _ _ e]
theorem info_str : (Try.prog.info? 9).map (fun i => (i.zero, i.size, i.bytes)) = some (some (.string ⟨#[]⟩), 1, 16) := by kernel_rfl
theorem info_keep : (Try.prog.info? 68).map (fun i => (i.zero, i.size, i.bytes)) = some (some (.agg #[.string ⟨#[]⟩, .int .i64 0]), 2, 24) := by kernel_rfl

/-- whole, of a disk of the four. -/
theorem whole_f (b : Nat) (c : Nat) (z : Nat → ByteArray) (la : Nat → Nat) (F : Nat → Prop) {k : Nat} (hk : k < 4) (w : World) (h : DF w b (D4 c (fz z la)) F) (hz : (z k).size ≤ 9223372036854775807) :
    Calls Try.prog 33 #[.pointer (some ⟨b, 0, none⟩), .string (fileB k)] w fun x w' => x = .returned (.tuple #[.string (z k), .bool true]) ∧ w' = w := by
  have hs := size_f b _ F w (fileB k) h
  have hr := read_f b _ F w (fileB k) 0 ((z k).size : Int) h (by omega)
  have es : (D4 c (fz z la)).size (nmF k) = (((z k).size : Int), 0) := by
    unfold Dsk.size
    rw [d4_ask c _ hk, if_neg (by simp), d4_file c _ hk]
    simp [fz]
  have er : (D4 c (fz z la)).read (nmF k) 0 ((z k).size : Int) = ((z k).data.toList, 0) := by
    unfold Dsk.read
    rw [d4_ask c _ hk, if_neg (by simp), d4_file c _ hk, if_neg (by simp [fz])]
    have h2 : (z k).size = (z k).data.toList.length := by simp
    simp only [fz, Int.toNat_zero, List.drop_zero, Int.toNat_natCast]
    rw [h2, List.take_length]
  rw [fileB_nm, es] at hs
  rw [fileB_nm, er] at hr
  have e2 : (⟨(z k).data.toList.toArray⟩ : ByteArray) = z k := by simp
  rw [e2] at hr
  simp only [] at hs hr
  clear es er e2 h
  go_enter Try.func33, Try.ntmps33
  go_wp2_with (first | (go_at_call 17; refine hs.mono ?_; rintro x w1 ⟨rfl, rfl⟩) | (go_at_call 18; refine hr.mono ?_; rintro x w1 ⟨rfl, rfl⟩))
  go_ret2
  exact ⟨rfl, rfl⟩

theorem pend4 (c : Nat) (z : Nat → ByteArray) (la : Nat → Nat) {k : Nat} (hk : k < 4) : (D4 c (fz z la)).pending (nmF k) = (z k).size - la k := by
  unfold Dsk.pending
  rw [d4_file c _ hk]
  simp [fz]

/-- The beginning of a text. -/
def cut (s : ByteArray) (n : Nat) : ByteArray := ⟨(s.data.toList.take n).toArray⟩
theorem cut_list (s : ByteArray) (n : Nat) : (cut s n).data.toList = s.data.toList.take n := by simp [cut]
theorem cut_size (s : ByteArray) {n : Nat} (h : n ≤ s.size) : (cut s n).size = n := by
  have h2 : s.size = s.data.toList.length := by simp
  have : (cut s n).size = (cut s n).data.toList.length := by simp
  rw [this, cut_list, List.length_take]; omega
theorem cut_ext (s : ByteArray) (n : Nat) : s.extract 0 n = cut s n := by
  apply ByteArray.ext
  rw [ByteArray.data_extract]
  apply Array.ext'
  rw [Array.toList_extract]
  simp [cut]

/-- The disk that is loaded of what lasts. -/
theorem nmAt4 (c : Nat) (f : Nat → Fl) {i : Nat} (hi : i < 4) : nmAt (D4 c f) i = fileB i := by
  rcases lt4 hi with rfl | rfl | rfl | rfl <;> rfl
theorem bsAt4 (c : Nat) (z : Nat → ByteArray) (la : Nat → Nat) {i : Nat} (hi : i < 4) : bsAt (D4 c (fz z la)) i = cut (z i) (la i) := by
  rcases lt4 hi with rfl | rfl | rfl | rfl <;> rfl
theorem mk3_four (c : Nat) (nm bs : Nat → ByteArray) (hn : ∀ i, i < 4 → nm i = fileB i) : mkD c (mk3 nm bs 4 4) = D4 c (fz bs (fun i => (bs i).size)) := by
  have h0 := hn 0 (by omega)
  have h1 := hn 1 (by omega)
  have h2 := hn 2 (by omega)
  have h3 := hn 3 (by omega)
  unfold mkD D4
  congr 1
  simp only [mk3, mk2, h0, h1, h2, h3]
  simp [fourL, fz]
  rfl
theorem loads4 (z : Nat → ByteArray) (nm : Nat → ByteArray) (hn : ∀ i, i < 4 → nm i = fileB i) (hz : Z4 z ≤ 100000) {e : Int} (h : LoadsBad (100000 : Nat) 4 nm z e) : False := by
  have h0 := hn 0 (by omega)
  have h1 := hn 1 (by omega)
  have h2 := hn 2 (by omega)
  have h3 := hn 3 (by omega)
  rcases h with ⟨h, _⟩ | ⟨_, ⟨⟨i, hi, h⟩, _⟩ | ⟨_, ⟨⟨i, hi, h⟩, _⟩ | ⟨_, ⟨i, hi, h⟩, _⟩⟩⟩
  · omega
  · rw [hn i hi] at h
    have := four_ok hi
    rw [show nmF i = (fileB i).data.toList from rfl, h] at this
    cases this
  · apply h
    rcases lt4 hi with rfl | rfl | rfl | rfl <;> simp only [mk2, h0, h1, h2, h3] <;> rfl
  · unfold Z4 at hz
    rcases lt4 hi with rfl | rfl | rfl | rfl <;> simp only [lens] at h <;> omega
end Go.Proofs.Ytodkefbaandeiaa
