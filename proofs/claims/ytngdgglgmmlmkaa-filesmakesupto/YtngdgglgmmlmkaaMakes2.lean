/- FilesMakes: its own lists; New of a wrong capacity. -/
import Derived.Test.YtngdgglgmmlmkaaMakes1
import Derived.Test.YtngdgglgmmlmkaaBarred
namespace Go.Proofs.Ytngdgglgmmlmkaa
open Go.RowKit Go.ChangeMaps Go.Sort

theorem new_arg (c : Int) (w : World) (h : c < 1 ∨ 1000000000 < c) :
    Calls Try.prog 22 #[.int .i64 c] w fun x w' => x = .returned (.tuple #[.pointer none, .int .i64 1]) ∧ w' = w := by
  have hl := load_arg c (.slice none 0 0) w h
  clear h
  go_enter Try.func22, Try.ntmps22
  go_wp2_with (go_at_call 28; refine hl.mono ?_; rintro x w1 ⟨rfl, rfl⟩)
  go_ret2
  exact ⟨rfl, rfl⟩

theorem length_mk3 (nm bs : Nat → ByteArray) (n : Nat) : (mk3 nm bs n n).length ≤ n := by
  have h2 := congrArg List.length (mk3_names nm bs n n)
  simp only [List.length_map] at h2
  rw [h2]; exact length_mk2 nm n
def nmL (i : Nat) : ByteArray := if i = 0 then ⟨#[97]⟩ else ⟨#[98]⟩
def bsL (i : Nat) : ByteArray := if i = 0 then ⟨#[49, 50, 51, 52, 53]⟩ else ⟨#[49, 50, 51, 52]⟩
theorem lt2 {k : Nat} (h : k < 2) : k = 0 ∨ k = 1 := by omega
theorem ok9 : LoadsOk 9 2 nmL bsL := by
  refine ⟨by omega, by omega, fun i hi => ?_, fun i hi => ?_, fun i hi => ?_⟩ <;> rcases lt2 hi with rfl | rfl <;> first | rfl | decide
theorem bad8 : LoadsBad (8 : Nat) 2 nmL bsL 23 := by
  refine Or.inr ⟨by omega, Or.inr ⟨fun i hi => ?_, Or.inr ⟨fun i hi => ?_, ⟨1, by omega, by decide⟩, rfl⟩⟩⟩ <;> rcases lt2 hi with rfl | rfl <;> rfl
theorem flsL {W : World} {sb : Nat} (hb : W.heap[sb]? = some (.cells #[.string ⟨#[97]⟩, .string ⟨#[49, 50, 51, 52, 53]⟩, .string ⟨#[98]⟩, .string ⟨#[49, 50, 51, 52]⟩] 60 (0, 0))) : FLs W (some ⟨sb, 0, none⟩) 2 nmL bsL := fun i hi => by
  refine ⟨sb, 0, rfl, ?_, ?_⟩ <;> rw [blk_cell hb] <;> rcases lt2 hi with rfl | rfl <;> rfl
theorem own9 (sb : Nat) (W : World) (hb : W.heap[sb]? = some (.cells #[.string ⟨#[97]⟩, .string ⟨#[49, 50, 51, 52, 53]⟩, .string ⟨#[98]⟩, .string ⟨#[49, 50, 51, 52]⟩] 60 (0, 0))) :
    Calls Try.prog 28 #[.int .i64 9, .slice (some ⟨sb, 0, none⟩) 2 2] W fun x w' => ∃ b, x = .returned (.tuple #[.pointer (some ⟨b, 0, none⟩), .int .i64 0]) ∧ Tch (fun _ => False) W w' :=
  (load_any 9 (some ⟨sb, 0, none⟩) 2 2 nmL bsL W (by omega) (by omega) (flsL hb) (by decide)).mono fun x w' ⟨hx, ht⟩ => by
    rcases hx with ⟨e, he, _⟩ | ⟨_, b, hx, _⟩
    · exact (he.not ok9).elim
    · exact ⟨b, hx, ht⟩
theorem own8 (sb : Nat) (W : World) (hb : W.heap[sb]? = some (.cells #[.string ⟨#[97]⟩, .string ⟨#[49, 50, 51, 52, 53]⟩, .string ⟨#[98]⟩, .string ⟨#[49, 50, 51, 52]⟩] 60 (0, 0))) :
    Calls Try.prog 28 #[.int .i64 8, .slice (some ⟨sb, 0, none⟩) 2 2] W fun x w' => x = .returned (.tuple #[.pointer none, .int .i64 23]) ∧ Tch (fun _ => False) W w' :=
  (load_any 8 (some ⟨sb, 0, none⟩) 2 2 nmL bsL W (by omega) (by omega) (flsL hb) (by decide)).mono fun x w' ⟨hx, ht⟩ => by
    rcases hx with ⟨e, he, hx⟩ | ⟨hok, _⟩
    · rw [he.uniq bad8] at hx
      exact ⟨hx, ht⟩
    · exact (bad8.not hok).elim
end Go.Proofs.Ytngdgglgmmlmkaa
