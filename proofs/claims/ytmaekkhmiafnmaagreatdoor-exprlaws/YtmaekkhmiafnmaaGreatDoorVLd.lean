import Derived.Shelf.Strings.Trim
import Derived.Shelf.Small.Strs
import Derived.Shelf.LaysM
import Derived.Shelf.Strconv.Itoa3
import Derived.Shelf.LaysC
import Derived.Shelf.Strconv.AtoiAll
import Derived.Shelf.Strconv.ErrVarAll
import Derived.Shelf.Strings.Prefix
import Derived.Test.YtmaekkhmiafnmaaGreatDoorProg
import Derived.Test.YtmaekkhmiafnmaaGreatDoorVLit
import Derived.Test.YtmaekkhmiafnmaaGreatDoorVN
import Derived.Lib.AtoiErrMem
import Derived.Lib.ItoaLen
import Derived.Lib.ItoaMem
set_option maxRecDepth 100000
namespace Go.Proofs
open Go.Shelf
def Tryz.laysBS_ren : Go.Shelf.Ren := ⟨fun | 169 => 57 | n => n, fun | 70 => 117 | 9 => 9 | 0 => 0 | 72 => 120 | 37 => 118 | 127 => 148 | 3 => 3 | 5 => 5 | n => n, fun | n => n⟩
end Go.Proofs
namespace Go.Proofs.YtmaekkhmiafnmaaGreatDoor
open Go.RowKit Go Go.Lib
def i64v (n : Int) : Prop := -9223372036854775808 ≤ n ∧ n ≤ 9223372036854775807
structure HV (w : World) : Prop where
  tab : Lib.TabIs Tryz.prog w "internal/strconv.uint64pow10" .u64 Lib.pow10Tab
  syn : ∃ tp p, w.var? Tryz.prog "strconv.ErrSyntax" = some #[.iface tp p]
  rng : ∃ tp p, w.var? Tryz.prog "strconv.ErrRange" = some #[.iface tp p]
theorem var_no {P : Program} {w w' : World} {name : String} {cs : Array Value} (h : w.var? P name = some cs) (t : Tch (fun _ => False) w w') : w'.var? P name = some cs := by
  unfold World.var? at h ⊢
  cases hg : P.globalNamed name with
  | none => rw [hg] at h; simp at h
  | some g =>
    rw [hg] at h
    simp only [Option.bind_some] at h ⊢
    cases hb : w.heap[g]? with
    | none => rw [hb] at h; simp at h
    | some o =>
      rw [t.block g (Array.getElem?_eq_some_iff.1 hb).1 (fun h => h)]
      exact h
theorem HV.no {w w' : World} (h : HV w) (t : Tch (fun _ => False) w w') : HV w' :=
  ⟨var_no h.tab t, h.syn.imp fun _ h => h.imp fun _ h => var_no h t, h.rng.imp fun _ h => h.imp fun _ h => var_no h t⟩
theorem HWd.no {w w' : World} (h : HWd w) (t : Tch (fun _ => False) w w') : HWd w' := h.tch t (fun h => h)
theorem tch_grow (w : World) (k : Nat) (os : Array Obj) : Tch (fun _ => False) w (Sort.grow (w.drewN k) os) := by
  have t1 : Tch (fun _ => False) w (w.drewN k) := (Tch.refl _ _).drewN k
  refine t1.trans' ⟨rfl, rfl, rfl, by show _ ≤ (_ ++ os).size; simp, fun i hi _ => ?_⟩
  exact Sort.heap_grow_old _ _ hi
theorem itoa_any (n : Int) (hn : i64v n) (w : World) (h : HV w) : Calls Tryz.prog 82 #[.int .i64 n] w fun x w' => x = .returned (.string ⟨(Lib.itoa n).toArray⟩) ∧ Tch (fun _ => False) w w' :=
  (Any.strconv_Itoa Tryz.laysIt n hn.1 hn.2 w h.tab).mono (fun e w' ⟨he, k, os, hw⟩ => ⟨he, by rw [hw]; exact tch_grow w k os⟩)
theorem below_no {w w' : World} (h : Below w.heap.size w w') : Tch (fun _ => False) w w' := Tch.of_below h (Nat.le_refl _)
theorem sat_i64 (l : List UInt8) : i64v (Lib.atoiSat l) := by unfold Lib.atoiSat i64v; split <;> omega
theorem ok_i64 {l : List UInt8} {v : Int} (h : Lib.atoiAll l = .ok v) : i64v v := by
  unfold Lib.atoiAll at h
  cases l with
  | nil => cases h
  | cons c r =>
    simp only at h
    split at h
    · cases h
    · cases h
    · split at h
      · cases h
      · split at h
        · cases h
        · injection h with h
          unfold i64v
          subst h
          split <;> omega
theorem atoi_any (s : ByteArray) (hs : s.size ≤ 1048576) (w : World) (h : HV w) :
    Calls Tryz.prog 176 #[.string s] w fun x w' => (∃ n ev, x = .returned (.tuple #[.int .i64 n, ev]) ∧ (ev = .nilIface ∨ ∃ t N, ev = .iface t (.pointer (some ⟨N, 0, none⟩))) ∧ i64v n ∧ ∀ m, Lib.atoiAll s.data.toList = .ok m → n = m) ∧ Tch (fun _ => False) w w' := by
  cases ha : Lib.atoiAll s.data.toList with
  | ok v =>
    refine (Any.strconv_Atoi_ok Tryz.laysAt s (by omega) v ha w).mono (fun e w' ⟨he, hw⟩ => ⟨⟨v, _, he, Or.inl rfl, ok_i64 ha, fun m hm => by injection hm⟩, ?_⟩)
    rcases hw with hw | ⟨t, hw⟩
    · rw [hw]; exact Tch.refl _ _
    · rw [hw]; exact below_no (Lib.bytesWorld_below _ _ _)
  | «syntax» =>
    obtain ⟨tp, p, hv⟩ := h.syn
    exact (Any.strconv_Atoi_syntax_var Tryz.laysAt s (by omega) ha tp p w hv).mono (fun e w' ⟨N, he, _, _, hb⟩ => ⟨⟨0, _, he, Or.inr ⟨_, _, rfl⟩, by unfold i64v; omega, fun m hm => by cases hm⟩, below_no hb⟩)
  | range =>
    obtain ⟨tp, p, hv⟩ := h.rng
    exact (Any.strconv_Atoi_range_var Tryz.laysAt s (by omega) ha tp p w hv).mono (fun e w' ⟨N, he, _, _, hb⟩ => ⟨⟨_, _, he, Or.inr ⟨_, _, rfl⟩, sat_i64 _, fun m hm => by cases hm⟩, below_no hb⟩)
theorem index16 (b : UInt8) : IntKind.u8.wrap (Lib.indexByte [48, 49, 50, 51, 52, 53, 54, 55, 56, 57, 97, 98, 99, 100, 101, 102] b) = (sgC b : Nat) := by
  have : ∀ i : Fin 256, IntKind.u8.wrap (Lib.indexByte [48, 49, 50, 51, 52, 53, 54, 55, 56, 57, 97, 98, 99, 100, 101, 102] (UInt8.ofNat i.1)) = (sgC (UInt8.ofNat i.1) : Nat) := by decide +kernel
  have h := this ⟨b.toNat, b.toNat_lt⟩
  simpa using h
theorem sign_any (b : UInt8) (w : World) : Calls Tryz.prog 196 #[.int .u8 b.toNat] w fun x w' => x = .returned (.int .u8 (sgC b : Nat)) ∧ w' = w := by
  have q := Any.strings_IndexByte Tryz.laysIB ⟨#[48, 49, 50, 51, 52, 53, 54, 55, 56, 57, 97, 98, 99, 100, 101, 102]⟩ (b.toNat : Int) w
  have e : ((b.toNat : Int)).toNat.toUInt8 = b := by simp
  rw [e] at q
  have HI : Hid (IntKind.u8.wrap (Lib.indexByte [48, 49, 50, 51, 52, 53, 54, 55, 56, 57, 97, 98, 99, 100, 101, 102] b) = (sgC b : Nat)) := index16 b
  obtain ⟨j, hj⟩ : ∃ j, j = Lib.indexByte [48, 49, 50, 51, 52, 53, 54, 55, 56, 57, 97, 98, 99, 100, 101, 102] b := ⟨_, rfl⟩
  have q' : Calls Tryz.prog 217 #[.string ⟨#[48, 49, 50, 51, 52, 53, 54, 55, 56, 57, 97, 98, 99, 100, 101, 102]⟩, .int .u8 b.toNat] w fun e w' => e = .returned (.int .i64 j) ∧ w' = w := by rw [hj]; exact q
  rw [← hj] at HI
  clear q hj e
  go_enter Tryz.func196, Tryz.ntmps196
  go_wp2_with fail
  refine q'.mono ?_
  rintro y w1 ⟨rfl, hw1⟩
  obtain rfl := hw1.symm
  clear hw1 q'
  go_wp2_with fail
  go_ret
  have h := HI.out
  rw [IntKind.wrap_u8] at h
  refine ⟨?_, rfl⟩
  show Ending.returned (.int .u8 (j % 256)) = _
  rw [h]
end Go.Proofs.YtmaekkhmiafnmaaGreatDoor
namespace Go.Proofs.YtmaekkhmiafnmaaGreatDoor
open Go.RowKit Go Go.Lib
theorem wrap_of {n : Int} (h1 : -9223372036854775808 ≤ n) (h2 : n ≤ 9223372036854775807) : IntKind.i64.wrap n = n := by
  simp [IntKind.wrap, IntKind.signed, IntKind.bits]; omega
end Go.Proofs.YtmaekkhmiafnmaaGreatDoor
