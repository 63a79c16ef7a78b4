import Derived.Test.YteaagnlhkopgdaaGreatDoorProg
import Derived.WalkKit
import Derived.LaidEql
import Derived.Stop.Asserts
import Derived.RowKitTokens
import Derived.WalkSpells
import Derived.WalkLawsBesides
import Derived.Deep.DeepMust
import Derived.Outline
import Derived.Deep.QuietTactic
import Derived.BigQuiet
import Derived.Lib.Strings
set_option maxHeartbeats 4000000
namespace Go.Proofs.YteaagnlhkopgdaaGreatDoor
open Go.RowKit Go.Extern.Stop Go.Stop Go.Extern
theorem as_nil (t : Value) (w : World) :
    Calls Tryz.prog 68 #[.nilIface, t] w fun e w' => e = .returned (.bool false) ∧ w' = w := by
  go_enter Tryz.func68, Tryz.ntmps68
  go_wp2
  go_ret
  exact ⟨rfl, rfl⟩
theorem rl_valueOfP (t : Addr) (w : World) : (ReflectliteValue.unpack (.iface 130 (.pointer (some t)))).run Tryz.prog w
    = .ok (.agg #[.pointer (some ⟨1, 130, none⟩), .pointer (some ⟨w.heap.size, 0, none⟩), .int .u64 150]) (w.alloc (.cells #[.pointer (some t)] 130)) := by kernel_rfl
theorem rl_typeP (a : Addr) (w : World) : (ReflectliteValue.methodAny (ReflectliteValue.valueError "reflectlite.Value.Type" 0) (fun t _ _ _ => ReflectliteType.toType t) #[.agg #[.pointer (some ⟨1, 130, none⟩), .pointer (some a), .int .u64 150]]).run Tryz.prog w
    = .ok (.iface 157 (.agg #[.pointer (some ⟨1, 130, none⟩)])) w := by kernel_rfl
theorem rl_methodKind (h : Value) (w : World) : (Go.method 318 157 (.agg #[h]) "Kind").run Tryz.prog w = .ok (102, h) w := by kernel_rfl
theorem rl_kindP (w : World) : ((ReflectliteType.abiMethod fun t => (fun a : Nat => Value.int IntKind.u8 (a : Int)) <$> Rtype.kind t) #[.pointer (some ⟨1, 130, none⟩)]).run Tryz.prog w = .ok (.int .u8 22) w := by kernel_rfl
theorem rl_kindE (w : World) : ((ReflectliteType.abiMethod fun t => (fun a : Nat => Value.int IntKind.u8 (a : Int)) <$> Rtype.kind t) #[.pointer (some ⟨1, 128, none⟩)]).run Tryz.prog w = .ok (.int .u8 25) w := by kernel_rfl
theorem rlm (z : Sem Value) (f : TypeId → Addr → Nat → Nat → Sem Value) (v : Value) :
    ReflectliteValue.method z f #[v] = (do match ← ReflectliteValue.parts v with | none => z | some (t, a, fl) => f t a fl (fl % 32)) := rfl
theorem rl_partsP (a : Addr) (w : World) : (ReflectliteValue.parts (.agg #[.pointer (some ⟨1, 130, none⟩), .pointer (some a), .int .u64 150])).run Tryz.prog w = .ok (some (130, a, 150)) w := by kernel_rfl
theorem rl_isNilP (a p : Addr) (W : World) (ha : W.cell? a = some (.pointer (some p))) :
    (ReflectliteValue.method (ReflectliteValue.valueError "reflectlite.Value.IsNil" 0) ReflectliteValue.isNil #[.agg #[.pointer (some ⟨1, 130, none⟩), .pointer (some a), .int .u64 150]]).run Tryz.prog W = .ok (.bool false) W := by
  rw [rlm]
  simp only [Sem.run_bind, rl_partsP, Result.andThen]
  simp [ReflectliteValue.isNil, loadVar, isAgg, underlying, Tryz.underlying130, ha, Result.andThen]
theorem rl_methodElem (h : Value) (w : World) : (Go.method 318 157 (.agg #[h]) "Elem").run Tryz.prog w = .ok (185, .agg #[h]) w := by kernel_rfl
theorem rl_methodImplements (h : Value) (w : World) : (Go.method 318 157 (.agg #[h]) "Implements").run Tryz.prog w = .ok (186, .agg #[h]) w := by kernel_rfl
theorem rl_methodAssignableTo (h : Value) (w : World) : (Go.method 318 157 (.agg #[h]) "AssignableTo").run Tryz.prog w = .ok (183, .agg #[h]) w := by kernel_rfl
theorem rl_elemP (w : World) : (ReflectliteType.method ReflectliteType.elem #[.agg #[.pointer (some ⟨1, 130, none⟩)]]).run Tryz.prog w = .ok (.iface 157 (.agg #[.pointer (some ⟨1, 128, none⟩)])) w := by kernel_rfl
theorem rl_implementsE (w : World) : (ReflectliteType.relation "Implements" ReflectliteType.implements_ #[.agg #[.pointer (some ⟨1, 128, none⟩)], .iface 157 (.agg #[.pointer (some ⟨1, 108, none⟩)])]).run Tryz.prog w = .ok (.bool true) w := by kernel_rfl
theorem rl_typeOfE (v : Value) (w : World) : (ReflectliteType.typeOf #[.iface 128 v]).run Tryz.prog w = .ok (.iface 157 (.agg #[.pointer (some ⟨1, 128, none⟩)])) w := by kernel_rfl
theorem rl_assignableE (w : World) : (ReflectliteType.relation "AssignableTo" ReflectliteType.assignableTo #[.agg #[.pointer (some ⟨1, 128, none⟩)], .iface 157 (.agg #[.pointer (some ⟨1, 128, none⟩)])]).run Tryz.prog w = .ok (.bool true) w := by kernel_rfl
theorem rl_valueOfE (c : Value) (w : World) : (ReflectliteValue.unpack (.iface 128 (.agg #[c]))).run Tryz.prog w
    = .ok (.agg #[.pointer (some ⟨1, 128, none⟩), .pointer (some ⟨w.heap.size, 0, none⟩), .int .u64 153]) (w.alloc (.cells #[c] 128)) := by kernel_rfl
theorem rl_elemOfP (w : World) : (Rtype.elem? 130).run Tryz.prog w = .ok (some 128) w := by kernel_rfl
theorem rl_mkE (p : Addr) (w : World) : (ReflectliteValue.mk 128 p ReflectliteValue.flagAddr).run Tryz.prog w = .ok (.agg #[.pointer (some ⟨1, 128, none⟩), .pointer (some p), .int .u64 409]) w := by kernel_rfl
theorem rl_elemVP (a p : Addr) (W : World) (ha : W.cell? a = some (.pointer (some p))) :
    (ReflectliteValue.method (ReflectliteValue.valueError "reflectlite.Value.Elem" 0) ReflectliteValue.elem #[.agg #[.pointer (some ⟨1, 130, none⟩), .pointer (some a), .int .u64 150]]).run Tryz.prog W
      = .ok (.agg #[.pointer (some ⟨1, 128, none⟩), .pointer (some p), .int .u64 409]) W := by
  rw [rlm]
  simp only [Sem.run_bind, rl_partsP, Result.andThen]
  simp [ReflectliteValue.elem, loadVar, isAgg, underlying, Tryz.underlying130, ha, Result.andThen, rl_elemOfP, rl_mkE]
theorem rls (v x : Value) : ReflectliteValue.set #[v, x] = (do
    let (some (dst, a, fl), some (src, b, _)) := (← ReflectliteValue.parts v, ← ReflectliteValue.parts x)
      | unsupported (.noEntry "extern/(internal/reflectlite.Value).Set.zeroValue")
    if fl / ReflectliteValue.flagAddr % 2 == 0 then unsupported (.noEntry "extern/(internal/reflectlite.Value).Set.unaddressable")
    let val ← loadVar src b
    if ← Rtype.directlyAssignable dst src then storeVar dst a val
    else if ← Rtype.implements dst src then
      if (← Rtype.kind src) == 20 then
        match val with
        | .nilIface => unsupported (.noEntry "extern/reflectlite: a nil value of one interface type handed on as a value of another")
        | _ => storeVar dst a val
      else storeVar dst a (.iface src val)
    else panicString ("reflectlite.Set: value of type " ++ (← Rtype.spelt src) ++ " is not assignable to type " ++ (← Rtype.spelt dst))
    pure (.tuple #[])) := rfl
theorem rl_partsEa (a : Addr) (w : World) : (ReflectliteValue.parts (.agg #[.pointer (some ⟨1, 128, none⟩), .pointer (some a), .int .u64 409])).run Tryz.prog w = .ok (some (128, a, 409)) w := by kernel_rfl
theorem rl_partsE (a : Addr) (w : World) : (ReflectliteValue.parts (.agg #[.pointer (some ⟨1, 128, none⟩), .pointer (some a), .int .u64 153])).run Tryz.prog w = .ok (some (128, a, 153)) w := by kernel_rfl
theorem rl_directE (w : World) : (Rtype.directlyAssignable 128 128).run Tryz.prog w = .ok true w := by kernel_rfl
theorem rl_sizeE (w : World) : (sizeOf 128).run Tryz.prog w = .ok 1 w := by kernel_rfl
theorem rl_setE (ta b : Addr) (c : Int) (old : Value) (W : World) (hb : W.cell? b = some (.int .i64 c)) (ht : W.cell? ta = some old) (hf : W.frozen? ta = false) :
    (ReflectliteValue.set #[.agg #[.pointer (some ⟨1, 128, none⟩), .pointer (some ta), .int .u64 409], .agg #[.pointer (some ⟨1, 128, none⟩), .pointer (some b), .int .u64 153]]).run Tryz.prog W
      = .ok (.tuple #[]) (W.setCell ta (.int .i64 c)) := by
  rw [rls]
  simp only [Sem.run_bind, rl_partsEa, rl_partsE, Result.andThen]
  have hl : (loadVar 128 b).run Tryz.prog W = .ok (.agg #[.int .i64 c]) W := by
    simp [loadVar, isAgg, underlying, Tryz.underlying128, loadCells, loadCellsFrom, Addr.add, hb, Result.andThen]
  have hs : (storeVar 128 ta (.agg #[.int .i64 c])).run Tryz.prog W = .ok () (W.setCell ta (.int .i64 c)) := by
    unfold storeVar
    simp only [Sem.run_bind, rl_sizeE, Result.andThen]
    have hz : ((Value.agg #[Value.int .i64 c]).cells.size ≠ 1) = False := by simp [Value.cells]
    have hz2 : (Value.agg #[Value.int .i64 c]).cells.toList = [Value.int .i64 c] := by simp [Value.cells]
    simp only [hz, if_false, hz2, storeCells, Sem.run_bind, Addr.add]
    rw [run_store Tryz.prog W _ _ _ (by rfl)]
    simp [ht, hf, Result.andThen]
  simp [ReflectliteValue.flagAddr, hl, hs, Result.andThen, rl_directE]
theorem as_hit (c c0 : Int) (t : Addr) (w : World) (hg : w.cell? ⟨0, 0, none⟩ = some (.iface 157 (.agg #[.pointer (some ⟨1, 108, none⟩)]))) (ht0 : w.cell? t = some (.int .i64 c0)) (hf0 : w.frozen? t = false) :
    Calls Tryz.prog 68 #[.iface 128 (.agg #[.int .i64 c]), .iface 130 (.pointer (some t))] w fun ev w' => ev = .returned (.bool true) ∧ w' = ((((w.alloc (.cells #[.pointer (some t)] 130)).alloc (.cells #[.pointer (some ⟨1, 130, none⟩), .pointer (some ⟨w.heap.size, 0, none⟩), .int .u64 150] 143)).alloc (.cells #[.pointer (some ⟨1, 130, none⟩), .pointer (some ⟨w.heap.size, 0, none⟩), .int .u64 150] 143)).alloc (.cells #[.int .i64 c] 128)).setCell t (.int .i64 c) := by
  have h6 := @run_callFunc_extern Tryz.prog 79 _ (fun args => ReflectliteValue.unpack (args.getD 0 (.tuple #[]))) Tryz.func79 (by kernel_rfl) (by kernel_rfl) (by kernel_rfl) (by kernel_rfl)
  have h7 := @run_callFunc_extern Tryz.prog 80 _ (ReflectliteValue.methodAny (ReflectliteValue.valueError "reflectlite.Value.Type" 0) (fun t _ _ _ => ReflectliteType.toType t)) Tryz.func80 (by kernel_rfl) (by kernel_rfl) (by kernel_rfl) (by kernel_rfl)
  have h8 := @run_callFunc_extern Tryz.prog 81 _ (ReflectliteValue.method (ReflectliteValue.valueError "reflectlite.Value.IsNil" 0) ReflectliteValue.isNil) Tryz.func81 (by kernel_rfl) (by kernel_rfl) (by kernel_rfl) (by kernel_rfl)
  have h27 := @run_callFunc_extern Tryz.prog 102 _ (ReflectliteType.abiMethod fun t => do pure (.int .u8 (← Rtype.kind t))) Tryz.func102 (by kernel_rfl) (by kernel_rfl) (by kernel_rfl) (by kernel_rfl)
  have h37 := @run_callFunc_extern Tryz.prog 185 _ (ReflectliteType.method ReflectliteType.elem) Tryz.func185 (by kernel_rfl) (by kernel_rfl) (by kernel_rfl) (by kernel_rfl)
  have h38 := @run_callFunc_extern Tryz.prog 186 _ (ReflectliteType.relation "Implements" ReflectliteType.implements_) Tryz.func186 (by kernel_rfl) (by kernel_rfl) (by kernel_rfl) (by kernel_rfl)
  have h10 := @run_callFunc_extern Tryz.prog 85 _ ReflectliteType.typeOf Tryz.func85 (by kernel_rfl) (by kernel_rfl) (by kernel_rfl) (by kernel_rfl)
  have h35 := @run_callFunc_extern Tryz.prog 183 _ (ReflectliteType.relation "AssignableTo" ReflectliteType.assignableTo) Tryz.func183 (by kernel_rfl) (by kernel_rfl) (by kernel_rfl) (by kernel_rfl)
  have h11 := @run_callFunc_extern Tryz.prog 86 _ (ReflectliteValue.method (ReflectliteValue.valueError "reflectlite.Value.Elem" 0) ReflectliteValue.elem) Tryz.func86 (by kernel_rfl) (by kernel_rfl) (by kernel_rfl) (by kernel_rfl)
  have h12 := @run_callFunc_extern Tryz.prog 87 _ ReflectliteValue.set Tryz.func87 (by kernel_rfl) (by kernel_rfl) (by kernel_rfl) (by kernel_rfl)
  have tO := rl_typeOfE
  have mA := rl_methodAssignableTo
  have aE := rl_assignableE
  have vE := rl_valueOfE
  have f6 := rl_valueOfP
  have f7 := rl_typeP
  have mK := rl_methodKind
  have mE := rl_methodElem
  have mI := rl_methodImplements
  have kP := rl_kindP
  have kE := rl_kindE
  have eP := rl_elemP
  have iE := rl_implementsE
  have n8 := rl_isNilP ⟨w.heap.size, 0, none⟩ t ((w.alloc (.cells #[.pointer (some t)] 130)).alloc (.cells #[.pointer (some ⟨1, 130, none⟩), .pointer (some ⟨w.heap.size, 0, none⟩), .int .u64 150] 143)) (by simp)
  have hlt : 0 < w.heap.size := by
    rcases Nat.lt_or_ge 0 w.heap.size with h | h
    · exact h
    · simp [World.cell?, Array.getElem?_eq_none h] at hg
  have hg2 : ((w.alloc (.cells #[.pointer (some t)] 130)).alloc (.cells #[.pointer (some ⟨1, 130, none⟩), .pointer (some ⟨w.heap.size, 0, none⟩), .int .u64 150] 143)).cell? ⟨0, 0, none⟩ = some (.iface 157 (.agg #[.pointer (some ⟨1, 108, none⟩)])) := by
    rw [World.cell?_alloc_lt _ _ ⟨0, 0, none⟩ (by first | (simp; done) | (simp; omega)), World.cell?_alloc_lt _ _ ⟨0, 0, none⟩ hlt]; exact hg
  have htl : t.block < w.heap.size := by
    rcases Nat.lt_or_ge t.block w.heap.size with h | h
    · exact h
    · simp [World.cell?, Array.getElem?_eq_none h] at ht0
  have el := rl_elemVP ⟨w.heap.size, 0, none⟩ t (((w.alloc (.cells #[.pointer (some t)] 130)).alloc (.cells #[.pointer (some ⟨1, 130, none⟩), .pointer (some ⟨w.heap.size, 0, none⟩), .int .u64 150] 143)).alloc (.cells #[.pointer (some ⟨1, 130, none⟩), .pointer (some ⟨w.heap.size, 0, none⟩), .int .u64 150] 143)) (by rw [World.cell?_alloc_lt _ _ ⟨w.heap.size, 0, none⟩ (by simp; omega)]; simp)
  have st := rl_setE t ⟨w.heap.size + 1 + 1 + 1, 0, none⟩ c (.int .i64 c0) ((((w.alloc (.cells #[.pointer (some t)] 130)).alloc (.cells #[.pointer (some ⟨1, 130, none⟩), .pointer (some ⟨w.heap.size, 0, none⟩), .int .u64 150] 143)).alloc (.cells #[.pointer (some ⟨1, 130, none⟩), .pointer (some ⟨w.heap.size, 0, none⟩), .int .u64 150] 143)).alloc (.cells #[.int .i64 c] 128))
    (by rw [World.cell?_alloc_at _ _ _ _ (by simp)]; rfl)
    (by rw [World.cell?_alloc_lt _ _ t (by simp; omega), World.cell?_alloc_lt _ _ t (by simp; omega), World.cell?_alloc_lt _ _ t (by simp; omega), World.cell?_alloc_lt _ _ t htl]; exact ht0)
    (by rw [World.frozen?_alloc_old _ _ t (by simp; omega), World.frozen?_alloc_old _ _ t (by simp; omega), World.frozen?_alloc_old _ _ t (by simp; omega), World.frozen?_alloc_old _ _ t (Nat.ne_of_lt htl)]; exact hf0)
  go_enter Tryz.func68, Tryz.ntmps68
  go_wp2
  refine wp_loop_rounds 1 ?_
  rw [rounds_succ]
  go_wp2
  go_ret
  exact ⟨rfl, rfl⟩
end Go.Proofs.YteaagnlhkopgdaaGreatDoor
namespace Go.Proofs.YteaagnlhkopgdaaGreatDoor
open Go.RowKit
structure Tch (S : Nat → Prop) (w w' : World) : Prop where
  os : w'.os = w.os
  tape : w'.tape = w.tape
  output : w'.output = w.output
  size : w.heap.size ≤ w'.heap.size
  block : ∀ k, k < w.heap.size → ¬ S k → w'.heap[k]? = w.heap[k]?
theorem Tch.refl (S : Nat → Prop) (w : World) : Tch S w w := ⟨rfl, rfl, rfl, Nat.le_refl _, fun _ _ _ => rfl⟩
theorem Tch.trans {S T : Nat → Prop} {a b c : World} (h : Tch S a b) (k : Tch T b c) (hT : ∀ i, i < a.heap.size → T i → S i) : Tch S a c :=
  ⟨k.os.trans h.os, k.tape.trans h.tape, k.output.trans h.output, Nat.le_trans h.size k.size,
    fun i hi hn => (k.block i (Nat.lt_of_lt_of_le hi h.size) (fun ht => hn (hT i hi ht))).trans (h.block i hi hn)⟩
theorem Tch.trans' {S : Nat → Prop} {a b c : World} (h : Tch S a b) (k : Tch S b c) : Tch S a c := h.trans k (fun _ _ h => h)
theorem Tch.mono {S T : Nat → Prop} {a b : World} (h : Tch S a b) (hT : ∀ i, i < a.heap.size → S i → T i) : Tch T a b :=
  ⟨h.os, h.tape, h.output, h.size, fun i hi hn => h.block i hi (fun hs => hn (hT i hi hs))⟩
theorem Tch.drew {S : Nat → Prop} {a b : World} (h : Tch S a b) : Tch S a b.drew := ⟨h.os, h.tape, h.output, h.size, h.block⟩
theorem Tch.drewN {S : Nat → Prop} {a b : World} (h : Tch S a b) (n : Nat) : Tch S a (b.drewN n) := by
  have hb : Below b.heap.size b (b.drewN n) := below_drewN (Below.refl _ _) n
  exact ⟨hb.os.trans h.os, hb.tape.trans h.tape, hb.output.trans h.output, Nat.le_trans h.size hb.size, fun i hi hn => (hb.block i (Nat.lt_of_lt_of_le hi h.size)).trans (h.block i hi hn)⟩
theorem Tch.of_below {S : Nat → Prop} {B : Nat} {a b : World} (h : Below B a b) (hB : a.heap.size ≤ B) : Tch S a b := ⟨h.os, h.tape, h.output, h.size, fun i hi _ => h.block i (by omega)⟩
theorem Tch.below {S : Nat → Prop} {B : Nat} {a b : World} (h : Tch S a b) (hB : B ≤ a.heap.size) (hS : ∀ k, k < B → ¬ S k) : Below B a b :=
  ⟨h.os, h.tape, h.output, h.size, fun i hi => h.block i (by omega) (hS i hi)⟩
theorem Tch.setCell (S : Nat → Prop) (w : World) (p : Addr) (v : Value) (hp : S p.block) : Tch S w (w.setCell p v) :=
  ⟨rfl, rfl, rfl, by simp [World.setCell], fun k _ hn => Below.heap_setCell _ _ _ _ (fun e => hn (e ▸ hp))⟩
theorem Tch.alloc (S : Nat → Prop) (w : World) (o : Obj) : Tch S w (w.alloc o) :=
  ⟨rfl, rfl, rfl, by simp, fun k hk _ => Below.heap_alloc _ _ _ hk⟩
theorem Tch.allocR {S : Nat → Prop} {a b : World} (h : Tch S a b) (o : Obj) : Tch S a (b.alloc o) := h.trans' (Tch.alloc S b o)
theorem Tch.setCellR {S : Nat → Prop} {a b : World} (h : Tch S a b) (p : Addr) (v : Value) (hp : S p.block) : Tch S a (b.setCell p v) := h.trans' (Tch.setCell S b p v hp)
theorem Tch.cell {S : Nat → Prop} {w w' : World} (h : Tch S w w') {p : Addr} (hp : p.block < w.heap.size) (hn : ¬ S p.block) : w'.cell? p = w.cell? p := World.cell?_of_block (w := w) (h.block p.block hp hn)
theorem Tch.frozen {S : Nat → Prop} {w w' : World} (h : Tch S w w') {p : Addr} (hp : p.block < w.heap.size) (hn : ¬ S p.block) : w'.frozen? p = w.frozen? p := World.frozen?_of_block (w := w) (h.block p.block hp hn)
theorem empty_of_size {r : ByteArray} (h : r.size = 0) : r.toList.isEmpty = true := by
  have : r.toList = [] := by
    rw [Lib.toList_data]; exact List.eq_nil_of_length_eq_zero (by simpa using h)
  rw [this]; rfl
theorem nonempty_of_size {r : ByteArray} (h : 0 < r.size) : r.toList.isEmpty = false := by
  rw [Lib.toList_data]
  cases hl : r.data.toList with
  | nil => have : r.data.toList.length = r.size := by simp
           rw [hl] at this; simp at this; omega
  | cons a t => rfl
theorem cell_lt {w : World} {p : Addr} {v : Value} (h : w.cell? p = some v) : p.block < w.heap.size := by
  rcases Nat.lt_or_ge p.block w.heap.size with h1 | h1
  · exact h1
  · simp [World.cell?, Array.getElem?_eq_none h1] at h
def HE (w : World) : Prop := w.cell? ⟨0, 0, none⟩ = some (.iface 157 (.agg #[.pointer (some ⟨1, 108, none⟩)]))
theorem HE.tch {S : Nat → Prop} {w w' : World} (h : HE w) (t : Tch S w w') (h0 : ¬ S 0) : HE w' := by
  unfold HE at *
  rw [t.cell (p := ⟨0, 0, none⟩) (cell_lt h) h0]; exact h
def errV : Int → Value := fun e => if e = 0 then .nilIface else .iface 128 (.agg #[.int .i64 e])
theorem errV_zero : errV 0 = .nilIface := rfl
theorem errV_ne {e : Int} (h : e ≠ 0) : errV e = .iface 128 (.agg #[.int .i64 e]) := by simp [errV, h]
end Go.Proofs.YteaagnlhkopgdaaGreatDoor
namespace Go.Proofs.YteaagnlhkopgdaaGreatDoor
open Go.RowKit
theorem codeOf_nil (w : World) :
    Calls Tryz.prog 55 #[.nilIface] w fun e w' => e = .returned (.int .i64 0) ∧ Below w.heap.size w w' := by
  go_enter Tryz.func55, Tryz.ntmps55
  go_wp2_with (go_at_call 68; refine (as_nil _ _).mono ?_; rintro e w' ⟨rfl, rfl⟩)
  go_ret
  exact ⟨rfl, (Below.refl _ _).alloc (Nat.le_refl _) _⟩
theorem codeOf_hit (c : Int) (w : World) (hg : HE w) :
    Calls Tryz.prog 55 #[.iface 128 (.agg #[.int .i64 c])] w fun e w' => e = .returned (.int .i64 c) ∧ Below w.heap.size w w' := by
  have hg1 : ∀ o, (w.alloc o).cell? ⟨0, 0, none⟩ = some (.iface 157 (.agg #[.pointer (some ⟨1, 108, none⟩)])) := by
    intro o
    rw [World.cell?_alloc_lt _ _ ⟨0, 0, none⟩ (cell_lt hg)]; exact hg
  go_enter Tryz.func55, Tryz.ntmps55
  go_wp2_with (go_at_call 68; refine (as_hit c 0 _ _ (hg1 _) (by simp) (by simp)).mono ?_; rintro e w' ⟨rfl, rfl⟩)
  go_ret
  exact ⟨rfl, (((((Below.refl _ _).alloc (Nat.le_refl _) _).alloc (by simp) _).alloc (by simp; omega) _).alloc (by simp; omega) _).alloc (by simp; omega) _⟩
theorem codeOf_any (c : Int) (w : World) (hg : HE w) :
    Calls Tryz.prog 55 #[errV c] w fun e w' => e = .returned (.int .i64 c) ∧ Below w.heap.size w w' := by
  by_cases h : c = 0
  · subst h; exact codeOf_nil w
  · rw [errV_ne h]; exact codeOf_hit c w hg
structure RS (w : World) (b : Nat) (r : ByteArray) (k : Int) (e : Int) : Prop where
  c0 : w.cell? ⟨b, 0, none⟩ = some (.string r)
  c1 : w.cell? ⟨b, 1, none⟩ = some (.int .i64 k)
  c2 : w.cell? ⟨b, 2, none⟩ = some (errV e)
  f0 : w.frozen? ⟨b, 0, none⟩ = false
  f1 : w.frozen? ⟨b, 1, none⟩ = false
  f2 : w.frozen? ⟨b, 2, none⟩ = false
theorem RS.tch {S : Nat → Prop} {w w' : World} {b : Nat} {r : ByteArray} {k e : Int} (h : RS w b r k e) (t : Tch S w w') (hb : ¬ S b) : RS w' b r k e := by
  have hl : b < w.heap.size := cell_lt h.c0
  exact ⟨(t.cell (p := ⟨b, 0, none⟩) hl hb).trans h.c0, (t.cell (p := ⟨b, 1, none⟩) hl hb).trans h.c1, (t.cell (p := ⟨b, 2, none⟩) hl hb).trans h.c2,
    (t.frozen (p := ⟨b, 0, none⟩) hl hb).trans h.f0, (t.frozen (p := ⟨b, 1, none⟩) hl hb).trans h.f1, (t.frozen (p := ⟨b, 2, none⟩) hl hb).trans h.f2⟩
theorem RS.set2 {w : World} {b : Nat} {r : ByteArray} {k c : Int} (h : RS w b r k 0) (hc : c ≠ 0) : RS (w.setCell ⟨b, 2, none⟩ (.iface 128 (.agg #[.int .i64 c]))) b r k c := by
  refine ⟨?_, ?_, ?_, by simpa using h.f0, by simpa using h.f1, by simpa using h.f2⟩
  · rw [World.cell?_setCell_other (h := by simp)]; exact h.c0
  · rw [World.cell?_setCell_other (h := by simp)]; exact h.c1
  · rw [World.cell?_setCell_same (h := h.c2), errV_ne hc]
theorem RS.set01 {w : World} {b : Nat} {r : ByteArray} {k e : Int} (h : RS w b r k e) (r' : ByteArray) (k' : Int) : RS ((w.setCell ⟨b, 0, none⟩ (.string r')).setCell ⟨b, 1, none⟩ (.int .i64 k')) b r' k' e := by
  refine ⟨?_, ?_, ?_, by simpa using h.f0, by simpa using h.f1, by simpa using h.f2⟩
  · rw [World.cell?_setCell_other (h := by simp), World.cell?_setCell_same (h := h.c0)]
  · have h1 : (w.setCell ⟨b, 0, none⟩ (.string r')).cell? ⟨b, 1, none⟩ = some (.int .i64 k) := by
      rw [World.cell?_setCell_other (h := by simp)]; exact h.c1
    rw [World.cell?_setCell_same (h := h1)]
  · rw [World.cell?_setCell_other (h := by simp), World.cell?_setCell_other (h := by simp)]; exact h.c2
theorem rfail_any (b : Nat) (r : ByteArray) (k c : Int) (w : World) (h : RS w b r k 0) (hc : c ≠ 0) :
    Calls Tryz.prog 49 #[.pointer (some ⟨b, 0, none⟩), .int .i64 c] w fun x w' => x = .returned (.tuple #[]) ∧ RS w' b r k c ∧ Tch (fun i => i = b) w w' := by
  have c2 := h.c2; have f2 := h.f2; rw [errV_zero] at c2
  go_enter Tryz.func49, Tryz.ntmps49
  go_wp2
  go_end0
  exact ⟨rfl, h.set2 hc, Tch.setCell _ _ _ _ rfl⟩
theorem skip_any (b : Nat) (r : ByteArray) (k n : Nat) (e : Int) (w : World) (h : RS w b r k e) (hn : n ≤ r.size) (hk : k + n ≤ 9223372036854775807) :
    Calls Tryz.prog 50 #[.pointer (some ⟨b, 0, none⟩), .int .i64 n] w fun x w' => x = .returned (.tuple #[]) ∧ RS w' b (r.extract n r.size) ((k + n : Nat) : Int) e ∧ Tch (fun i => i = b) w w' := by
  have c0 := h.c0; have c1 := h.c1; have f0 := h.f0; have f1 := h.f1
  go_enter Tryz.func50, Tryz.ntmps50
  go_wp2
  go_end0
  exact ⟨rfl, h.set01 _ _, Tch.trans' (Tch.setCell _ w ⟨b, 0, none⟩ _ rfl) (Tch.setCell _ _ ⟨b, 1, none⟩ _ rfl)⟩
theorem rdone_wrong (b : Nat) (r : ByteArray) (k e : Int) (w : World) (h : RS w b r k e) (hg : HE w) (he : e ≠ 0) :
    Calls Tryz.prog 152 #[.pointer (some ⟨b, 0, none⟩)] w fun x w' => x = .returned (.tuple #[.int .i64 e, .int .i64 k]) ∧ Tch (fun _ => False) w w' := by
  have c0 := h.c0; have c1 := h.c1; have c2 := h.c2
  have hl : b < w.heap.size := cell_lt h.c0
  have hn : (e != 0) = true := by simpa using he
  go_enter Tryz.func152, Tryz.ntmps152
  go_wp2_with (go_at_call 55; go_must (refine (codeOf_any e _ hg).mono ?_); rintro x w1 ⟨rfl, hb⟩; have d1 := (hb.cell (p := ⟨b, 1, none⟩) hl).trans c1; clear c0 c1 c2)
  go_quiet (fail)
  go_wp2
  go_ret2
  exact ⟨rfl, (Tch.of_below hb (Nat.le_refl _)).drewN _⟩
theorem rdone_more (b : Nat) (r : ByteArray) (k : Int) (w : World) (h : RS w b r k 0) (hg : HE w) (hr : 0 < r.size) :
    Calls Tryz.prog 152 #[.pointer (some ⟨b, 0, none⟩)] w fun x w' => x = .returned (.tuple #[.int .i64 13, .int .i64 k]) ∧ Tch (fun _ => False) w w' := by
  have c0 := h.c0; have c1 := h.c1; have c2 := h.c2
  have hl : b < w.heap.size := cell_lt h.c0
  have hne := nonempty_of_size hr
  go_enter Tryz.func152, Tryz.ntmps152
  go_wp2_with (go_at_call 55; go_must (refine (codeOf_any 0 _ hg).mono ?_); rintro x w1 ⟨rfl, hb⟩; have d1 := (hb.cell (p := ⟨b, 1, none⟩) hl).trans c1; have d0 := (hb.cell (p := ⟨b, 0, none⟩) hl).trans c0; clear c0 c1 c2)
  go_quiet (fail)
  go_wp2
  go_ret2
  exact ⟨rfl, (Tch.of_below hb (Nat.le_refl _)).drewN _⟩
theorem rdone_ok (b : Nat) (r : ByteArray) (k : Int) (w : World) (h : RS w b r k 0) (hg : HE w) (hr : r.size = 0) :
    Calls Tryz.prog 152 #[.pointer (some ⟨b, 0, none⟩)] w fun x w' => x = .returned (.tuple #[.int .i64 0, .int .i64 k]) ∧ Tch (fun _ => False) w w' := by
  have c0 := h.c0; have c1 := h.c1; have c2 := h.c2
  have hl : b < w.heap.size := cell_lt h.c0
  have he := empty_of_size hr
  go_enter Tryz.func152, Tryz.ntmps152
  go_wp2_with (go_at_call 55; go_must (refine (codeOf_any 0 _ hg).mono ?_); rintro x w1 ⟨rfl, hb⟩; have d1 := (hb.cell (p := ⟨b, 1, none⟩) hl).trans c1; have d0 := (hb.cell (p := ⟨b, 0, none⟩) hl).trans c0; clear c0 c1 c2)
  go_quiet (fail)
  go_wp2
  go_ret2
  exact ⟨rfl, (Tch.of_below hb (Nat.le_refl _)).drewN _⟩
def doneE (e : Int) (left : Nat) : Int := if e = 0 then (if left = 0 then 0 else 13) else e
theorem rdone_any (b : Nat) (r : ByteArray) (k e : Int) (w : World) (h : RS w b r k e) (hg : HE w) :
    Calls Tryz.prog 152 #[.pointer (some ⟨b, 0, none⟩)] w fun x w' => x = .returned (.tuple #[.int .i64 (doneE e r.size), .int .i64 k]) ∧ Tch (fun _ => False) w w' := by
  by_cases he : e = 0
  · subst he
    by_cases hr : r.size = 0
    · have := rdone_ok b r k w h hg hr
      simpa [doneE, hr] using this
    · have := rdone_more b r k w h hg (by omega)
      simpa [doneE, hr] using this
  · have := rdone_wrong b r k e w h hg he
    simpa [doneE, he] using this
end Go.Proofs.YteaagnlhkopgdaaGreatDoor
namespace Go.Proofs.YteaagnlhkopgdaaGreatDoor
def dgs (last top : Nat) : List UInt8 → Nat → Nat → Nat × Nat × Int
  | [], _, _ => (0, 0, 11)
  | b :: r, i, n =>
    if i + 1 = last ∧ top < b.toNat then (0, 0, 10)
    else if 128 ≤ b.toNat then dgs last top r (i + 1) (n + (b.toNat % 128) * 128 ^ i)
    else if b.toNat = 0 ∧ 0 < i then (0, 0, 14)
    else (n + (b.toNat % 128) * 128 ^ i, i + 1, 0)
theorem dgs_range {last top i n : Nat} {b : UInt8} {r : List UInt8} (h : i + 1 = last) (h' : top < b.toNat) : dgs last top (b :: r) i n = (0, 0, 10) := by
  simp [dgs, h, h']
theorem dgs_more {last top i n : Nat} {b : UInt8} {r : List UInt8} (h : ¬ (i + 1 = last ∧ top < b.toNat)) (h' : 128 ≤ b.toNat) : dgs last top (b :: r) i n = dgs last top r (i + 1) (n + (b.toNat % 128) * 128 ^ i) := by
  simp only [dgs]; rw [if_neg h, if_pos h']
theorem dgs_form {last top i n : Nat} {b : UInt8} {r : List UInt8} (h : ¬ (i + 1 = last ∧ top < b.toNat)) (h' : b.toNat = 0) (h2 : 0 < i) : dgs last top (b :: r) i n = (0, 0, 14) := by
  simp only [dgs]; rw [if_neg h, if_neg (by omega), if_pos ⟨h', h2⟩]
theorem dgs_end {last top i n : Nat} {b : UInt8} {r : List UInt8} (h : ¬ (i + 1 = last ∧ top < b.toNat)) (h' : b.toNat < 128) (h2 : ¬ (b.toNat = 0 ∧ 0 < i)) : dgs last top (b :: r) i n = (n + (b.toNat % 128) * 128 ^ i, i + 1, 0) := by
  simp only [dgs]; rw [if_neg h, if_neg (by omega), if_neg h2]
theorem p128 (i : Nat) : (128 : Nat) ^ i = 2 ^ (7 * i) := by rw [show (128 : Nat) = 2 ^ 7 from rfl, ← Nat.pow_mul]
theorem or_shl {n b i : Nat} (hn : n < 128 ^ i) : n ||| (b <<< (7 * i)) = n + b * 128 ^ i := by
  rw [p128] at *
  rw [Nat.shiftLeft_eq, Nat.or_comm, Nat.mul_comm, ← Nat.two_pow_add_eq_or_of_lt hn]
  omega
theorem step_lt {n b i : Nat} (hn : n < 128 ^ i) : n + (b % 128) * 128 ^ i < 128 ^ (i + 1) := by
  have h : b % 128 < 128 := Nat.mod_lt _ (by decide)
  have h2 : (b % 128) * 128 ^ i ≤ 127 * 128 ^ i := Nat.mul_le_mul_right _ (by omega)
  rw [Nat.pow_succ]; omega
theorem pow_le_of {i j : Nat} (h : i ≤ j) : (128 : Nat) ^ i ≤ 128 ^ j := Nat.pow_le_pow_right (by decide) h
theorem digit_fits {n b i last top : Nat} (hn : n < 128 ^ i) (hl : last ≤ 10) (hi : i < last) (ht : top ≤ 127) (h10 : last = 10 → top ≤ 1) (hb : ¬ (i + 1 = last ∧ top < b)) : n + (b % 128) * 128 ^ i < 18446744073709551616 := by
  by_cases h9 : i = 9
  · subst h9
    have hl' : last = 10 := by omega
    have hb1 : b ≤ 1 := by
      have := h10 hl'; omega
    have h1 : (b % 128) * 128 ^ 9 ≤ 1 * 128 ^ 9 := Nat.mul_le_mul_right _ (by omega)
    have h2 : (128 : Nat) ^ 9 = 9223372036854775808 := by decide
    omega
  · have h1 := step_lt (b := b) hn
    have h2 := pow_le_of (show i + 1 ≤ 9 by omega)
    have h3 : (128 : Nat) ^ 9 = 9223372036854775808 := by decide
    omega
theorem dgs_ok {last top : Nat} (hl : last ≤ 10) (ht : top ≤ 127) (h10 : last = 10 → top ≤ 1) : ∀ (l : List UInt8) (i n m k : Nat), n < 128 ^ i → i < last → dgs last top l i n = (m, k, 0) → k ≤ i + l.length ∧ i < k ∧ k ≤ last ∧ m < 18446744073709551616 ∧ m < 128 ^ k := by
  intro l
  induction l with
  | nil => intro i n m k _ _ h; simp [dgs] at h
  | cons b r ih =>
    intro i n m k hn hi h
    by_cases hA : i + 1 = last ∧ top < b.toNat
    · rw [dgs_range hA.1 hA.2] at h; simp at h
    · by_cases hB : 128 ≤ b.toNat
      · rw [dgs_more hA hB] at h
        obtain ⟨h1, h2, h3, h4⟩ := ih _ _ _ _ (step_lt hn) (by omega) h
        refine ⟨?_, by omega, h3, h4⟩
        simp only [List.length_cons]; omega
      · by_cases hz : b.toNat = 0 ∧ 0 < i
        · rw [dgs_form hA hz.1 hz.2] at h; simp at h
        · rw [dgs_end hA (by omega) hz] at h
          simp only [Prod.mk.injEq] at h
          obtain ⟨rfl, rfl, _⟩ := h
          exact ⟨by simp only [List.length_cons]; omega, by omega, by omega, digit_fits hn hl hi ht h10 hA, step_lt hn⟩
theorem dgs_zero {last top : Nat} : ∀ (l : List UInt8) (i n m k : Nat) (c : Int), dgs last top l i n = (m, k, c) → c ≠ 0 → m = 0 ∧ k = 0 ∧ (c = 10 ∨ c = 11 ∨ c = 14) := by
  intro l
  induction l with
  | nil => intro i n m k c h _; simp only [dgs, Prod.mk.injEq] at h; omega
  | cons b r ih =>
    intro i n m k c h hc
    by_cases hA : i + 1 = last ∧ top < b.toNat
    · rw [dgs_range hA.1 hA.2] at h; simp only [Prod.mk.injEq] at h; omega
    · by_cases hB : 128 ≤ b.toNat
      · rw [dgs_more hA hB] at h; exact ih _ _ _ _ _ h hc
      · by_cases hz : b.toNat = 0 ∧ 0 < i
        · rw [dgs_form hA hz.1 hz.2] at h; simp only [Prod.mk.injEq] at h; omega
        · rw [dgs_end hA (by omega) hz] at h; simp only [Prod.mk.injEq] at h; omega
def dgf : Nat → Nat → List UInt8
  | 0, _ => []
  | f + 1, n => if n < 128 then [UInt8.ofNat n] else UInt8.ofNat (n % 128 + 128) :: dgf f (n / 128)
def dg (n : Nat) : List UInt8 := dgf 10 n
theorem dgf_len : ∀ f n, (dgf f n).length ≤ f
  | 0, _ => by simp [dgf]
  | f + 1, n => by
    unfold dgf; split
    · simp
    · have := dgf_len f (n / 128); simp; omega
theorem dgf_last {f n : Nat} (h : n < 128) : dgf (f + 1) n = [UInt8.ofNat n] := by simp [dgf, h]
theorem dgf_more {f n : Nat} (h : ¬ n < 128) : dgf (f + 1) n = UInt8.ofNat (n % 128 + 128) :: dgf f (n / 128) := by rw [dgf, if_neg h]
def fol (n : Int) : Nat := if 0 ≤ n then (2 * n).toNat else (2 * (-(n + 1)) + 1).toNat
def upd (bs : List UInt8) (e : Int) (l : List UInt8) (c : Int) : List UInt8 × Int := if e ≠ 0 then (bs, e) else if c ≠ 0 then ([], c) else (bs ++ l, 0)
def numR (last top : Nat) (S : ByteArray) (a : Nat) (e : Int) : Nat × Nat × Int :=
  if e ≠ 0 then (0, a, e) else
  match dgs last top (S.data.toList.drop a) 0 0 with
  | (n, k, c) => if c = 0 then (n, a + k, 0) else (0, a, c)
theorem numR_wrong {last top : Nat} {S : ByteArray} {a : Nat} {e : Int} (h : e ≠ 0) : numR last top S a e = (0, a, e) := by simp [numR, h]
theorem numR_ok {last top : Nat} {S : ByteArray} {a n k : Nat} (h : dgs last top (S.data.toList.drop a) 0 0 = (n, k, 0)) : numR last top S a 0 = (n, a + k, 0) := by simp [numR, h]
theorem numR_bad {last top : Nat} {S : ByteArray} {a n k : Nat} {c : Int} (h : dgs last top (S.data.toList.drop a) 0 0 = (n, k, c)) (hc : c ≠ 0) : numR last top S a 0 = (0, a, c) := by simp [numR, h, hc]
theorem numR_lt {last top : Nat} (hl : last ≤ 10) (hl0 : 0 < last) (ht : top ≤ 127) (h10 : last = 10 → top ≤ 1) (S : ByteArray) (a : Nat) (e : Int) : (numR last top S a e).1 < 18446744073709551616 ∧ (last = 9 → (numR last top S a e).1 < 9223372036854775808) := by
  by_cases he : e = 0
  · subst he
    rcases hd : dgs last top (S.data.toList.drop a) 0 0 with ⟨n, k, c⟩
    by_cases hc : c = 0
    · subst hc
      rw [numR_ok hd]
      obtain ⟨_, _, h3, h4, h5⟩ := dgs_ok hl ht h10 _ _ _ _ _ (by decide) hl0 hd
      refine ⟨h4, fun h9 => ?_⟩
      have h2 := pow_le_of (show k ≤ 9 by omega)
      have h3 : (128 : Nat) ^ 9 = 9223372036854775808 := by decide
      show n < _
      omega
    · rw [numR_bad hd hc]; exact ⟨by simp, fun _ => by simp⟩
  · rw [numR_wrong he]; exact ⟨by simp, fun _ => by simp⟩
def unf (u : Nat) : Int := if u % 2 = 0 then (u / 2 : Nat) else -((u / 2 : Nat) : Int) - 1
def byteR (S : ByteArray) (a : Nat) (e : Int) : Nat × Nat × Int :=
  if e ≠ 0 then (0, a, e) else if a < S.size then ((S.data.toList.getD a 0).toNat, a + 1, 0) else (0, a, 11)
def rawR (n : Int) (S : ByteArray) (a : Nat) (e : Int) : ByteArray × Nat × Int :=
  if e ≠ 0 then (⟨#[]⟩, a, e) else if n < 0 then (⟨#[]⟩, a, 1) else if ((S.size - a : Nat) : Int) < n then (⟨#[]⟩, a, 11) else (S.extract a (a + n.toNat), a + n.toNat, 0)
def textR (most : Int) (S : ByteArray) (a : Nat) (e : Int) : ByteArray × Nat × Int :=
  if e ≠ 0 then (⟨#[]⟩, a, e) else if most < 0 then (⟨#[]⟩, a, 1) else
  match dgs 9 127 (S.data.toList.drop a) 0 0 with
  | (n, k, c) => if c ≠ 0 then (⟨#[]⟩, a, c) else if most < n then (⟨#[]⟩, a, 12) else if S.size - a - k < n then (⟨#[]⟩, a, 11) else (S.extract (a + k) (a + k + n), a + k + n, 0)
end Go.Proofs.YteaagnlhkopgdaaGreatDoor
