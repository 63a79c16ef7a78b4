import Derived.Test.YtkcmpipipelgoaaCCopy
import Derived.Maps.OwnSet
import Derived.DeepKeys4
import Derived.Test.YtkcmpipipelgoaaCTO
/- Maps as functions from keys to values. -/
namespace Go.Proofs.Ytkcmpipipelgoaa
open Go.RowKit Go Go.Maps
set_option maxRecDepth 100000

/-- How any value within a map reads: as itself. -/
def heldE (v : Value) : Option (DataW Value × List MemPlace) := some (.held v, [])
/-- Block b of w is a map of n entries; at the key kl stands f kl. -/
def MM (w : World) (k : TypeId) (b n : Nat) (f : Lit → Option Value) : Prop :=
  ∃ D : DataW Value, w.ownsMap Try.prog k heldE b n D ∧ Maps.size D = n ∧ ∀ kl, Maps.has D kl = (f kl).isSome ∧ ∀ v, f kl = some v → ∀ z, D.atKey kl z = .held v

theorem own_tight {w : World} {k : TypeId} {b n : Nat} {D : DataW Value} (h : w.ownsMap Try.prog k heldE b n D) : w.ownsMap Try.prog k heldE b (Maps.size D) D := by
  obtain ⟨es, clock, hb, F, hs, rfl⟩ := h
  refine ⟨es, clock, hb, F, ?_, rfl⟩
  simp [Maps.size, length_sorted]
theorem turned_tch {w w' : World} {b : Nat} (h : w.mapTurned w' b) : Tch (fun g => g = b) w w' := by
  have hg := h.grown
  exact ⟨hg.os, hg.tape, hg.output, hg.size, fun k hk hn => hg.block k hk (fun e => hn (by injection e))⟩
theorem MM.lt {w : World} {k : TypeId} {b n : Nat} {f : Lit → Option Value} (h : MM w k b n f) : b < w.heap.size := by
  obtain ⟨D, h, _⟩ := h
  exact h.lt
theorem MM.tch {S : Nat → Prop} {w w' : World} {k : TypeId} {b n : Nat} {f : Lit → Option Value} (h : MM w k b n f) (t : Tch S w w') (hS : ¬ S b) : MM w' k b n f := by
  obtain ⟨D, ⟨es, clock, hb, F⟩, h2⟩ := h
  exact ⟨D, ⟨es, clock, (t.block b (blk_lt hb) hS).trans hb, F⟩, h2⟩
theorem MM.made (w : World) (k : TypeId) : MM (w.alloc (.map #[] 0)) k w.heap.size 0 (fun _ => none) :=
  ⟨.map [], World.ownsMap_made w _ k _, rfl, fun kl => ⟨rfl, fun v h => by cases h⟩⟩
theorem MM.look {w : World} {k : TypeId} {b n : Nat} {f : Lit → Option Value} {t e : TypeId} (h : MM w k b n f) (K : Keyed Try.prog k) (ht : Try.prog.underlying t = some (.map k e)) {z : Value} (hz : (zeroValue e).run Try.prog w = .ok z w)
    {key : Value} {kl : Lit} (hkey : keyOf Try.prog k key = some kl) : (Instr.lookup t (.map (some b)) key false).run Try.prog w = .ok ((f kl).getD z) w := by
  obtain ⟨D, h, hn, hf⟩ := h
  obtain ⟨v, ps, hr, hv⟩ := h.lookup K ht hz (zd := .held z) (zp := []) rfl hkey
  obtain ⟨h1, h2⟩ := hf kl
  have e : v = (f kl).getD z := by
    have hv' : D.atKey kl (.held z) = .held v := by
      unfold heldE at hv
      simp only [Option.some.injEq, Prod.mk.injEq] at hv
      exact hv.1.symm
    cases hk : f kl with
    | none =>
      rw [hk] at h1
      rw [Maps.atKey_of_not_has h1] at hv'
      injection hv' with hv'
      exact hv'.symm
    | some u =>
      rw [h2 u hk] at hv'
      injection hv' with hv'
      exact hv'.symm
  rw [← e]
  exact hr
theorem MM.len {w : World} {k : TypeId} {b n : Nat} {f : Lit → Option Value} {t e : TypeId} (h : MM w k b n f) (ht : Try.prog.underlying t = some (.map k e)) (ty : TypeId) : (Builtin.len_ #[t] ty #[.map (some b)]).run Try.prog w = .ok (.int .i64 n) w := by
  obtain ⟨D, h, hn, hf⟩ := h
  rw [h.len ht ty, hn]
/-- Entries behind a store, behind a delete. -/
def putN (f : Lit → Option Value) (kl : Lit) (n : Nat) : Nat := if (f kl).isSome then n else n + 1
def delN (f : Lit → Option Value) (kl : Lit) (n : Nat) : Nat := if (f kl).isSome then n - 1 else n
theorem MM.put {w : World} {k : TypeId} {b n : Nat} {f : Lit → Option Value} {t e : TypeId} (h : MM w k b n f) (K : Keyed Try.prog k) (ht : Try.prog.underlying t = some (.map k e)) (hm : n < maxLen)
    {key : Value} {kl : Lit} (hkey : keyOf Try.prog k key = some kl) (val : Value) {f' : Lit → Option Value} (h1 : f' kl = some val) (h2 : ∀ x, x ≠ kl → f' x = f x) :
    ∃ w', (Instr.mapUpdate t (.map (some b)) key val).run Try.prog w = .ok () w' ∧ MM w' k b (putN f kl n) f' ∧ Tch (fun g => g = b) w w' := by
  obtain ⟨D, h, hn, hf⟩ := h
  obtain ⟨w', hr, ho, ht'⟩ := h.store K ht hm hkey (val := val) (d := .held val) (ps := []) rfl
  have hs2 : Maps.size (D.put kl (.held val)) = putN f kl n := by rw [Maps.size_put (h.tidy K), (hf kl).1, hn]; rfl
  refine ⟨w', hr, ⟨D.put kl (.held val), ?_, hs2, fun x => ?_⟩, turned_tch ht'⟩
  · have := own_tight ho
    rw [hs2] at this
    exact this
  · by_cases hx : x = kl
    · subst hx
      refine ⟨by rw [Maps.has_put_same h.isMap (K.key hkey), h1]; rfl, fun v hv z => ?_⟩
      rw [h1] at hv
      injection hv with hv
      subst hv
      exact Maps.atKey_put_same h.isMap (K.key hkey) _ _
    · refine ⟨by rw [Maps.has_put_other hx, (hf x).1, h2 x hx], fun v hv z => ?_⟩
      rw [h2 x hx] at hv
      rw [Maps.atKey_put_other hx]
      exact (hf x).2 v hv z
theorem MM.del {w : World} {k : TypeId} {b n : Nat} {f : Lit → Option Value} {t e : TypeId} (h : MM w k b n f) (K : Keyed Try.prog k) (ht : Try.prog.underlying t = some (.map k e))
    {key : Value} {kl : Lit} (hkey : keyOf Try.prog k key = some kl) (ty : TypeId) {f' : Lit → Option Value} (h1 : f' kl = none) (h2 : ∀ x, x ≠ kl → f' x = f x) :
    ∃ w', (Builtin.delete_ #[t, k] ty #[.map (some b), key]).run Try.prog w = .ok (.tuple #[]) w' ∧ MM w' k b (delN f kl n) f' ∧ Tch (fun g => g = b) w w' := by
  obtain ⟨D, h, hn, hf⟩ := h
  obtain ⟨w', hr, ho, ht'⟩ := h.drop K ht hkey ty
  have hsz := Maps.size_del (k := kl) (h.tidy K)
  have hs2 : Maps.size (D.del kl) = delN f kl n := by
    rw [(hf kl).1, hn] at hsz
    unfold delN
    cases hk : (f kl).isSome with
    | true => rw [hk] at hsz; simp only [if_true] at hsz ⊢; omega
    | false => rw [hk] at hsz; simpa using hsz
  refine ⟨w', hr, ⟨D.del kl, ?_, hs2, fun x => ?_⟩, turned_tch ht'⟩
  · have := own_tight ho
    rw [hs2] at this
    exact this
  · by_cases hx : x = kl
    · subst hx
      exact ⟨by rw [Maps.has_del_same, h1]; rfl, fun v hv z => by rw [h1] at hv; cases hv⟩
    · refine ⟨by rw [Maps.has_del_other hx, (hf x).1, h2 x hx], fun v hv z => ?_⟩
      rw [h2 x hx] at hv
      rw [Maps.atKey_del_other hx]
      exact (hf x).2 v hv z

/-! The two maps of a history: notes by a number and a place, spans by a number. -/
theorem law_int : Keyed Try.prog 3 := int_keyed Try.underlying3
theorem laidOut : laidOutB Try.prog = true := by kernel_rfl
theorem key_row : (97 : TypeId) < Try.prog.types.size := of_decide_eq_true (by kernel_rfl)
theorem key_cells : Try.prog.cellsOf 97 = 2 := by kernel_rfl
theorem key_at : Try.prog.keyTypeAt 2 97 = true := by kernel_rfl
theorem key_wide : (match Try.prog.underlying 97 with | some (.array _ _) | some (.struct _) => true | _ => false) = true := by kernel_rfl
theorem law_key : Keyed Try.prog 97 := Keyed.of_law (deep_law_laid laidOut (m := 2) (by omega) key_row key_at key_wide)
theorem key_ty : Try.prog.keyType 97 = true := by kernel_rfl
def inR (i : Int) : Prop := -9223372036854775808 ≤ i ∧ i ≤ 9223372036854775807
theorem wf_of {i : Int} (h : inR i) : (Lit.int .i64 i).wf = true := by
  simp only [Lit.wf, Bool.and_eq_true, decide_eq_true_eq]
  exact ⟨h.1, h.2⟩
abbrev keyV (i p : Int) : Value := .agg #[.int .i64 i, .int .i64 p]
theorem types_size : Try.prog.types.size = 154 := by kernel_rfl
theorem int_cells : Try.prog.cellsOf 3 = 1 := by kernel_rfl
theorem lits_int (d : Nat) {i : Int} (h : (Lit.int .i64 i).wf = true) : Try.prog.keyLits (d + 1) 3 [.int .i64 i] = some [.int .i64 i] := by
  unfold Program.keyLits
  rw [Try.underlying3]
  simp only [h, and_self, if_true]
theorem lits_key (d : Nat) {i p : Int} (h1 : (Lit.int .i64 i).wf = true) (h2 : (Lit.int .i64 p).wf = true) : Try.prog.keyLits (d + 2) 97 [.int .i64 i, .int .i64 p] = some [.int .i64 i, .int .i64 p] := by
  unfold Program.keyLits
  rw [Try.underlying97]
  simp only [key_cells, int_cells, List.length_cons, List.length_nil, Nat.reduceAdd, if_true]
  rw [show List.range 2 = [0, 1] from rfl]
  simp only [List.mapM_cons, List.mapM_nil, Nat.zero_mul, Nat.one_mul, List.drop_zero, List.take_succ_cons, List.take_zero, List.drop_succ_cons, List.take_nil, lits_int d h1, lits_int d h2]
  rfl
theorem key_some {i p : Int} (hi : inR i) (hp : inR p) : ∃ l, keyOf Try.prog 97 (keyV i p) = some l := by
  have h1 := wf_of hi
  have h2 := wf_of hp
  refine ⟨.string (keyBytes [.int .i64 i, .int .i64 p]), ?_⟩
  unfold keyOf
  rw [Try.underlying97]
  have hf : (keyV i p).formed Try.prog 97 = true := by simp [Value.formed, Try.underlying97, key_cells]
  have hc : (keyV i p).cells.toList = [.int .i64 i, .int .i64 p] := rfl
  simp only [key_ty, hf, hc, Bool.and_self, if_true]
  rw [types_size, show (154 + 1 : Nat) = (154 - 1) + 2 from rfl, lits_key (154 - 1) h1 h2]
  rfl
theorem int_some {i : Int} (hi : inR i) : keyOf Try.prog 3 (.int .i64 i) = some (.int .i64 i) := by
  unfold keyOf
  rw [Try.underlying3]
  simp [mapKey, Try.underlying3, wf_of hi]

/-- The notes: at a number and a place. -/
def NM (w : World) (b n : Nat) (g : Int → Int → Option Value) : Prop := ∃ f, MM w 97 b n f ∧ ∀ i p l, keyOf Try.prog 97 (keyV i p) = some l → f l = g i p
/-- The spans: at a number. -/
def SM (w : World) (b n : Nat) (g : Int → Option Value) : Prop := ∃ f, MM w 3 b n f ∧ ∀ i, f (.int .i64 i) = g i
theorem NM.lt {w : World} {b n : Nat} {g : Int → Int → Option Value} (h : NM w b n g) : b < w.heap.size := by obtain ⟨f, h, _⟩ := h; exact h.lt
theorem SM.lt {w : World} {b n : Nat} {g : Int → Option Value} (h : SM w b n g) : b < w.heap.size := by obtain ⟨f, h, _⟩ := h; exact h.lt
theorem NM.tch {S : Nat → Prop} {w w' : World} {b n : Nat} {g : Int → Int → Option Value} (h : NM w b n g) (t : Tch S w w') (hS : ¬ S b) : NM w' b n g := by obtain ⟨f, h, h2⟩ := h; exact ⟨f, h.tch t hS, h2⟩
theorem SM.tch {S : Nat → Prop} {w w' : World} {b n : Nat} {g : Int → Option Value} (h : SM w b n g) (t : Tch S w w') (hS : ¬ S b) : SM w' b n g := by obtain ⟨f, h, h2⟩ := h; exact ⟨f, h.tch t hS, h2⟩
theorem NM.made (w : World) : NM (w.alloc (.map #[] 0)) w.heap.size 0 (fun _ _ => none) := ⟨_, MM.made w _, fun _ _ _ _ => rfl⟩
theorem SM.made (w : World) : SM (w.alloc (.map #[] 0)) w.heap.size 0 (fun _ => none) := ⟨_, MM.made w _, fun _ => rfl⟩
abbrev noteZ : Value := .agg #[.int .i64 0, .bool false, .int .i64 0, .int .i64 0, .string ⟨#[]⟩, .slice none 0 0, .int .i64 0]
abbrev spanV (a b : Int) : Value := .agg #[.int .i64 a, .int .i64 b]
theorem zero_note (w : World) : (zeroValue 77).run Try.prog w = .ok noteZ w := by kernel_rfl
theorem zero_span (w : World) : (zeroValue 95).run Try.prog w = .ok (spanV 0 0) w := by kernel_rfl
theorem NM.look {w : World} {b n : Nat} {g : Int → Int → Option Value} (h : NM w b n g) {i p : Int} (hi : inR i) (hp : inR p) : (Instr.lookup 70 (.map (some b)) (keyV i p) false).run Try.prog w = .ok ((g i p).getD noteZ) w := by
  obtain ⟨f, h, h2⟩ := h
  obtain ⟨l, hl⟩ := key_some hi hp
  rw [h.look law_key Try.underlying70 (zero_note w) hl, h2 _ _ _ hl]
theorem SM.look {w : World} {b n : Nat} {g : Int → Option Value} (h : SM w b n g) {i : Int} (hi : inR i) : (Instr.lookup 71 (.map (some b)) (.int .i64 i) false).run Try.prog w = .ok ((g i).getD (spanV 0 0)) w := by
  obtain ⟨f, h, h2⟩ := h
  rw [h.look law_int Try.underlying71 (zero_span w) (int_some hi), h2]
theorem NM.len {w : World} {b n : Nat} {g : Int → Int → Option Value} (h : NM w b n g) (ty : TypeId) : (Builtin.len_ #[70] ty #[.map (some b)]).run Try.prog w = .ok (.int .i64 n) w := by
  obtain ⟨f, h, h2⟩ := h
  exact h.len Try.underlying70 ty
theorem NM.put {w : World} {b n : Nat} {g : Int → Int → Option Value} (h : NM w b n g) {i p : Int} (hi : inR i) (hp : inR p) (hn : n < maxLen) (hg : g i p = none) (val : Value) {g' : Int → Int → Option Value} (h1 : g' i p = some val) (h2 : ∀ x y, ¬ (x = i ∧ y = p) → g' x y = g x y) :
    ∃ w', (Instr.mapUpdate 70 (.map (some b)) (keyV i p) val).run Try.prog w = .ok () w' ∧ NM w' b (n + 1) g' ∧ Tch (fun g => g = b) w w' := by
  obtain ⟨f, h, hf⟩ := h
  obtain ⟨l, hl⟩ := key_some hi hp
  have hkl := law_key.key hl
  obtain ⟨w', hr, hM, ht⟩ := h.put law_key Try.underlying70 hn hl val (f' := fun x => if x.sameKey l = true then some val else f x) (by simp [WideAt.sameKey_self hkl]) (fun x hx => if_neg (fun e => hx (WideAt.sameKey_eq e)))
  have eN : putN f l n = n + 1 := by unfold putN; rw [hf _ _ _ hl, hg]; rfl
  rw [eN] at hM
  clear eN
  refine ⟨w', hr, ⟨_, hM, fun x y m hm => ?_⟩, ht⟩
  · by_cases e : x = i ∧ y = p
    · obtain ⟨rfl, rfl⟩ := e
      rw [hl] at hm
      injection hm with hm
      subst hm
      simp [WideAt.sameKey_self hkl, h1]
    · rw [h2 x y e]
      refine (if_neg (fun e2 => ?_)).trans (hf x y m hm)
      have e3 := WideAt.sameKey_eq e2
      subst e3
      have e4 := law_key.inj hm hl
      simp only [Value.agg.injEq, Array.mk.injEq, List.cons.injEq, Value.int.injEq, true_and, and_true] at e4
      exact e e4
theorem NM.del {w : World} {b n : Nat} {g : Int → Int → Option Value} (h : NM w b n g) {i p : Int} (hi : inR i) (hp : inR p) (hg : (g i p).isSome = true) (ty : TypeId) {g' : Int → Int → Option Value} (h1 : g' i p = none) (h2 : ∀ x y, ¬ (x = i ∧ y = p) → g' x y = g x y) :
    ∃ w', (Builtin.delete_ #[70, 97] ty #[.map (some b), keyV i p]).run Try.prog w = .ok (.tuple #[]) w' ∧ NM w' b (n - 1) g' ∧ Tch (fun g => g = b) w w' := by
  obtain ⟨f, h, hf⟩ := h
  obtain ⟨l, hl⟩ := key_some hi hp
  have hkl := law_key.key hl
  obtain ⟨w', hr, hM, ht⟩ := h.del law_key Try.underlying70 hl ty (f' := fun x => if x.sameKey l = true then none else f x) (by simp [WideAt.sameKey_self hkl]) (fun x hx => if_neg (fun e => hx (WideAt.sameKey_eq e)))
  have eN : delN f l n = n - 1 := by unfold delN; rw [hf _ _ _ hl, hg]; rfl
  rw [eN] at hM
  clear eN
  refine ⟨w', hr, ⟨_, hM, fun x y m hm => ?_⟩, ht⟩
  · by_cases e : x = i ∧ y = p
    · obtain ⟨rfl, rfl⟩ := e
      rw [hl] at hm
      injection hm with hm
      subst hm
      simp [WideAt.sameKey_self hkl, h1]
    · rw [h2 x y e]
      refine (if_neg (fun e2 => ?_)).trans (hf x y m hm)
      have e3 := WideAt.sameKey_eq e2
      subst e3
      have e4 := law_key.inj hm hl
      simp only [Value.agg.injEq, Array.mk.injEq, List.cons.injEq, Value.int.injEq, true_and, and_true] at e4
      exact e e4
theorem SM.put {w : World} {b n : Nat} {g : Int → Option Value} (h : SM w b n g) {i : Int} (hi : inR i) (hn : n < maxLen) (val : Value) {g' : Int → Option Value} (h1 : g' i = some val) (h2 : ∀ x, x ≠ i → g' x = g x) :
    ∃ w', (Instr.mapUpdate 71 (.map (some b)) (.int .i64 i) val).run Try.prog w = .ok () w' ∧ SM w' b (if (g i).isSome then n else n + 1) g' ∧ Tch (fun g => g = b) w w' := by
  obtain ⟨f, h, hf⟩ := h
  have hl := int_some hi
  have hkl := law_int.key hl
  obtain ⟨w', hr, hM, ht⟩ := h.put law_int Try.underlying71 hn hl val (f' := fun x => if x.sameKey (.int .i64 i) = true then some val else f x) (by simp [WideAt.sameKey_self hkl]) (fun x hx => if_neg (fun e => hx (WideAt.sameKey_eq e)))
  have eN : putN f (.int .i64 i) n = if (g i).isSome then n else n + 1 := by unfold putN; rw [hf]
  rw [eN] at hM
  clear eN
  refine ⟨w', hr, ⟨_, hM, fun x => ?_⟩, ht⟩
  · by_cases e : x = i
    · subst e
      simp [WideAt.sameKey_self hkl, h1]
    · rw [h2 x e]
      refine (if_neg (fun e2 => ?_)).trans (hf x)
      have e3 := WideAt.sameKey_eq e2
      injection e3 with _ e3
      exact e e3
theorem SM.del {w : World} {b n : Nat} {g : Int → Option Value} (h : SM w b n g) {i : Int} (hi : inR i) (ty : TypeId) {g' : Int → Option Value} (h1 : g' i = none) (h2 : ∀ x, x ≠ i → g' x = g x) :
    ∃ w', (Builtin.delete_ #[71, 3] ty #[.map (some b), .int .i64 i]).run Try.prog w = .ok (.tuple #[]) w' ∧ SM w' b (if (g i).isSome then n - 1 else n) g' ∧ Tch (fun g => g = b) w w' := by
  obtain ⟨f, h, hf⟩ := h
  have hl := int_some hi
  have hkl := law_int.key hl
  obtain ⟨w', hr, hM, ht⟩ := h.del law_int Try.underlying71 hl ty (f' := fun x => if x.sameKey (.int .i64 i) = true then none else f x) (by simp [WideAt.sameKey_self hkl]) (fun x hx => if_neg (fun e => hx (WideAt.sameKey_eq e)))
  have eN : delN f (.int .i64 i) n = if (g i).isSome then n - 1 else n := by unfold delN; rw [hf]
  rw [eN] at hM
  clear eN
  refine ⟨w', hr, ⟨_, hM, fun x => ?_⟩, ht⟩
  · by_cases e : x = i
    · subst e
      simp [WideAt.sameKey_self hkl, h1]
    · rw [h2 x e]
      refine (if_neg (fun e2 => ?_)).trans (hf x)
      have e3 := WideAt.sameKey_eq e2
      injection e3 with _ e3
      exact e e3
end Go.Proofs.Ytkcmpipipelgoaa
/- A history as mathematics: of each number its notes. -/
namespace Go.Proofs.Ytkcmpipipelgoaa
open Go

/-- A note: from where on, is the table there, the table, where its columns lie. -/
structure Nt where
  l : Int
  th : Bool
  t : Tbl
  ao : Option Addr
  c : Nat
def ntZ : Nt := ⟨0, false, ⟨0, 0, ⟨#[]⟩, [], 0⟩, none, 0⟩
/-- How many notes are not above a position, gone through from the newest one. -/
def upL : List Nt → Int → Nat
  | [], _ => 0
  | n :: r, x => if upL r x = 0 then (if n.l ≤ x then 1 else 0) else upL r x + 1
def wasL (K : List Nt) (x : Int) : Nt := if upL K x = 0 then ntZ else (K[upL K x - 1]?).getD ntZ
theorem upL_le : ∀ (K : List Nt) (x : Int), upL K x ≤ K.length
  | [], _ => Nat.le_refl _
  | n :: r, x => by
    have := upL_le r x
    unfold upL
    split
    · split <;> simp
    · simp; omega
theorem upL_spec : ∀ (K : List Nt) (x : Int), (∀ j n, K[j]? = some n → upL K x ≤ j → x < n.l) ∧ (∀ j n, K[j]? = some n → upL K x = j + 1 → n.l ≤ x)
  | [], _ => ⟨fun j n h => by simp at h, fun j n h => by simp at h⟩
  | m :: r, x => by
    obtain ⟨h1, h2⟩ := upL_spec r x
    have e : upL (m :: r) x = if upL r x = 0 then (if m.l ≤ x then 1 else 0) else upL r x + 1 := rfl
    rw [e]
    by_cases hu : upL r x = 0
    · rw [if_pos hu]
      by_cases hm : m.l ≤ x
      · rw [if_pos hm]
        refine ⟨fun j n hn hj => ?_, fun j n hn hj => ?_⟩
        · obtain ⟨j', rfl⟩ : ∃ j', j = j' + 1 := ⟨j - 1, by omega⟩
          exact h1 j' n (by simpa using hn) (by omega)
        · obtain rfl : j = 0 := by omega
          simp at hn; subst hn; exact hm
      · rw [if_neg hm]
        refine ⟨fun j n hn hj => ?_, fun j n hn hj => by omega⟩
        cases j with
        | zero => simp at hn; subst hn; omega
        | succ j' => exact h1 j' n (by simpa using hn) (by omega)
    · rw [if_neg hu]
      refine ⟨fun j n hn hj => ?_, fun j n hn hj => ?_⟩
      · obtain ⟨j', rfl⟩ : ∃ j', j = j' + 1 := ⟨j - 1, by omega⟩
        exact h1 j' n (by simpa using hn) (by omega)
      · obtain ⟨j', rfl⟩ : ∃ j', j = j' + 1 := ⟨j - 1, by omega⟩
        exact h2 j' n (by simpa using hn) (by omega)
theorem upL_eq {K : List Nt} {x : Int} {u : Nat} (hu : u ≤ K.length) (h1 : ∀ j n, K[j]? = some n → u ≤ j → x < n.l) (h2 : ∀ j n, K[j]? = some n → u = j + 1 → n.l ≤ x) : upL K x = u := by
  obtain ⟨s1, s2⟩ := upL_spec K x
  have hle := upL_le K x
  rcases Nat.lt_trichotomy (upL K x) u with h | h | h
  · obtain ⟨n, hn⟩ : ∃ n, K[u - 1]? = some n := ⟨_, List.getElem?_eq_getElem (by omega)⟩
    have a := s1 (u - 1) n hn (by omega)
    have b := h2 (u - 1) n hn (by omega)
    omega
  · exact h
  · obtain ⟨n, hn⟩ : ∃ n, K[upL K x - 1]? = some n := ⟨_, List.getElem?_eq_getElem (by omega)⟩
    have a := h1 (upL K x - 1) n hn (by omega)
    have b := s2 (upL K x - 1) n hn (by omega)
    omega
theorem wasL_mem {K : List Nt} {x : Int} (h : upL K x ≠ 0) : wasL K x ∈ K := by
  unfold wasL
  rw [if_neg h]
  have hle := upL_le K x
  rw [List.getElem?_eq_getElem (by omega : upL K x - 1 < K.length)]
  exact List.getElem_mem _
theorem wasL_th {K : List Nt} {x : Int} (h : (wasL K x).th = true) : upL K x ≠ 0 ∧ wasL K x ∈ K := by
  have h0 : upL K x ≠ 0 := fun e => by
    unfold wasL at h
    rw [if_pos e] at h
    cases h
  exact ⟨h0, wasL_mem h0⟩
theorem wasL_nil (x : Int) : wasL [] x = ntZ := rfl

/-- A history: its beginning, the last position, of each number its notes and the place of the first, how many notes there are, how many there ever were. -/
structure Hs where
  b : Int
  l : Int
  K : Int → List Nt
  f : Int → Nat
  sz : Nat
  T : Nat
def updK {α : Type} (K : Int → α) (i : Int) (a : α) : Int → α := fun j => if j = i then a else K j
theorem updK_same {α : Type} (K : Int → α) (i : Int) (a : α) : updK K i a i = a := if_pos rfl
theorem updK_ne {α : Type} (K : Int → α) {i j : Int} (a : α) (h : j ≠ i) : updK K i a j = K j := if_neg h
/-- Behind one more note. -/
def Hs.add (h : Hs) (i : Int) (n : Nt) : Hs := ⟨h.b, n.l, updK h.K i (h.K i ++ [n]), h.f, h.sz + 1, h.T + 1⟩
/-- How many notes of a number a Trim forgets. -/
def fgN (K : List Nt) (x : Int) : Nat := if (wasL K x).th = true then upL K x - 1 else upL K x
theorem fgN_le (K : List Nt) (x : Int) : fgN K x ≤ K.length := by
  have := upL_le K x
  unfold fgN
  split <;> omega
/-- Behind the forgetting of one number. -/
def fgF (h : Hs) (i : Int) : Nat := if (h.K i).length = fgN (h.K i) h.b then 0 else h.f i + fgN (h.K i) h.b
def Hs.fg (h : Hs) (i : Int) : Hs := ⟨h.b, h.l, updK h.K i ((h.K i).drop (fgN (h.K i) h.b)), updK h.f i (fgF h i), h.sz - fgN (h.K i) h.b, h.T⟩
/-- How many notes numbers have together. -/
def sumL (K : Int → List Nt) (ids : List Int) : Nat := (ids.map (fun i => (K i).length)).sum
theorem sumL_cons (K : Int → List Nt) (a : Int) (r : List Int) : sumL K (a :: r) = (K a).length + sumL K r := by simp [sumL]
theorem sumL_other (K : Int → List Nt) (i : Int) (l : List Nt) : ∀ ids : List Int, i ∉ ids → sumL (updK K i l) ids = sumL K ids
  | [], _ => rfl
  | a :: r, h => by
    rw [sumL_cons, sumL_cons, sumL_other K i l r (fun e => h (.tail _ e)), updK_ne _ _ (fun e => h (by rw [e]; exact .head _))]
theorem sumL_upd (K : Int → List Nt) (i : Int) (l : List Nt) : ∀ ids : List Int, ids.Nodup → i ∈ ids → sumL (updK K i l) ids + (K i).length = sumL K ids + l.length
  | [], _, h => by cases h
  | a :: r, hn, h => by
    obtain ⟨h1, h2⟩ := List.nodup_cons.1 hn
    rw [sumL_cons, sumL_cons]
    rcases List.mem_cons.1 h with e | e
    · subst e
      rw [sumL_other K i l r h1, updK_same]
      omega
    · have hne : a ≠ i := fun e2 => h1 (by rw [e2]; exact e)
      have := sumL_upd K i l r h2 e
      rw [updK_ne _ _ hne]
      omega
def Tot (K : Int → List Nt) (sz : Nat) : Prop := ∀ ids : List Int, ids.Nodup → sumL K ids ≤ sz
theorem Tot.add {K : Int → List Nt} {sz : Nat} (h : Tot K sz) (i : Int) (n : Nt) : Tot (updK K i (K i ++ [n])) (sz + 1) := fun ids hn => by
  by_cases hi : i ∈ ids
  · have h1 := sumL_upd K i (K i ++ [n]) ids hn hi
    have h2 := h ids hn
    rw [List.length_append, List.length_singleton] at h1
    omega
  · rw [sumL_other K i _ ids hi]
    have := h ids hn
    omega
theorem Tot.fg {K : Int → List Nt} {sz : Nat} (h : Tot K sz) (i : Int) (u : Nat) (hu : u ≤ (K i).length) : Tot (updK K i ((K i).drop u)) (sz - u) := fun ids hn => by
  by_cases hi : i ∈ ids
  · have h1 := sumL_upd K i ((K i).drop u) ids hn hi
    have h2 := h ids hn
    rw [List.length_drop] at h1
    omega
  · rw [sumL_other K i _ ids hi]
    have := h (i :: ids) (List.nodup_cons.2 ⟨hi, hn⟩)
    rw [sumL_cons] at this
    omega
end Go.Proofs.Ytkcmpipipelgoaa
/- A history in the world. -/
namespace Go.Proofs.Ytkcmpipipelgoaa
open Go.RowKit Go
set_option maxRecDepth 100000

abbrev Nt.v (n : Nt) : Value := .agg #[.int .i64 n.l, .bool n.th, .int .i64 n.t.id, .int .i64 n.t.ver, .string n.t.nm, .slice n.ao n.t.cols.length n.c, .int .i64 n.t.key]
def nG (K : Int → List Nt) (f : Int → Nat) (i p : Int) : Option Value := if (f i : Int) ≤ p then ((K i)[(p - f i).toNat]?).map Nt.v else none
def sG (K : Int → List Nt) (f : Int → Nat) (i : Int) : Option Value := if (K i).isEmpty = true then none else some (spanV (f i) ((f i : Int) + (K i).length))
/-- A note's columns, for reading; none of the blocks G is theirs. -/
structure NtIn (w : World) (G : Nat → Prop) (n : Nt) : Prop where
  sl : SL w n.ao (ccl n.t.cols)
  no : n.ao = none → n.t.cols = [] ∧ n.c = 0
  le : n.t.cols.length ≤ 8
  nf : ∀ g o, n.ao = some ⟨g, o, none⟩ → ¬ G g ∧ g < w.heap.size
theorem NtIn.tch {S G : Nat → Prop} {w w' : World} {n : Nt} (h : NtIn w G n) (t : Tch S w w') (hS : ∀ g, g < w.heap.size → S g → G g) : NtIn w' G n :=
  ⟨h.sl.tch t (fun g o e hs => (h.nf g o e).1 (hS g (h.nf g o e).2 hs)), h.no, h.le, fun g o e => ⟨(h.nf g o e).1, Nat.lt_of_lt_of_le (h.nf g o e).2 t.size⟩⟩
theorem NtIn.mono {G G' : Nat → Prop} {w : World} {n : Nt} (h : NtIn w G n) (hG : ∀ g, g < w.heap.size → G' g → G g) : NtIn w G' n :=
  ⟨h.sl, h.no, h.le, fun g o e => ⟨fun hg => (h.nf g o e).1 (hG g (h.nf g o e).2 hg), (h.nf g o e).2⟩⟩
def own3 (F : Nat → Prop) (b mb sb : Nat) : Nat → Prop := fun g => F g ∨ g = b ∨ g = mb ∨ g = sb
structure HW (w : World) (F : Nat → Prop) (b mb sb ns : Nat) (h : Hs) : Prop where
  blk : w.heap[b]? = some (.cells #[.int .i64 h.b, .int .i64 h.l, .map (some mb), .map (some sb)] 73 (0, 0))
  nm : NM w mb h.sz (nG h.K h.f)
  sm : SM w sb ns (sG h.K h.f)
  fb : ¬ F b
  fm : ¬ F mb
  fs : ¬ F sb
  bm : b ≠ mb
  bs : b ≠ sb
  ms : mb ≠ sb
  nt : ∀ i n, n ∈ h.K i → NtIn w (own3 F b mb sb) n
  f0 : ∀ i, h.K i = [] → h.f i = 0
  pl : ∀ i, h.f i + (h.K i).length ≤ h.T
  sz : h.sz ≤ h.T
  nl : ns ≤ h.T
  id : ∀ i, h.K i ≠ [] → inR i
  tot : Tot h.K h.sz
theorem HW.tch {S F : Nat → Prop} {w w' : World} {b mb sb ns : Nat} {h : Hs} (H : HW w F b mb sb ns h) (t : Tch S w w') (hS : ∀ g, g < w.heap.size → S g → F g) : HW w' F b mb sb ns h :=
  { H with
    blk := (t.block b (blk_lt H.blk) (fun e => H.fb (hS _ (blk_lt H.blk) e))).trans H.blk
    nm := H.nm.tch t (fun e => H.fm (hS _ H.nm.lt e))
    sm := H.sm.tch t (fun e => H.fs (hS _ H.sm.lt e))
    nt := fun i n hn => (H.nt i n hn).tch t (fun g hg e => .inl (hS g hg e)) }
theorem HW.mono {F F' : Nat → Prop} {w : World} {b mb sb ns : Nat} {h : Hs} (H : HW w F b mb sb ns h) (hF : ∀ g, g < w.heap.size → F' g → F g) : HW w F' b mb sb ns h :=
  { H with
    fb := fun e => H.fb (hF _ (blk_lt H.blk) e)
    fm := fun e => H.fm (hF _ H.nm.lt e)
    fs := fun e => H.fs (hF _ H.sm.lt e)
    nt := fun i n hn => (H.nt i n hn).mono (fun g hg e => e.elim (fun e => .inl (hF g hg e)) .inr) }
/-- A history at b that owns none of the blocks F. -/
def HF (w : World) (F : Nat → Prop) (b : Nat) (h : Hs) : Prop := ∃ mb sb ns, HW w F b mb sb ns h
theorem HF.tch {S F : Nat → Prop} {w w' : World} {b : Nat} {h : Hs} (H : HF w F b h) (t : Tch S w w') (hS : ∀ g, g < w.heap.size → S g → F g) : HF w' F b h := by
  obtain ⟨mb, sb, ns, H⟩ := H
  exact ⟨mb, sb, ns, H.tch t hS⟩
theorem HF.no {F : Nat → Prop} {w w' : World} {b : Nat} {h : Hs} (H : HF w F b h) (t : Tch (fun _ => False) w w') : HF w' F b h := H.tch t (fun _ _ e => e.elim)
theorem HF.mono {F F' : Nat → Prop} {w : World} {b : Nat} {h : Hs} (H : HF w F b h) (hF : ∀ g, g < w.heap.size → F' g → F g) : HF w F' b h := by
  obtain ⟨mb, sb, ns, H⟩ := H
  exact ⟨mb, sb, ns, H.mono hF⟩
theorem sG_get (K : Int → List Nt) (f : Int → Nat) (i : Int) (h : K i = [] → f i = 0) : (sG K f i).getD (spanV 0 0) = spanV (f i) ((f i : Int) + (K i).length) := by
  unfold sG
  cases hK : K i with
  | nil => rw [h hK]; rfl
  | cons n r => simp
theorem nG_get (K : Int → List Nt) (f : Int → Nat) (i : Int) (j : Nat) {n : Nt} (h : (K i)[j]? = some n) : nG K f i ((f i : Int) + j) = some n.v := by
  unfold nG
  rw [if_pos (by omega), show ((f i : Int) + j - f i).toNat = j by omega, h]
  rfl
theorem inR_nat {n : Nat} (h : n ≤ 140737488355328) : inR (n : Int) := by unfold inR; omega
/-- What the two maps tell. -/
theorem HW.span {w : World} {F : Nat → Prop} {b mb sb ns : Nat} {h : Hs} (H : HW w F b mb sb ns h) {i : Int} (hi : inR i) : (Instr.lookup 71 (.map (some sb)) (.int .i64 i) false).run Try.prog w = .ok (spanV (h.f i) ((h.f i : Int) + (h.K i).length)) w := by
  rw [H.sm.look hi, sG_get _ _ _ (H.f0 i)]
theorem HW.note {w : World} {F : Nat → Prop} {b mb sb ns : Nat} {h : Hs} (H : HW w F b mb sb ns h) {i p : Int} (hi : inR i) {j : Nat} {n : Nt} (hp : p = (h.f i : Int) + j) (hn : (h.K i)[j]? = some n) (hT : h.T ≤ 140737488355328) : (Instr.lookup 70 (.map (some mb)) (keyV i p) false).run Try.prog w = .ok n.v w := by
  have hj := (List.getElem?_eq_some_iff.1 hn).1
  have := H.pl i
  rw [H.nm.look hi (by unfold inR; omega), hp, nG_get _ _ _ _ hn]
  rfl
end Go.Proofs.Ytkcmpipipelgoaa
