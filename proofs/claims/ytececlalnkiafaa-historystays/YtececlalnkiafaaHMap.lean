import Derived.Test.YtececlalnkiafaaCCopy
import Derived.Maps.OwnSet
import Derived.DeepKeys4
/- Maps as functions from keys to values. -/
namespace Go.Proofs.Ytececlalnkiafaa
open Go.RowKit Go Go.Maps
set_option maxRecDepth 100000

/-- How any value within a map reads: as itself. -/
def heldE (v : Value) : Option (DataW Value × List MemPlace) := some (.held v, [])
/-- Block b of w is a map of n entries; at the key kl stands f kl. -/
def MM (w : World) (k : TypeId) (b n : Nat) (f : Lit → Option Value) : Prop :=
  ∃ D : DataW Value, w.ownsMap Try.prog k heldE b n D ∧ Maps.size D = n ∧ ∀ kl, Maps.has D kl = (f kl).isSome ∧ ∀ v, f kl = some v → ∀ z, D.atKey kl z = .held v

theorem own_tight {w : World} {k : TypeId} {b n : Nat} {D : DataW Value} (h : w.ownsMap Try.prog k heldE b n D) : w.ownsMap Try.prog k heldE b (Maps.size D) D := by
  obtain ⟨es, clock, hb, F, hs, rfl⟩ := h
  refine ⟨es, clock, hb, F, ?_, rfl⟩
  simp [Maps.size, length_sorted]
theorem turned_tch {w w' : World} {b : Nat} (h : w.mapTurned w' b) : Tch (fun g => g = b) w w' := by
  have hg := h.grown
  exact ⟨hg.os, hg.tape, hg.output, hg.size, fun k hk hn => hg.block k hk (fun e => hn (by injection e))⟩
theorem MM.lt {w : World} {k : TypeId} {b n : Nat} {f : Lit → Option Value} (h : MM w k b n f) : b < w.heap.size := by
  obtain ⟨D, h, _⟩ := h
  exact h.lt
theorem MM.tch {S : Nat → Prop} {w w' : World} {k : TypeId} {b n : Nat} {f : Lit → Option Value} (h : MM w k b n f) (t : Tch S w w') (hS : ¬ S b) : MM w' k b n f := by
  obtain ⟨D, ⟨es, clock, hb, F⟩, h2⟩ := h
  exact ⟨D, ⟨es, clock, (t.block b (blk_lt hb) hS).trans hb, F⟩, h2⟩
theorem MM.made (w : World) (k : TypeId) : MM (w.alloc (.map #[] 0)) k w.heap.size 0 (fun _ => none) :=
  ⟨.map [], World.ownsMap_made w _ k _, rfl, fun kl => ⟨rfl, fun v h => by cases h⟩⟩
theorem MM.look {w : World} {k : TypeId} {b n : Nat} {f : Lit → Option Value} {t e : TypeId} (h : MM w k b n f) (K : Keyed Try.prog k) (ht : Try.prog.underlying t = some (.map k e)) {z : Value} (hz : (zeroValue e).run Try.prog w = .ok z w)
    {key : Value} {kl : Lit} (hkey : keyOf Try.prog k key = some kl) : (Instr.lookup t (.map (some b)) key false).run Try.prog w = .ok ((f kl).getD z) w := by
  obtain ⟨D, h, hn, hf⟩ := h
  obtain ⟨v, ps, hr, hv⟩ := h.lookup K ht hz (zd := .held z) (zp := []) rfl hkey
  obtain ⟨h1, h2⟩ := hf kl
  have e : v = (f kl).getD z := by
    have hv' : D.atKey kl (.held z) = .held v := by
      unfold heldE at hv
      simp only [Option.some.injEq, Prod.mk.injEq] at hv
      exact hv.1.symm
    cases hk : f kl with
    | none =>
      rw [hk] at h1
      rw [Maps.atKey_of_not_has h1] at hv'
      injection hv' with hv'
      exact hv'.symm
    | some u =>
      rw [h2 u hk] at hv'
      injection hv' with hv'
      exact hv'.symm
  rw [← e]
  exact hr
theorem MM.len {w : World} {k : TypeId} {b n : Nat} {f : Lit → Option Value} {t e : TypeId} (h : MM w k b n f) (ht : Try.prog.underlying t = some (.map k e)) (ty : TypeId) : (Builtin.len_ #[t] ty #[.map (some b)]).run Try.prog w = .ok (.int .i64 n) w := by
  obtain ⟨D, h, hn, hf⟩ := h
  rw [h.len ht ty, hn]
/-- Entries behind a store, behind a delete. -/
def putN (f : Lit → Option Value) (kl : Lit) (n : Nat) : Nat := if (f kl).isSome then n else n + 1
def delN (f : Lit → Option Value) (kl : Lit) (n : Nat) : Nat := if (f kl).isSome then n - 1 else n
theorem MM.put {w : World} {k : TypeId} {b n : Nat} {f : Lit → Option Value} {t e : TypeId} (h : MM w k b n f) (K : Keyed Try.prog k) (ht : Try.prog.underlying t = some (.map k e)) (hm : n < maxLen)
    {key : Value} {kl : Lit} (hkey : keyOf Try.prog k key = some kl) (val : Value) {f' : Lit → Option Value} (h1 : f' kl = some val) (h2 : ∀ x, x ≠ kl → f' x = f x) :
    ∃ w', (Instr.mapUpdate t (.map (some b)) key val).run Try.prog w = .ok () w' ∧ MM w' k b (putN f kl n) f' ∧ Tch (fun g => g = b) w w' := by
  obtain ⟨D, h, hn, hf⟩ := h
  obtain ⟨w', hr, ho, ht'⟩ := h.store K ht hm hkey (val := val) (d := .held val) (ps := []) rfl
  have hs2 : Maps.size (D.put kl (.held val)) = putN f kl n := by rw [Maps.size_put (h.tidy K), (hf kl).1, hn]; rfl
  refine ⟨w', hr, ⟨D.put kl (.held val), ?_, hs2, fun x => ?_⟩, turned_tch ht'⟩
  · have := own_tight ho
    rw [hs2] at this
    exact this
  · by_cases hx : x = kl
    · subst hx
      refine ⟨by rw [Maps.has_put_same h.isMap (K.key hkey), h1]; rfl, fun v hv z => ?_⟩
      rw [h1] at hv
      injection hv with hv
      subst hv
      exact Maps.atKey_put_same h.isMap (K.key hkey) _ _
    · refine ⟨by rw [Maps.has_put_other hx, (hf x).1, h2 x hx], fun v hv z => ?_⟩
      rw [h2 x hx] at hv
      rw [Maps.atKey_put_other hx]
      exact (hf x).2 v hv z
theorem MM.del {w : World} {k : TypeId} {b n : Nat} {f : Lit → Option Value} {t e : TypeId} (h : MM w k b n f) (K : Keyed Try.prog k) (ht : Try.prog.underlying t = some (.map k e))
    {key : Value} {kl : Lit} (hkey : keyOf Try.prog k key = some kl) (ty : TypeId) {f' : Lit → Option Value} (h1 : f' kl = none) (h2 : ∀ x, x ≠ kl → f' x = f x) :
    ∃ w', (Builtin.delete_ #[t, k] ty #[.map (some b), key]).run Try.prog w = .ok (.tuple #[]) w' ∧ MM w' k b (delN f kl n) f' ∧ Tch (fun g => g = b) w w' := by
  obtain ⟨D, h, hn, hf⟩ := h
  obtain ⟨w', hr, ho, ht'⟩ := h.drop K ht hkey ty
  have hsz := Maps.size_del (k := kl) (h.tidy K)
  have hs2 : Maps.size (D.del kl) = delN f kl n := by
    rw [(hf kl).1, hn] at hsz
    unfold delN
    cases hk : (f kl).isSome with
    | true => rw [hk] at hsz; simp only [if_true] at hsz ⊢; omega
    | false => rw [hk] at hsz; simpa using hsz
  refine ⟨w', hr, ⟨D.del kl, ?_, hs2, fun x => ?_⟩, turned_tch ht'⟩
  · have := own_tight ho
    rw [hs2] at this
    exact this
  · by_cases hx : x = kl
    · subst hx
      exact ⟨by rw [Maps.has_del_same, h1]; rfl, fun v hv z => by rw [h1] at hv; cases hv⟩
    · refine ⟨by rw [Maps.has_del_other hx, (hf x).1, h2 x hx], fun v hv z => ?_⟩
      rw [h2 x hx] at hv
      rw [Maps.atKey_del_other hx]
      exact (hf x).2 v hv z

/-! The two maps of a history: notes by a number and a place, spans by a number. -/
theorem law_int : Keyed Try.prog 3 := int_keyed Try.underlying3
theorem laidOut : laidOutB Try.prog = true := by kernel_rfl
theorem key_row : (97 : TypeId) < Try.prog.types.size := of_decide_eq_true (by kernel_rfl)
theorem key_cells : Try.prog.cellsOf 97 = 2 := by kernel_rfl
theorem key_at : Try.prog.keyTypeAt 2 97 = true := by kernel_rfl
theorem key_wide : (match Try.prog.underlying 97 with | some (.array _ _) | some (.struct _) => true | _ => false) = true := by kernel_rfl
theorem law_key : Keyed Try.prog 97 := Keyed.of_law (deep_law_laid laidOut (m := 2) (by omega) key_row key_at key_wide)
theorem key_ty : Try.prog.keyType 97 = true := by kernel_rfl
def inR (i : Int) : Prop := -9223372036854775808 ≤ i ∧ i ≤ 9223372036854775807
theorem wf_of {i : Int} (h : inR i) : (Lit.int .i64 i).wf = true := by
  simp only [Lit.wf, Bool.and_eq_true, decide_eq_true_eq]
  exact ⟨h.1, h.2⟩
abbrev keyV (i p : Int) : Value := .agg #[.int .i64 i, .int .i64 p]
theorem types_size : Try.prog.types.size = 154 := by kernel_rfl
theorem int_cells : Try.prog.cellsOf 3 = 1 := by kernel_rfl
theorem lits_int (d : Nat) {i : Int} (h : (Lit.int .i64 i).wf = true) : Try.prog.keyLits (d + 1) 3 [.int .i64 i] = some [.int .i64 i] := by
  unfold Program.keyLits
  rw [Try.underlying3]
  simp only [h, and_self, if_true]
theorem lits_key (d : Nat) {i p : Int} (h1 : (Lit.int .i64 i).wf = true) (h2 : (Lit.int .i64 p).wf = true) : Try.prog.keyLits (d + 2) 97 [.int .i64 i, .int .i64 p] = some [.int .i64 i, .int .i64 p] := by
  unfold Program.keyLits
  rw [Try.underlying97]
  simp only [key_cells, int_cells, List.length_cons, List.length_nil, Nat.reduceAdd, if_true]
  rw [show List.range 2 = [0, 1] from rfl]
  simp only [List.mapM_cons, List.mapM_nil, Nat.zero_mul, Nat.one_mul, List.drop_zero, List.take_succ_cons, List.take_zero, List.drop_succ_cons, List.take_nil, lits_int d h1, lits_int d h2]
  rfl
theorem key_some {i p : Int} (hi : inR i) (hp : inR p) : ∃ l, keyOf Try.prog 97 (keyV i p) = some l := by
  have h1 := wf_of hi
  have h2 := wf_of hp
  refine ⟨.string (keyBytes [.int .i64 i, .int .i64 p]), ?_⟩
  unfold keyOf
  rw [Try.underlying97]
  have hf : (keyV i p).formed Try.prog 97 = true := by simp [Value.formed, Try.underlying97, key_cells]
  have hc : (keyV i p).cells.toList = [.int .i64 i, .int .i64 p] := rfl
  simp only [key_ty, hf, hc, Bool.and_self, if_true]
  rw [types_size, show (154 + 1 : Nat) = (154 - 1) + 2 from rfl, lits_key (154 - 1) h1 h2]
  rfl
theorem int_some {i : Int} (hi : inR i) : keyOf Try.prog 3 (.int .i64 i) = some (.int .i64 i) := by
  unfold keyOf
  rw [Try.underlying3]
  simp [mapKey, Try.underlying3, wf_of hi]

/-- The notes: at a number and a place. -/
def NM (w : World) (b n : Nat) (g : Int → Int → Option Value) : Prop := ∃ f, MM w 97 b n f ∧ ∀ i p l, keyOf Try.prog 97 (keyV i p) = some l → f l = g i p
/-- The spans: at a number. -/
def SM (w : World) (b n : Nat) (g : Int → Option Value) : Prop := ∃ f, MM w 3 b n f ∧ ∀ i, f (.int .i64 i) = g i
theorem NM.lt {w : World} {b n : Nat} {g : Int → Int → Option Value} (h : NM w b n g) : b < w.heap.size := by obtain ⟨f, h, _⟩ := h; exact h.lt
theorem SM.lt {w : World} {b n : Nat} {g : Int → Option Value} (h : SM w b n g) : b < w.heap.size := by obtain ⟨f, h, _⟩ := h; exact h.lt
theorem NM.tch {S : Nat → Prop} {w w' : World} {b n : Nat} {g : Int → Int → Option Value} (h : NM w b n g) (t : Tch S w w') (hS : ¬ S b) : NM w' b n g := by obtain ⟨f, h, h2⟩ := h; exact ⟨f, h.tch t hS, h2⟩
theorem SM.tch {S : Nat → Prop} {w w' : World} {b n : Nat} {g : Int → Option Value} (h : SM w b n g) (t : Tch S w w') (hS : ¬ S b) : SM w' b n g := by obtain ⟨f, h, h2⟩ := h; exact ⟨f, h.tch t hS, h2⟩
theorem NM.made (w : World) : NM (w.alloc (.map #[] 0)) w.heap.size 0 (fun _ _ => none) := ⟨_, MM.made w _, fun _ _ _ _ => rfl⟩
theorem SM.made (w : World) : SM (w.alloc (.map #[] 0)) w.heap.size 0 (fun _ => none) := ⟨_, MM.made w _, fun _ => rfl⟩
abbrev noteZ : Value := .agg #[.int .i64 0, .bool false, .int .i64 0, .int .i64 0, .string ⟨#[]⟩, .slice none 0 0, .int .i64 0]
abbrev spanV (a b : Int) : Value := .agg #[.int .i64 a, .int .i64 b]
theorem zero_note (w : World) : (zeroValue 77).run Try.prog w = .ok noteZ w := by kernel_rfl
theorem zero_span (w : World) : (zeroValue 95).run Try.prog w = .ok (spanV 0 0) w := by kernel_rfl
theorem NM.look {w : World} {b n : Nat} {g : Int → Int → Option Value} (h : NM w b n g) {i p : Int} (hi : inR i) (hp : inR p) : (Instr.lookup 70 (.map (some b)) (keyV i p) false).run Try.prog w = .ok ((g i p).getD noteZ) w := by
  obtain ⟨f, h, h2⟩ := h
  obtain ⟨l, hl⟩ := key_some hi hp
  rw [h.look law_key Try.underlying70 (zero_note w) hl, h2 _ _ _ hl]
theorem SM.look {w : World} {b n : Nat} {g : Int → Option Value} (h : SM w b n g) {i : Int} (hi : inR i) : (Instr.lookup 71 (.map (some b)) (.int .i64 i) false).run Try.prog w = .ok ((g i).getD (spanV 0 0)) w := by
  obtain ⟨f, h, h2⟩ := h
  rw [h.look law_int Try.underlying71 (zero_span w) (int_some hi), h2]
theorem NM.len {w : World} {b n : Nat} {g : Int → Int → Option Value} (h : NM w b n g) (ty : TypeId) : (Builtin.len_ #[70] ty #[.map (some b)]).run Try.prog w = .ok (.int .i64 n) w := by
  obtain ⟨f, h, h2⟩ := h
  exact h.len Try.underlying70 ty
theorem NM.put {w : World} {b n : Nat} {g : Int → Int → Option Value} (h : NM w b n g) {i p : Int} (hi : inR i) (hp : inR p) (hn : n < maxLen) (hg : g i p = none) (val : Value) {g' : Int → Int → Option Value} (h1 : g' i p = some val) (h2 : ∀ x y, ¬ (x = i ∧ y = p) → g' x y = g x y) :
    ∃ w', (Instr.mapUpdate 70 (.map (some b)) (keyV i p) val).run Try.prog w = .ok () w' ∧ NM w' b (n + 1) g' ∧ Tch (fun g => g = b) w w' := by
  obtain ⟨f, h, hf⟩ := h
  obtain ⟨l, hl⟩ := key_some hi hp
  have hkl := law_key.key hl
  obtain ⟨w', hr, hM, ht⟩ := h.put law_key Try.underlying70 hn hl val (f' := fun x => if x.sameKey l = true then some val else f x) (by simp [WideAt.sameKey_self hkl]) (fun x hx => if_neg (fun e => hx (WideAt.sameKey_eq e)))
  have eN : putN f l n = n + 1 := by unfold putN; rw [hf _ _ _ hl, hg]; rfl
  rw [eN] at hM
  clear eN
  refine ⟨w', hr, ⟨_, hM, fun x y m hm => ?_⟩, ht⟩
  · by_cases e : x = i ∧ y = p
    · obtain ⟨rfl, rfl⟩ := e
      rw [hl] at hm
      injection hm with hm
      subst hm
      simp [WideAt.sameKey_self hkl, h1]
    · rw [h2 x y e]
      refine (if_neg (fun e2 => ?_)).trans (hf x y m hm)
      have e3 := WideAt.sameKey_eq e2
      subst e3
      have e4 := law_key.inj hm hl
      simp only [Value.agg.injEq, Array.mk.injEq, List.cons.injEq, Value.int.injEq, true_and, and_true] at e4
      exact e e4
theorem NM.del {w : World} {b n : Nat} {g : Int → Int → Option Value} (h : NM w b n g) {i p : Int} (hi : inR i) (hp : inR p) (hg : (g i p).isSome = true) (ty : TypeId) {g' : Int → Int → Option Value} (h1 : g' i p = none) (h2 : ∀ x y, ¬ (x = i ∧ y = p) → g' x y = g x y) :
    ∃ w', (Builtin.delete_ #[70, 97] ty #[.map (some b), keyV i p]).run Try.prog w = .ok (.tuple #[]) w' ∧ NM w' b (n - 1) g' ∧ Tch (fun g => g = b) w w' := by
  obtain ⟨f, h, hf⟩ := h
  obtain ⟨l, hl⟩ := key_some hi hp
  have hkl := law_key.key hl
  obtain ⟨w', hr, hM, ht⟩ := h.del law_key Try.underlying70 hl ty (f' := fun x => if x.sameKey l = true then none else f x) (by simp [WideAt.sameKey_self hkl]) (fun x hx => if_neg (fun e => hx (WideAt.sameKey_eq e)))
  have eN : delN f l n = n - 1 := by unfold delN; rw [hf _ _ _ hl, hg]; rfl
  rw [eN] at hM
  clear eN
  refine ⟨w', hr, ⟨_, hM, fun x y m hm => ?_⟩, ht⟩
  · by_cases e : x = i ∧ y = p
    · obtain ⟨rfl, rfl⟩ := e
      rw [hl] at hm
      injection hm with hm
      subst hm
      simp [WideAt.sameKey_self hkl, h1]
    · rw [h2 x y e]
      refine (if_neg (fun e2 => ?_)).trans (hf x y m hm)
      have e3 := WideAt.sameKey_eq e2
      subst e3
      have e4 := law_key.inj hm hl
      simp only [Value.agg.injEq, Array.mk.injEq, List.cons.injEq, Value.int.injEq, true_and, and_true] at e4
      exact e e4
theorem SM.put {w : World} {b n : Nat} {g : Int → Option Value} (h : SM w b n g) {i : Int} (hi : inR i) (hn : n < maxLen) (val : Value) {g' : Int → Option Value} (h1 : g' i = some val) (h2 : ∀ x, x ≠ i → g' x = g x) :
    ∃ w', (Instr.mapUpdate 71 (.map (some b)) (.int .i64 i) val).run Try.prog w = .ok () w' ∧ SM w' b (if (g i).isSome then n else n + 1) g' ∧ Tch (fun g => g = b) w w' := by
  obtain ⟨f, h, hf⟩ := h
  have hl := int_some hi
  have hkl := law_int.key hl
  obtain ⟨w', hr, hM, ht⟩ := h.put law_int Try.underlying71 hn hl val (f' := fun x => if x.sameKey (.int .i64 i) = true then some val else f x) (by simp [WideAt.sameKey_self hkl]) (fun x hx => if_neg (fun e => hx (WideAt.sameKey_eq e)))
  have eN : putN f (.int .i64 i) n = if (g i).isSome then n else n + 1 := by unfold putN; rw [hf]
  rw [eN] at hM
  clear eN
  refine ⟨w', hr, ⟨_, hM, fun x => ?_⟩, ht⟩
  · by_cases e : x = i
    · subst e
      simp [WideAt.sameKey_self hkl, h1]
    · rw [h2 x e]
      refine (if_neg (fun e2 => ?_)).trans (hf x)
      have e3 := WideAt.sameKey_eq e2
      injection e3 with _ e3
      exact e e3
theorem SM.del {w : World} {b n : Nat} {g : Int → Option Value} (h : SM w b n g) {i : Int} (hi : inR i) (ty : TypeId) {g' : Int → Option Value} (h1 : g' i = none) (h2 : ∀ x, x ≠ i → g' x = g x) :
    ∃ w', (Builtin.delete_ #[71, 3] ty #[.map (some b), .int .i64 i]).run Try.prog w = .ok (.tuple #[]) w' ∧ SM w' b (if (g i).isSome then n - 1 else n) g' ∧ Tch (fun g => g = b) w w' := by
  obtain ⟨f, h, hf⟩ := h
  have hl := int_some hi
  have hkl := law_int.key hl
  obtain ⟨w', hr, hM, ht⟩ := h.del law_int Try.underlying71 hl ty (f' := fun x => if x.sameKey (.int .i64 i) = true then none else f x) (by simp [WideAt.sameKey_self hkl]) (fun x hx => if_neg (fun e => hx (WideAt.sameKey_eq e)))
  have eN : delN f (.int .i64 i) n = if (g i).isSome then n - 1 else n := by unfold delN; rw [hf]
  rw [eN] at hM
  clear eN
  refine ⟨w', hr, ⟨_, hM, fun x => ?_⟩, ht⟩
  · by_cases e : x = i
    · subst e
      simp [WideAt.sameKey_self hkl, h1]
    · rw [h2 x e]
      refine (if_neg (fun e2 => ?_)).trans (hf x)
      have e3 := WideAt.sameKey_eq e2
      injection e3 with _ e3
      exact e e3
end Go.Proofs.Ytececlalnkiafaa
