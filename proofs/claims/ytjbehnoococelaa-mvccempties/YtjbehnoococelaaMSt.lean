import Derived.Test.YtjbehnoococelaaMFc
/- What the law has: a heap, and boxes that are kept. -/
namespace Go.Proofs.Ytjbehnoococelaa
open Go.RowKit Go Go.Sort Go.Maps

/-- From w0 on: a heap beside boxes. -/
def St (w0 w : World) (hb mb : Nat) (m : Mg) (L : HL) (q : Nat) (bx : List (Nat × Obj)) : Prop :=
  ∃ F, HS w hb mb m L F q ∧ (∀ i, i < w0.heap.size → F i) ∧ (∀ p ∈ bx, w.heap[p.1]? = some p.2 ∧ F p.1) ∧ Tch (fun _ => False) w0 w
section
variable {w0 w : World} {hb mb : Nat} {m : Mg} {L : HL} {q : Nat} {bx : List (Nat × Obj)}
theorem St.tch (h : St w0 w hb mb m L q bx) : Tch (fun _ => False) w0 w := by
  obtain ⟨F, h1, h2, h3, h4⟩ := h
  exact h4
theorem St.box (h : St w0 w hb mb m L q bx) {b : Nat} {o : Obj} (hm : (b, o) ∈ bx) : w.heap[b]? = some o := by
  obtain ⟨F, h1, h2, h3, h4⟩ := h
  exact (h3 _ hm).1
theorem St.no {w' : World} (h : St w0 w hb mb m L q bx) (t : Tch (fun _ => False) w w') : St w0 w' hb mb m L q bx := by
  obtain ⟨F, h1, h2, h3, h4⟩ := h
  exact ⟨F, h1.no t, h2, fun p hp => ⟨by rw [t.block _ (blk_lt (h3 p hp).1) (fun h => h)]; exact (h3 p hp).1, (h3 p hp).2⟩, h4.trans' t⟩
/-- New blocks are boxes. -/
theorem St.add {w' : World} (h : St w0 w hb mb m L q bx) (t : Tch (fun _ => False) w w') (nb : List (Nat × Obj)) (hn : ∀ p ∈ nb, w.heap.size ≤ p.1 ∧ w'.heap[p.1]? = some p.2) : St w0 w' hb mb m L q (bx ++ nb) := by
  obtain ⟨F, h1, h2, h3, h4⟩ := h
  refine ⟨_, h1.fresh t, fun i hi => .inl (h2 i hi), fun p hp => ?_, h4.trans' t⟩
  rcases List.mem_append.1 hp with hp | hp
  · exact ⟨by rw [t.block _ (blk_lt (h3 p hp).1) (fun h => h)]; exact (h3 p hp).1, .inl (h3 p hp).2⟩
  · exact ⟨(hn p hp).2, .inr ⟨(hn p hp).1, blk_lt (hn p hp).2⟩⟩
theorem St.alloc (h : St w0 w hb mb m L q bx) (o : Obj) : St w0 (w.alloc o) hb mb m L q (bx ++ [(w.heap.size, o)]) := h.add (Tch.alloc _ _ _) _ (fun p hp => by
  obtain rfl := List.mem_singleton.1 hp
  exact ⟨Nat.le_refl _, alloc_new _ _⟩)
theorem St.less (h : St w0 w hb mb m L q bx) {bx' : List (Nat × Obj)} (hs : ∀ p ∈ bx', p ∈ bx) : St w0 w hb mb m L q bx' := by
  obtain ⟨F, h1, h2, h3, h4⟩ := h
  exact ⟨F, h1, h2, fun p hp => h3 p (hs p hp), h4⟩
theorem St.more (h : St w0 w hb mb m L q bx) {q' : Nat} (hq : q ≤ q') : St w0 w hb mb m L q' bx := by
  obtain ⟨F, h1, h2⟩ := h
  exact ⟨F, h1.more hq, h2⟩
/-- A box written. -/
theorem St.set {hb0 : Nat} (h : St w0 w hb0 mb m L q bx) {w' : World} {b : Nat} {o o' : Obj} (hb : (b, o) ∈ bx) (hw0 : w0.heap.size ≤ b) (t : Tch (fun i => i = b) w w') (ho : w'.heap[b]? = some o') (bx' : List (Nat × Obj)) (hs : ∀ p ∈ bx', p = (b, o') ∨ (p ∈ bx ∧ p.1 ≠ b)) : St w0 w' hb0 mb m L q bx' := by
  obtain ⟨F, h1, h2, h3, h4⟩ := h
  refine ⟨F, h1.tch t (fun i _ e => by rw [e]; exact (h3 _ hb).2), h2, fun p hp => ?_, tch_new h4 hw0 t⟩
  rcases hs p hp with rfl | ⟨hp, hne⟩
  · exact ⟨ho, (h3 _ hb).2⟩
  · exact ⟨by rw [t.block _ (blk_lt (h3 p hp).1) hne]; exact (h3 p hp).1, (h3 p hp).2⟩
theorem St.kept {f : FuncId} {args : Array Value} {X : Ending → Prop} {m' : Mg} {L' : HL} {q' : Nat} (h : St w0 w hb mb m L q bx) (hc : ∀ F, HS w hb mb m L F q → (∀ p ∈ bx, F p.1) → (∀ i, i < w0.heap.size → F i) → Calls Try.prog f args w fun x w' => X x ∧ HS w' hb mb m' L' F q' ∧ Kept F w w') : Calls Try.prog f args w fun x w' => X x ∧ St w0 w' hb mb m' L' q' bx := by
  obtain ⟨F, h1, h2, h3, h4⟩ := h
  refine (hc F h1 (fun p hp => (h3 p hp).2) h2).mono ?_
  rintro x w' ⟨hx, hs, t⟩
  exact ⟨hx, F, hs, h2, fun p hp => ⟨by rw [t.block _ (blk_lt (h3 p hp).1) (fun hn => hn (h3 p hp).2)]; exact (h3 p hp).1, (h3 p hp).2⟩, h4.trans t (fun i hi hn => hn (h2 i hi))⟩
theorem St.hs (h : St w0 w hb mb m L q bx) : ∃ F, HS w hb mb m L F q := by
  obtain ⟨F, h1, _⟩ := h
  exact ⟨F, h1⟩
end
theorem begin_s {w0 w : World} {hb mb : Nat} {m : Mg} {L : HL} {q : Nat} {bx : List (Nat × Obj)} (h : St w0 w hb mb m L q bx) (hn : m.nx ≤ 2147483647) : Calls Try.prog 7 #[.pointer (some ⟨mb, 0, none⟩)] w fun x w' => x = .returned (.tuple #[.int .i64 m.nx, .int .i64 0]) ∧ St w0 w' hb mb m.begin L q bx := h.kept (X := fun x => x = .returned (.tuple #[.int .i64 m.nx, .int .i64 0])) (fun _ hs _ _ => begin_h hs hn)
theorem insert_s {w0 w : World} {hb mb : Nat} {m : Mg} {L : HL} {q : Nat} {bx : List (Nat × Obj)} (h : St w0 w hb mb m L q bx) (hq : q ≤ 1000) (k : Int) (h1 : -9223372036854775808 ≤ k) (h2 : k ≤ 9223372036854775807) (S : ByteArray) (hS : S.size ≤ maxLen) (mn mx : Int) (l : List Int) (so : Option Addr) (sc : Nat) (own : Int) (h3 : -9223372036854775808 ≤ own) (h4 : own ≤ 9223372036854775807) (hl : l.length ≤ 9223372036854775807) (hi : IR w so l) (hso : ∀ a, so = some a → ∃ o, (a.block, o) ∈ bx) (ao : Option Addr) (n c : Nat) (cs : List Value) (hr : RdR w ao n c cs) :
    Calls Try.prog 11 #[.pointer (some ⟨hb, 0, none⟩), .agg #[.int .i64 mn, .int .i64 mx, .slice so l.length sc], .int .i64 own, .int .i64 k, .string S, .slice ao n c] w fun x w' => x = .returned (.int .i64 (insE m mn mx l own (chL L k S.data.toList) : Nat)) ∧ St w0 w' hb mb m (if insE m mn mx l own (chL L k S.data.toList) = 0 then appL L k S.data.toList ⟨own, true, n, cs⟩ else L) (q + 3) bx := h.kept (X := fun x => x = .returned (.int .i64 (insE m mn mx l own (chL L k S.data.toList) : Nat))) (fun F hs hb' _ => (insert_f w hb mb m L F q hs hq k h1 h2 S hS mn mx l so sc own h3 h4 hl hi (fun a ha => by obtain ⟨o, ho⟩ := hso a ha; exact hb' _ ho) ao n c cs hr).mono (fun _ _ ⟨hx, hy⟩ => ⟨hx, hy⟩))
/-- A new manager and a heap over it. -/
theorem St.first {w0 w : World} {hb mb : Nat} {m : Mg} {L : HL} {q : Nat} (hs : HS w hb mb m L (fun i => i < w0.heap.size) q) (t : Tch (fun _ => False) w0 w) : St w0 w hb mb m L q [] := ⟨_, hs, fun _ h => h, (fun p hp => by cases hp), t⟩
def ints (l : List Nat) : List Int := l.map (fun x : Nat => (x : Int))
theorem IR.of_own {w : World} {base : Nat} {ao : Option Addr} {n c : Nat} {l : List Nat} (h : w.ownsRow base 3 1 (.slice ao n c) n (icl l)) : IR w ao (l.map (fun x : Nat => (x : Int))) := fun k x hk => by
  rw [List.getElem?_map] at hk
  cases hl : l[k]? with
  | none => rw [hl] at hk; cases hk
  | some y =>
    rw [hl] at hk
    simp only [Option.map_some, Option.some.injEq] at hk
    subst hk
    rcases h.2 with ⟨e, h0⟩ | ⟨g, cap, cur, e, _, hg, _, _, hs, ht⟩
    · have h1 := h.1
      rw [icl_len, h0] at h1
      have := (List.getElem?_eq_some_iff.1 hl).1
      omega
    · injection e with e
      subst e
      have h9 := h.cells (g := g) rfl k (.int .i64 (y : Nat)) (by simp [icl, hl])
      rw [add_plain] at h9
      exact ⟨g, 0, rfl, h9⟩
/-- A snapshot taken: its list is a box. -/
theorem snap_s {w0 w : World} {hb mb : Nat} {m : Mg} {L : HL} {q : Nat} {bx : List (Nat × Obj)} (h : St w0 w hb mb m L q bx) : Calls Try.prog 6 #[.pointer (some ⟨mb, 0, none⟩)] w fun x w' => ∃ ao c nb, x = .returned (.agg #[.int .i64 (m.on.headD m.nx : Nat), .int .i64 m.nx, .slice ao m.on.length c]) ∧ St w0 w' hb mb m L q (bx ++ nb) ∧ Tch (fun _ => False) w w' ∧ (∀ a, ao = some a → ∃ o, (a.block, o) ∈ nb) ∧ ∀ W : World, (∀ p ∈ nb, W.heap[p.1]? = some p.2) → IR W ao (ints m.on) := by
  obtain ⟨F, hs⟩ := h.hs
  refine (snapshot_h hs).mono ?_
  rintro x w' ⟨⟨v', rfl, ho⟩, t⟩
  obtain ⟨ao, c, rfl⟩ := row_slice ho
  cases ao with
  | none => exact ⟨none, c, [], rfl, h.add t [] (fun p hp => by cases hp), t, (fun a ha => by cases ha), fun W _ k n hk => by
      have hl : m.on.length = 0 := by
        rcases ho.2 with ⟨_, h0⟩ | ⟨g, cap, cur, e, _⟩
        · exact h0
        · cases e
      have : ints m.on = [] := List.length_eq_zero_iff.1 (by simp [ints, hl])
      rw [this] at hk; simp at hk⟩
  | some a =>
    obtain ⟨g, cap, cur, e, hg0, hg, r1, r2, r3, r4⟩ := ho.2.resolve_left (fun h => by cases h.1)
    cases e
    refine ⟨some ⟨g, 0, none⟩, c, [(g, .cells cur 3 (0, 0))], rfl, h.add t _ (fun p hp => ?_), t, fun a ha => ?_, fun W hW => ?_⟩
    · obtain rfl := List.mem_singleton.1 hp
      exact ⟨hg0, hg⟩
    · cases ha; exact ⟨_, List.mem_singleton.2 rfl⟩
    · exact IR.of_own (base := w.heap.size) ⟨ho.1, .inr ⟨g, c, cur, rfl, hg0, hW _ (List.mem_singleton.2 rfl), r1, r2, r3, r4⟩⟩
theorem eq_row (c : Int) (w : World) : (Op.equalIn 10000 92 (.agg #[.int .i64 1, .int .i64 c, .string ⟨#[]⟩]) (.agg #[.int .i64 1, .int .i64 c, .string ⟨#[]⟩])).run Try.prog w = .ok true w := by
  have u3 := Try.underlying3
  have u9 := Try.underlying9
  have hS : Try.prog.underlying 92 = some (.struct (Try.prog.fieldsOf 92)) := by kernel_rfl
  have hp : Try.prog.stoodInHeld 92 = false := by kernel_rfl
  rw [show (10000 : Nat) = 9999 + 1 from rfl, run_equalIn_agg w 9999 92 _ _ hS hp]
  simp only [Program.fieldsOf, Try.underlying92]
  go_simp
theorem ne_row (c : Int) (w : World) : (binOp .neq 92 (.agg #[.int .i64 1, .int .i64 c, .string ⟨#[]⟩]) (.agg #[.int .i64 1, .int .i64 c, .string ⟨#[]⟩])).run Try.prog w = .ok (.bool false) w := by
  rw [run_neq_struct, eq_row]; rfl
set_option maxRecDepth 100000 in
theorem same_any (c : Int) (ao bo : Option Addr) (ac bc : Nat) (w : World) (ha : RdR w ao 1 ac (rowC c)) (hb : RdR w bo 1 bc (rowC c)) : Calls Try.prog 22 #[.slice ao 1 ac, .slice bo 1 bc] w fun x w' => x = .returned (.bool true) ∧ Tch (fun _ => False) w w' := by
  rcases ha.at' with ⟨_, h0, _⟩ | ⟨g, o, rfl, hg, hc⟩
  · cases h0
  rcases hb.at' with ⟨_, h0, _⟩ | ⟨g2, o2, rfl, hg2, hc2⟩
  · cases h0
  have a0 : w.cell? ⟨g, o, none⟩ = some (.int .i64 1) := hc 0 _ rfl
  have a1 : w.cell? ⟨g, o + 1, none⟩ = some (.int .i64 c) := hc 1 _ rfl
  have a2 : w.cell? ⟨g, o + 2, none⟩ = some (.string ⟨#[]⟩) := hc 2 _ rfl
  have b0 : w.cell? ⟨g2, o2, none⟩ = some (.int .i64 1) := hc2 0 _ rfl
  have b1 : w.cell? ⟨g2, o2 + 1, none⟩ = some (.int .i64 c) := hc2 1 _ rfl
  have b2 : w.cell? ⟨g2, o2 + 2, none⟩ = some (.string ⟨#[]⟩) := hc2 2 _ rfl
  have hne := ne_row c
  clear ha hb hc hc2
  go_enter Try.func22, Try.ntmps22
  go_wp2
  refine wp_loop_rounds 2 ?_
  rw [rounds_succ]
  go_wp2
  go_region
  go_wp2
  rw [rounds_succ]
  go_wp2
  go_ret
  exact ⟨rfl, (Tch.refl _ _).drew⟩
end Go.Proofs.Ytjbehnoococelaa
