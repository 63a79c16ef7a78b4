import Derived.Test.YtokgihmigkplaaaGreatMFc
import Derived.Test.YtokgihmigkplaaaGreatMPl2
import Derived.Deep.Cut
set_option maxHeartbeats 2000000
set_option maxRecDepth 100000
namespace Go.Proofs.YtokgihmigkplaaaGreat
open Go.RowKit Go Go.Sort Go.Maps
def St (w0 w : World) (hb mb : Nat) (m : Mg) (L : HL) (q : Nat) (bx : List (Nat × Obj)) : Prop :=
  ∃ F, HS w hb mb m L F q ∧ (∀ i, i < w0.heap.size → F i) ∧ (∀ p ∈ bx, w.heap[p.1]? = some p.2 ∧ F p.1) ∧ Tch (fun _ => False) w0 w
section
variable {w0 w : World} {hb mb : Nat} {m : Mg} {L : HL} {q : Nat} {bx : List (Nat × Obj)}
theorem St.tch (h : St w0 w hb mb m L q bx) : Tch (fun _ => False) w0 w := by
  obtain ⟨F, h1, h2, h3, h4⟩ := h
  exact h4
theorem St.box (h : St w0 w hb mb m L q bx) {b : Nat} {o : Obj} (hm : (b, o) ∈ bx) : w.heap[b]? = some o := by
  obtain ⟨F, h1, h2, h3, h4⟩ := h
  exact (h3 _ hm).1
theorem St.no {w' : World} (h : St w0 w hb mb m L q bx) (t : Tch (fun _ => False) w w') : St w0 w' hb mb m L q bx := by
  obtain ⟨F, h1, h2, h3, h4⟩ := h
  exact ⟨F, h1.no t, h2, fun p hp => ⟨by rw [t.block _ (blk_lt (h3 p hp).1) (fun h => h)]; exact (h3 p hp).1, (h3 p hp).2⟩, h4.trans' t⟩
theorem St.add {w' : World} (h : St w0 w hb mb m L q bx) (t : Tch (fun _ => False) w w') (nb : List (Nat × Obj)) (hn : ∀ p ∈ nb, w.heap.size ≤ p.1 ∧ w'.heap[p.1]? = some p.2) : St w0 w' hb mb m L q (bx ++ nb) := by
  obtain ⟨F, h1, h2, h3, h4⟩ := h
  refine ⟨_, h1.fresh t, fun i hi => .inl (h2 i hi), fun p hp => ?_, h4.trans' t⟩
  rcases List.mem_append.1 hp with hp | hp
  · exact ⟨by rw [t.block _ (blk_lt (h3 p hp).1) (fun h => h)]; exact (h3 p hp).1, .inl (h3 p hp).2⟩
  · exact ⟨(hn p hp).2, .inr ⟨(hn p hp).1, blk_lt (hn p hp).2⟩⟩
theorem St.alloc (h : St w0 w hb mb m L q bx) (o : Obj) : St w0 (w.alloc o) hb mb m L q (bx ++ [(w.heap.size, o)]) := h.add (Tch.alloc _ _ _) _ (fun p hp => by
  obtain rfl := List.mem_singleton.1 hp
  exact ⟨Nat.le_refl _, alloc_new _ _⟩)
theorem St.kept {f : FuncId} {args : Array Value} {X : Ending → Prop} {m' : Mg} {L' : HL} {q' : Nat} (h : St w0 w hb mb m L q bx) (hc : ∀ F, HS w hb mb m L F q → (∀ p ∈ bx, F p.1) → (∀ i, i < w0.heap.size → F i) → Calls Tryz.prog f args w fun x w' => X x ∧ HS w' hb mb m' L' F q' ∧ Kept F w w') : Calls Tryz.prog f args w fun x w' => X x ∧ St w0 w' hb mb m' L' q' bx := by
  obtain ⟨F, h1, h2, h3, h4⟩ := h
  refine (hc F h1 (fun p hp => (h3 p hp).2) h2).mono ?_
  rintro x w' ⟨hx, hs, t⟩
  exact ⟨hx, F, hs, h2, fun p hp => ⟨by rw [t.block _ (blk_lt (h3 p hp).1) (fun hn => hn (h3 p hp).2)]; exact (h3 p hp).1, (h3 p hp).2⟩, h4.trans t (fun i hi hn => hn (h2 i hi))⟩
theorem St.hs (h : St w0 w hb mb m L q bx) : ∃ F, HS w hb mb m L F q := by
  obtain ⟨F, h1, _⟩ := h
  exact ⟨F, h1⟩
end
theorem begin_s {w0 w : World} {hb mb : Nat} {m : Mg} {L : HL} {q : Nat} {bx : List (Nat × Obj)} (h : St w0 w hb mb m L q bx) (hn : m.nx ≤ 2147483647) : Calls Tryz.prog 17 #[.pointer (some ⟨mb, 0, none⟩)] w fun x w' => x = .returned (.tuple #[.int .i64 m.nx, .int .i64 0]) ∧ St w0 w' hb mb m.begin L q bx := h.kept (X := fun x => x = .returned (.tuple #[.int .i64 m.nx, .int .i64 0])) (fun _ hs _ _ => begin_h hs hn)
theorem insert_s {w0 w : World} {hb mb : Nat} {m : Mg} {L : HL} {q : Nat} {bx : List (Nat × Obj)} (h : St w0 w hb mb m L q bx) (hq : q ≤ 1000) (k : Int) (h1 : -9223372036854775808 ≤ k) (h2 : k ≤ 9223372036854775807) (S : ByteArray) (hS : S.size ≤ maxLen) (mn mx : Int) (l : List Int) (so : Option Addr) (sc : Nat) (own : Int) (h3 : -9223372036854775808 ≤ own) (h4 : own ≤ 9223372036854775807) (hl : l.length ≤ 9223372036854775807) (hi : IR w so l) (hso : ∀ a, so = some a → ∃ o, (a.block, o) ∈ bx) (ao : Option Addr) (n c : Nat) (cs : List Value) (hr : RdR w ao n c cs) :
    Calls Tryz.prog 18 #[.pointer (some ⟨hb, 0, none⟩), .agg #[.int .i64 mn, .int .i64 mx, .slice so l.length sc], .int .i64 own, .int .i64 k, .string S, .slice ao n c] w fun x w' => x = .returned (.int .i64 (insE m mn mx l own (chL L k S.data.toList) : Nat)) ∧ St w0 w' hb mb m (if insE m mn mx l own (chL L k S.data.toList) = 0 then appL L k S.data.toList ⟨own, true, n, cs⟩ else L) (q + 3) bx := h.kept (X := fun x => x = .returned (.int .i64 (insE m mn mx l own (chL L k S.data.toList) : Nat))) (fun F hs hb' _ => (insert_f w hb mb m L F q hs hq k h1 h2 S hS mn mx l so sc own h3 h4 hl hi (fun a ha => by obtain ⟨o, ho⟩ := hso a ha; exact hb' _ ho) ao n c cs hr).mono (fun _ _ ⟨hx, hy⟩ => ⟨hx, hy⟩))
theorem St.first {w0 w : World} {hb mb : Nat} {m : Mg} {L : HL} {q : Nat} (hs : HS w hb mb m L (fun i => i < w0.heap.size) q) (t : Tch (fun _ => False) w0 w) : St w0 w hb mb m L q [] := ⟨_, hs, fun _ h => h, (fun p hp => by cases hp), t⟩
def ints (l : List Nat) : List Int := l.map (fun x : Nat => (x : Int))
theorem IR.of_own {w : World} {base : Nat} {ao : Option Addr} {n c : Nat} {l : List Nat} (h : w.ownsRow base 3 1 (.slice ao n c) n (icl l)) : IR w ao (l.map (fun x : Nat => (x : Int))) := fun k x hk => by
  rw [List.getElem?_map] at hk
  cases hl : l[k]? with
  | none => rw [hl] at hk; cases hk
  | some y =>
    rw [hl] at hk
    simp only [Option.map_some, Option.some.injEq] at hk
    subst hk
    rcases h.2 with ⟨e, h0⟩ | ⟨g, cap, cur, e, _, hg, _, _, hs, ht⟩
    · have h1 := h.1
      rw [icl_len, h0] at h1
      have := (List.getElem?_eq_some_iff.1 hl).1
      omega
    · injection e with e
      subst e
      have h9 := h.cells (g := g) rfl k (.int .i64 (y : Nat)) (by simp [icl, hl])
      rw [add_plain] at h9
      exact ⟨g, 0, rfl, h9⟩
theorem snap_s {w0 w : World} {hb mb : Nat} {m : Mg} {L : HL} {q : Nat} {bx : List (Nat × Obj)} (h : St w0 w hb mb m L q bx) : Calls Tryz.prog 12 #[.pointer (some ⟨mb, 0, none⟩)] w fun x w' => ∃ ao c nb, x = .returned (.agg #[.int .i64 (m.on.headD m.nx : Nat), .int .i64 m.nx, .slice ao m.on.length c]) ∧ St w0 w' hb mb m L q (bx ++ nb) ∧ Tch (fun _ => False) w w' ∧ (∀ a, ao = some a → ∃ o, (a.block, o) ∈ nb) ∧ ∀ W : World, (∀ p ∈ nb, W.heap[p.1]? = some p.2) → IR W ao (ints m.on) := by
  obtain ⟨F, hs⟩ := h.hs
  refine (snapshot_h hs).mono ?_
  rintro x w' ⟨⟨v', rfl, ho⟩, t⟩
  obtain ⟨ao, c, rfl⟩ := row_slice ho
  cases ao with
  | none => exact ⟨none, c, [], rfl, h.add t [] (fun p hp => by cases hp), t, (fun a ha => by cases ha), fun W _ k n hk => by
      have hl : m.on.length = 0 := by
        rcases ho.2 with ⟨_, h0⟩ | ⟨g, cap, cur, e, _⟩
        · exact h0
        · cases e
      have : ints m.on = [] := List.length_eq_zero_iff.1 (by simp [ints, hl])
      rw [this] at hk; simp at hk⟩
  | some a =>
    obtain ⟨g, cap, cur, e, hg0, hg, r1, r2, r3, r4⟩ := ho.2.resolve_left (fun h => by cases h.1)
    cases e
    refine ⟨some ⟨g, 0, none⟩, c, [(g, .cells cur 3 (0, 0))], rfl, h.add t _ (fun p hp => ?_), t, fun a ha => ?_, fun W hW => ?_⟩
    · obtain rfl := List.mem_singleton.1 hp
      exact ⟨hg0, hg⟩
    · cases ha; exact ⟨_, List.mem_singleton.2 rfl⟩
    · exact IR.of_own (base := w.heap.size) ⟨ho.1, .inr ⟨g, c, cur, rfl, hg0, hW _ (List.mem_singleton.2 rfl), r1, r2, r3, r4⟩⟩
theorem eq_row (c : Int) (w : World) : (Op.equalIn 10000 89 (.agg #[.int .i64 1, .int .i64 c, .string ⟨#[]⟩]) (.agg #[.int .i64 1, .int .i64 c, .string ⟨#[]⟩])).run Tryz.prog w = .ok true w := by
  have u3 := Tryz.underlying3
  have u9 := Tryz.underlying9
  have hS : Tryz.prog.underlying 89 = some (.struct (Tryz.prog.fieldsOf 89)) := by kernel_rfl
  have hp : Tryz.prog.stoodInHeld 89 = false := by kernel_rfl
  rw [show (10000 : Nat) = 9999 + 1 from rfl, run_equalIn_agg w 9999 89 _ _ hS hp]
  simp only [Program.fieldsOf, Tryz.underlying89]
  go_simp
theorem ne_row (c : Int) (w : World) : (binOp .neq 89 (.agg #[.int .i64 1, .int .i64 c, .string ⟨#[]⟩]) (.agg #[.int .i64 1, .int .i64 c, .string ⟨#[]⟩])).run Tryz.prog w = .ok (.bool false) w := by
  rw [run_neq_struct, eq_row]; rfl
theorem same_any (c : Int) (ao bo : Option Addr) (ac bc : Nat) (w : World) (ha : RdR w ao 1 ac (rowC c)) (hb : RdR w bo 1 bc (rowC c)) : Calls Tryz.prog 21 #[.slice ao 1 ac, .slice bo 1 bc] w fun x w' => x = .returned (.bool true) ∧ Tch (fun _ => False) w w' := by
  rcases ha.at' with ⟨_, h0, _⟩ | ⟨g, o, rfl, hg, hc⟩
  · cases h0
  rcases hb.at' with ⟨_, h0, _⟩ | ⟨g2, o2, rfl, hg2, hc2⟩
  · cases h0
  have a0 : w.cell? ⟨g, o, none⟩ = some (.int .i64 1) := hc 0 _ rfl
  have a1 : w.cell? ⟨g, o + 1, none⟩ = some (.int .i64 c) := hc 1 _ rfl
  have a2 : w.cell? ⟨g, o + 2, none⟩ = some (.string ⟨#[]⟩) := hc 2 _ rfl
  have b0 : w.cell? ⟨g2, o2, none⟩ = some (.int .i64 1) := hc2 0 _ rfl
  have b1 : w.cell? ⟨g2, o2 + 1, none⟩ = some (.int .i64 c) := hc2 1 _ rfl
  have b2 : w.cell? ⟨g2, o2 + 2, none⟩ = some (.string ⟨#[]⟩) := hc2 2 _ rfl
  have hne := ne_row c
  clear ha hb hc hc2
  go_enter Tryz.func21, Tryz.ntmps21
  go_wp2
  refine wp_loop_rounds 2 ?_
  rw [rounds_succ]
  go_wp2
  go_region
  go_wp2
  rw [rounds_succ]
  go_wp2
  go_ret
  exact ⟨rfl, (Tch.refl _ _).drew⟩
end Go.Proofs.YtokgihmigkplaaaGreat
namespace Go.Proofs.YtokgihmigkplaaaGreat
open Go.RowKit Go Go.Sort Go.Maps
end Go.Proofs.YtokgihmigkplaaaGreat
namespace Go.Proofs.YtokgihmigkplaaaGreat.F
open Go.RowKit Go Go.Sort
set_option maxRecDepth 100000
structure Sx where
  so : Option Addr
  sc : Nat
  po : Option Addr
  pc : Nat
  wo : Option Addr
  wc : Nat
def seC (s : Se) (a : Sx) : List Value := [.bool s.op, .bool s.pp, .int .i64 s.x, .int .i64 s.mn, .int .i64 s.mx, .slice a.so s.on.length a.sc, .int .i64 (s.base.getD 0 0), .int .i64 (s.base.getD 1 0), .int .i64 (s.base.getD 2 0), .int .i64 (s.base.getD 3 0), .int .i64 (s.base.getD 4 0), .int .i64 (s.base.getD 5 0), .int .i64 s.wh, .slice a.po s.ps.length a.pc, .slice a.wo s.ws.length a.wc]
def prC (l : List Pr) : List Value := l.flatMap (fun p => [.int .i64 p.x, .int .i64 p.par, .bool p.live, .bool p.bk])
def wtC (l : List Wt) : List Value := l.flatMap (fun w => [.int .i64 w.pt, .int .i64 w.key, .bool w.gone, .int .i64 w.n])
theorem prC_get : ∀ (l : List Pr) (i : Nat) (p : Pr), l[i]? = some p → (prC l)[i * 4]? = some (.int .i64 p.x) ∧ (prC l)[i * 4 + 1]? = some (.int .i64 p.par) ∧ (prC l)[i * 4 + 2]? = some (.bool p.live) ∧ (prC l)[i * 4 + 3]? = some (.bool p.bk)
  | [], _, _, h => by cases h
  | q :: l, 0, p, h => by
    injection h with h; subst h
    exact ⟨rfl, rfl, rfl, rfl⟩
  | q :: l, i + 1, p, h => by
    have := prC_get l i p h
    have e : prC (q :: l) = [.int .i64 q.x, .int .i64 q.par, .bool q.live, .bool q.bk] ++ prC l := rfl
    rw [e, show (i + 1) * 4 = 4 + i * 4 by omega]
    refine ⟨?_, ?_, ?_, ?_⟩ <;> rw [List.getElem?_append_right (by simp only [List.length_cons, List.length_nil]; omega)] <;> simp only [List.length_cons, List.length_nil]
    · rw [show 4 + i * 4 - (0 + 1 + 1 + 1 + 1) = i * 4 by omega]; exact this.1
    · rw [show 4 + i * 4 + 1 - (0 + 1 + 1 + 1 + 1) = i * 4 + 1 by omega]; exact this.2.1
    · rw [show 4 + i * 4 + 2 - (0 + 1 + 1 + 1 + 1) = i * 4 + 2 by omega]; exact this.2.2.1
    · rw [show 4 + i * 4 + 3 - (0 + 1 + 1 + 1 + 1) = i * 4 + 3 by omega]; exact this.2.2.2
theorem wtC_get : ∀ (l : List Wt) (i : Nat) (p : Wt), l[i]? = some p → (wtC l)[i * 4]? = some (.int .i64 p.pt) ∧ (wtC l)[i * 4 + 1]? = some (.int .i64 p.key) ∧ (wtC l)[i * 4 + 2]? = some (.bool p.gone) ∧ (wtC l)[i * 4 + 3]? = some (.int .i64 p.n)
  | [], _, _, h => by cases h
  | q :: l, 0, p, h => by
    injection h with h; subst h
    exact ⟨rfl, rfl, rfl, rfl⟩
  | q :: l, i + 1, p, h => by
    have := wtC_get l i p h
    have e : wtC (q :: l) = [.int .i64 q.pt, .int .i64 q.key, .bool q.gone, .int .i64 q.n] ++ wtC l := rfl
    rw [e, show (i + 1) * 4 = 4 + i * 4 by omega]
    refine ⟨?_, ?_, ?_, ?_⟩ <;> rw [List.getElem?_append_right (by simp only [List.length_cons, List.length_nil]; omega)] <;> simp only [List.length_cons, List.length_nil]
    · rw [show 4 + i * 4 - (0 + 1 + 1 + 1 + 1) = i * 4 by omega]; exact this.1
    · rw [show 4 + i * 4 + 1 - (0 + 1 + 1 + 1 + 1) = i * 4 + 1 by omega]; exact this.2.1
    · rw [show 4 + i * 4 + 2 - (0 + 1 + 1 + 1 + 1) = i * 4 + 2 by omega]; exact this.2.2.1
    · rw [show 4 + i * 4 + 3 - (0 + 1 + 1 + 1 + 1) = i * 4 + 3 by omega]; exact this.2.2.2
def AtF (w : World) (b off : Nat) (cs : List Value) : Prop := ∀ j u, cs[j]? = some u → w.cell? ⟨b, off + j, none⟩ = some u
def SlF (w : World) (ao : Option Addr) (cs : List Value) : Prop := cs ≠ [] → ∃ g, ao = some ⟨g, 0, none⟩ ∧ g < w.heap.size ∧ AtF w g 0 cs
structure SR (w : World) (b off : Nat) (s : Se) (a : Sx) : Prop where
  lt : b < w.heap.size
  c : AtF w b off (seC s a)
  p : SlF w a.po (prC s.ps)
  q : SlF w a.wo (wtC s.ws)
  pl : s.ps.length ≤ 1000
  wl : s.ws.length ≤ 1000
  pr : ∀ (i : Nat) (v : Pr), s.ps[i]? = some v → -1 ≤ v.par ∧ v.par < i ∧ v.x ≤ 1000000
  wr : ∀ v ∈ s.ws, -1 ≤ v.pt ∧ v.pt < s.ps.length ∧ v.key < 6 ∧ v.n < 1000
theorem AtF.no {w w' : World} {b off : Nat} {cs : List Value} (h : AtF w b off cs) (hb : b < w.heap.size) (t : Tch (fun _ => False) w w') : AtF w' b off cs := fun j u hu => by
  rw [t.cell (p := ⟨b, off + j, none⟩) hb (fun e => e)]; exact h j u hu
theorem SlF.no {w w' : World} {ao : Option Addr} {cs : List Value} (h : SlF w ao cs) (t : Tch (fun _ => False) w w') : SlF w' ao cs := fun hc => by
  obtain ⟨g, e, hg, ha⟩ := h hc
  exact ⟨g, e, Nat.lt_of_lt_of_le hg t.size, ha.no hg t⟩
theorem SR.no {w w' : World} {b off : Nat} {s : Se} {a : Sx} (h : SR w b off s a) (t : Tch (fun _ => False) w w') : SR w' b off s a :=
  ⟨Nat.lt_of_lt_of_le h.lt t.size, h.c.no h.lt t, h.p.no t, h.q.no t, h.pl, h.wl, h.pr, h.wr⟩
theorem prC_ne {l : List Pr} (h : l ≠ []) : prC l ≠ [] := by
  cases l with
  | nil => exact absurd rfl h
  | cons a l => exact fun e => by cases e
theorem wtC_ne {l : List Wt} (h : l ≠ []) : wtC l ≠ [] := by
  cases l with
  | nil => exact absurd rfl h
  | cons a l => exact fun e => by cases e
theorem SR.part {w : World} {b off : Nat} {s : Se} {a : Sx} (h : SR w b off s a) {i : Nat} {p : Pr} (hp : s.ps[i]? = some p) : ∃ g, a.po = some ⟨g, 0, none⟩ ∧ w.cell? ⟨g, i * 4, none⟩ = some (.int .i64 p.x) ∧ w.cell? ⟨g, i * 4 + 1, none⟩ = some (.int .i64 p.par) ∧ w.cell? ⟨g, i * 4 + 2, none⟩ = some (.bool p.live) ∧ w.cell? ⟨g, i * 4 + 3, none⟩ = some (.bool p.bk) := by
  obtain ⟨g, e, _, ha⟩ := h.p (prC_ne (fun e => by rw [e] at hp; cases hp))
  obtain ⟨h0, h1, h2, h3⟩ := prC_get s.ps i p hp
  have k0 := ha _ _ h0
  have k1 := ha _ _ h1
  have k2 := ha _ _ h2
  have k3 := ha _ _ h3
  rw [Nat.zero_add] at k0 k1 k2 k3
  exact ⟨g, e, k0, k1, k2, k3⟩
theorem SR.write {w : World} {b off : Nat} {s : Se} {a : Sx} (h : SR w b off s a) {i : Nat} {p : Wt} (hp : s.ws[i]? = some p) : ∃ g, a.wo = some ⟨g, 0, none⟩ ∧ w.cell? ⟨g, i * 4, none⟩ = some (.int .i64 p.pt) ∧ w.cell? ⟨g, i * 4 + 1, none⟩ = some (.int .i64 p.key) ∧ w.cell? ⟨g, i * 4 + 2, none⟩ = some (.bool p.gone) ∧ w.cell? ⟨g, i * 4 + 3, none⟩ = some (.int .i64 p.n) := by
  obtain ⟨g, e, _, ha⟩ := h.q (wtC_ne (fun e => by rw [e] at hp; cases hp))
  obtain ⟨h0, h1, h2, h3⟩ := wtC_get s.ws i p hp
  have k0 := ha _ _ h0
  have k1 := ha _ _ h1
  have k2 := ha _ _ h2
  have k3 := ha _ _ h3
  rw [Nat.zero_add] at k0 k1 k2 k3
  exact ⟨g, e, k0, k1, k2, k3⟩
theorem standing_any (w : World) (b off : Nat) (s : Se) (a : Sx) (h : SR w b off s a) (v : Wt) (h1 : -1 ≤ v.pt) (h2 : v.pt < s.ps.length) :
    Calls Tryz.prog 27 #[.pointer (some ⟨b, off, none⟩), .agg #[.int .i64 v.pt, .int .i64 v.key, .bool v.gone, .int .i64 v.n]] w fun x w' => x = .returned (.bool (stdI s v.pt)) ∧ Tch (fun _ => False) w w' := by
  obtain ⟨pt, key, gone, n⟩ := v
  dsimp only at h1 h2 ⊢
  have c13 : w.cell? ⟨b, off + 13, none⟩ = some (.slice a.po s.ps.length a.pc) := h.c 13 _ rfl
  have hb := h.lt
  by_cases h0 : 0 ≤ pt
  · obtain ⟨i, rfl⟩ : ∃ i : Nat, pt = i := ⟨pt.toNat, by omega⟩
    have hi : i < s.ps.length := by omega
    obtain ⟨g, e, _, _, _, k3⟩ := h.part (List.getElem?_eq_getElem hi)
    have hstd : stdI s (i : Int) = !(s.ps[i]).bk := by
      unfold stdI
      rw [if_pos h0]
      simp only [Int.toNat_natCast, List.getElem?_eq_getElem hi]
    rw [hstd]
    generalize (s.ps[i]).bk = bk at k3 ⊢
    have hpl := h.pl
    rw [e] at c13
    obtain ⟨ln, hln⟩ : ∃ ln, ln = s.ps.length := ⟨_, rfl⟩
    rw [← hln] at c13 hi hpl
    have hlt := h.p (prC_ne (fun e => by rw [e] at hln; simp at hln; omega))
    have hgl : g < w.heap.size := by
      obtain ⟨g', e', hg', _⟩ := hlt
      rw [e] at e'; injection e' with e'; injection e' with e' _
      omega
    obtain ⟨w0, hw0⟩ : ∃ w0, w0 = w.alloc (.cells #[.int .i64 (i : Int), .int .i64 (key : Int), .bool gone, .int .i64 (n : Int)] 73) := ⟨_, rfl⟩
    obtain ⟨N, hN⟩ : ∃ N, N = w.heap.size := ⟨_, rfl⟩
    have t0 : Tch (fun _ => False) w w0 := by rw [hw0]; exact Tch.alloc _ _ _
    have d13 : w0.cell? ⟨b, off + 13, none⟩ = some (.slice (some ⟨g, 0, none⟩) ln a.pc) := by rw [t0.cell (p := ⟨b, off + 13, none⟩) hb (fun e => e)]; exact c13
    have d3 : w0.cell? ⟨g, i * 4 + 3, none⟩ = some (.bool bk) := by rw [t0.cell (p := ⟨g, i * 4 + 3, none⟩) hgl (fun e => e)]; exact k3
    have x0 : w0.cell? ⟨N, 0, none⟩ = some (.int .i64 (i : Int)) := by rw [hw0, hN, blk_cell (alloc_new _ _)]; rfl
    have HT0 : Hid _ := t0
    have HW0 : Hid (w0 = _) := hw0
    have HN : Hid (N = w.heap.size) := hN
    have hi0 : ¬ (i : Int) < 0 := by omega
    clear h hstd hln h2 e k3 c13 t0 hw0 hN hb hgl hlt
    go_enter Tryz.func27, Tryz.ntmps27
    go_upto_region 1 with (fail)
    rw [← HW0.out, ← HN.out]
    go_quiet (fail)
    go_wp2_with fail
    go_ret
    exact ⟨rfl, HT0.out.drewN nq⟩
  · have e : pt = -1 := by omega
    subst e
    have hstd : stdI s (-1) = true := rfl
    rw [hstd]
    obtain ⟨w0, hw0⟩ : ∃ w0, w0 = w.alloc (.cells #[.int .i64 (-1), .int .i64 (key : Int), .bool gone, .int .i64 (n : Int)] 73) := ⟨_, rfl⟩
    obtain ⟨N, hN⟩ : ∃ N, N = w.heap.size := ⟨_, rfl⟩
    have t0 : Tch (fun _ => False) w w0 := by rw [hw0]; exact Tch.alloc _ _ _
    have x0 : w0.cell? ⟨N, 0, none⟩ = some (.int .i64 (-1)) := by rw [hw0, hN, blk_cell (alloc_new _ _)]; rfl
    have HT0 : Hid _ := t0
    have HW0 : Hid (w0 = _) := hw0
    have HN : Hid (N = w.heap.size) := hN
    clear h hstd h1 h2 h0 c13 hb t0 hw0 hN
    go_enter Tryz.func27, Tryz.ntmps27
    go_upto_region 1 with (fail)
    rw [← HW0.out, ← HN.out]
    go_quiet (fail)
    go_wp2_with fail
    go_ret
    exact ⟨rfl, HT0.out.drewN nq⟩
end Go.Proofs.YtokgihmigkplaaaGreat.F
namespace Go.Proofs.YtokgihmigkplaaaGreat.F
open Go.RowKit Go Go.Sort
set_option maxRecDepth 100000
def isW (s : Se) (κ : Nat) (w : Wt) : Bool := stdI s w.pt && decide (w.key = κ)
theorem wroteS_any (s : Se) (κ : Nat) : wroteS s κ = s.ws.any (isW s κ) := by
  unfold wroteS own
  show (!(s.ws.filter (isW s κ)).isEmpty) = _
  induction s.ws with
  | nil => rfl
  | cons w l ih =>
    rw [List.filter_cons, List.any_cons]
    cases isW s κ w with
    | true => rfl
    | false => simpa using ih
def foldS (s : Se) (κ k : Nat) : Nat := match ((s.ws.take k).filter (isW s κ)).getLast? with
  | some w => if w.gone then 0 else w.n + 1
  | none => s.base.getD κ 0
theorem foldS_all (s : Se) (κ : Nat) : foldS s κ s.ws.length = seesS s κ := by
  unfold foldS seesS ownV own
  rw [List.take_length, List.getLast?_map]
  show (match (s.ws.filter (isW s κ)).getLast? with | some w => _ | none => _) = match Option.map (vnW s) (s.ws.filter (isW s κ)).getLast? with | some v => _ | none => _
  cases (s.ws.filter (isW s κ)).getLast? <;> rfl
theorem foldS_zero (s : Se) (κ : Nat) : foldS s κ 0 = s.base.getD κ 0 := rfl
theorem foldS_succ (s : Se) (κ : Nat) {k : Nat} {w : Wt} (h : s.ws[k]? = some w) : foldS s κ (k + 1) = if isW s κ w then (if w.gone then 0 else w.n + 1) else foldS s κ k := by
  unfold foldS
  have hk := (List.getElem?_eq_some_iff.1 h).1
  have e : s.ws.take (k + 1) = s.ws.take k ++ [w] := by
    rw [List.take_add_one, h]; rfl
  rw [e, List.filter_append]
  cases hw : isW s κ w with
  | true =>
    have : [w].filter (isW s κ) = [w] := by simp [hw]
    rw [this, List.getLast?_append]; rfl
  | false =>
    have : [w].filter (isW s κ) = [] := by simp [hw]
    rw [this, List.append_nil]; rfl
theorem foldS_le (s : Se) (κ : Nat) (hb : s.base.getD κ 0 ≤ 1000) (hw : ∀ v ∈ s.ws, v.n < 1000) (k : Nat) : foldS s κ k ≤ 1000 := by
  unfold foldS
  cases h : ((s.ws.take k).filter (isW s κ)).getLast? with
  | none => exact hb
  | some w =>
    have := hw w (List.mem_of_mem_take (List.mem_filter.1 (List.mem_of_getLast? h)).1)
    simp only
    split <;> omega
theorem wrote_any (w : World) (b off : Nat) (s : Se) (a : Sx) (h : SR w b off s a) (κ : Nat) :
    Calls Tryz.prog 9 #[.pointer (some ⟨b, off, none⟩), .int .i64 κ] w fun x w' => x = .returned (.bool (wroteS s κ)) ∧ Tch (fun _ => False) w w' := by
  rw [wroteS_any]
  obtain ⟨n, hn⟩ : ∃ n, n = s.ws.length := ⟨_, rfl⟩
  have hn8 : n ≤ 1000 := by rw [hn]; exact h.wl
  have HB : Hid (∀ W, Tch (fun _ => False) w W → SR W b off s a ∧ W.cell? ⟨b, off + 14, none⟩ = some (.slice a.wo n a.wc)) := fun W t => ⟨h.no t, by rw [hn]; exact (h.no t).c 14 _ rfl⟩
  have Hn : Hid (n = s.ws.length) := hn
  obtain ⟨out, hout⟩ : ∃ out, out = s.ws.any (isW s κ) := ⟨_, rfl⟩
  rw [← hout]
  have HO : Hid (out = s.ws.any (isW s κ)) := hout
  clear h hn hout
  go_enter Tryz.func9, Tryz.ntmps9
  go_wp2_with fail
  go_loopw [5] (fun i wr => ∃ k : Nat, i = .int .i64 k ∧ k ≤ n ∧ Hid (Tch (fun _ => False) w wr) ∧ Hid ((s.ws.take k).any (isW s κ) = false)) (fun i _ => n - (intOf i).toNat)
  case atStart => exact ⟨0, rfl, by omega, Tch.refl _ _, by show (s.ws.take 0).any _ = false; simp⟩
  case round =>
    obtain ⟨k, rfl, hk, HT, HP⟩ := hrel
    obtain ⟨wV, hwV⟩ : ∃ wV, wV = wr := ⟨_, rfl⟩
    subst hwV
    obtain ⟨hR, c14⟩ := HB.out wV HT.out
    by_cases hlt : (k : Int) < n
    · have hkl : k < s.ws.length := by have := Hn.out; omega
      obtain ⟨v, hv⟩ : ∃ v, s.ws[k]? = some v := ⟨_, List.getElem?_eq_getElem hkl⟩
      obtain ⟨g, e, k0, k1, k2, k3⟩ := hR.write hv
      have hm := hR.wr v (List.mem_of_getElem? hv)
      have q := standing_any wV b off s a hR v hm.1 hm.2.1
      rw [e] at c14
      have hkey := hm.2.2.1
      have HV : Hid (s.ws[k]? = some v) := hv
      have HE : Hid (a.wo = some ⟨g, 0, none⟩) := e
      have HR : Hid _ := hR
      obtain ⟨d, hd⟩ : ∃ d, d = stdI s v.pt := ⟨_, rfl⟩
      rw [← hd] at q
      have Hd : Hid (d = stdI s v.pt) := hd
      clear hv e hR hm hd hkl
      go_wp2_with fail
      refine q.mono ?_
      rintro x w1 ⟨rfl, t1⟩
      have HT1 : Hid (Tch (fun _ => False) w w1) := HT.out.trans' t1
      obtain ⟨hR1, c14'⟩ := HB.out w1 HT1.out
      obtain ⟨g', e', _, k1', _, _⟩ := hR1.write HV.out
      rw [HE.out] at e'
      injection e' with e'; injection e' with e' _
      subst e'
      rw [HE.out] at c14'
      clear q t1 k0 k1 k2 k3 c14 hR1 HR
      by_cases hc : d = true ∧ v.key = κ
      · obtain ⟨rfl, hvk⟩ := hc
        have hvk' : (v.key : Int) = (κ : Int) := by omega
        have HF : Hid (out = true) := by
          show _ = _
          rw [HO.out, List.any_eq_true]
          refine ⟨v, List.mem_of_getElem? HV.out, ?_⟩
          unfold isW
          rw [← Hd.out, hvk]; simp
        rw [hvk'] at k1'
        clear hvk' hvk
        go_wp2_with fail
        go_ret
        exact ⟨by rw [HF.out]; rfl, HT1.out⟩
      · have HF : Hid ((s.ws.take (k + 1)).any (isW s κ) = false) := by
          show _ = _
          rw [List.take_add_one, HV.out, List.any_append, HP.out]
          show ((false : Bool) || [v].any (isW s κ)) = false
          simp only [List.any_cons, List.any_nil, Bool.or_false, Bool.false_or]
          unfold isW
          rw [← Hd.out]
          cases d with
          | false => rfl
          | true => simp only [Bool.true_and, decide_eq_false_iff_not]; exact fun e => hc ⟨rfl, e⟩
        cases d with
        | false =>
          clear hc
          go_wp2_with fail
          go_roundw
          case rel => exact ⟨k + 1, by go_num, by omega, HT1, HF⟩
          case measure => simp [intOf]; omega
        | true =>
          have hne : ¬ (v.key : Int) = (κ : Int) := fun e => hc ⟨rfl, by omega⟩
          have hnb : ((v.key : Int) == (κ : Int)) = false := by simpa using hne
          clear hc
          go_wp2_with fail
          go_roundw
          case rel => exact ⟨k + 1, by go_num, by omega, HT1, HF⟩
          case measure => simp [intOf]; omega
    · have HF : Hid (out = false) := by
        show _ = _
        have : k = s.ws.length := by have := Hn.out; omega
        rw [HO.out, ← HP.out, this, List.take_length]
      go_wp2_with fail
      go_ret
      exact ⟨by rw [HF.out]; rfl, HT.out⟩
theorem SR.baseC {w : World} {b off : Nat} {s : Se} {a : Sx} (h : SR w b off s a) {κ : Nat} (hκ : κ < 6) : w.cell? ⟨b, off + 6 + κ, none⟩ = some (.int .i64 (s.base.getD κ 0)) := by
  rw [Nat.add_assoc]
  refine h.c (6 + κ) _ ?_
  rcases (by omega : κ = 0 ∨ κ = 1 ∨ κ = 2 ∨ κ = 3 ∨ κ = 4 ∨ κ = 5) with rfl | rfl | rfl | rfl | rfl | rfl <;> rfl
theorem sees_any (w : World) (b off : Nat) (s : Se) (a : Sx) (h : SR w b off s a) (κ : Nat) (hκ : κ < 6) (hbs : s.base.getD κ 0 ≤ 1000) :
    Calls Tryz.prog 44 #[.pointer (some ⟨b, off, none⟩), .int .i64 κ] w fun x w' => x = .returned (.int .i64 (seesS s κ)) ∧ Tch (fun _ => False) w w' := by
  obtain ⟨n, hn⟩ : ∃ n, n = s.ws.length := ⟨_, rfl⟩
  have hn8 : n ≤ 1000 := by rw [hn]; exact h.wl
  have HB : Hid (∀ W, Tch (fun _ => False) w W → SR W b off s a ∧ W.cell? ⟨b, off + 14, none⟩ = some (.slice a.wo n a.wc)) := fun W t => ⟨h.no t, by rw [hn]; exact (h.no t).c 14 _ rfl⟩
  have Hn : Hid (n = s.ws.length) := hn
  have hle := foldS_le s κ hbs (fun v hv => (h.wr v hv).2.2.2)
  have HLe : Hid _ := hle
  have cb := h.baseC hκ
  obtain ⟨o6, ho6⟩ : ∃ o6, o6 = off + 6 + κ := ⟨_, rfl⟩
  obtain ⟨ba, hba⟩ : ∃ ba, ba = s.base.getD κ 0 := ⟨_, rfl⟩
  have HBa : Hid (ba = s.base.getD κ 0) := hba
  rw [← hba] at cb
  rw [← foldS_all, ← hn]
  clear h hn hle hba hbs ho6 o6
  go_enter Tryz.func44, Tryz.ntmps44
  go_wp2_with fail
  clear cb
  go_loopw [5, 6] (fun v i wr => ∃ k : Nat, i = .int .i64 k ∧ v = .int .i64 (foldS s κ k) ∧ k ≤ n ∧ Hid (Tch (fun _ => False) w wr)) (fun _ i _ => n - (intOf i).toNat)
  case atStart => exact ⟨0, rfl, by rw [foldS_zero, HBa.out], by omega, Tch.refl _ _⟩
  case round =>
    obtain ⟨k, rfl, rfl, hk, HT⟩ := hrel
    obtain ⟨wV, hwV⟩ : ∃ wV, wV = wr := ⟨_, rfl⟩
    subst hwV
    obtain ⟨hR, c14⟩ := HB.out wV HT.out
    by_cases hlt : (k : Int) < n
    · have hkl : k < s.ws.length := by have := Hn.out; omega
      obtain ⟨v, hv⟩ : ∃ v, s.ws[k]? = some v := ⟨_, List.getElem?_eq_getElem hkl⟩
      obtain ⟨g, e, k0, k1, k2, k3⟩ := hR.write hv
      have hm := hR.wr v (List.mem_of_getElem? hv)
      have q := standing_any wV b off s a hR v hm.1 hm.2.1
      rw [e] at c14
      have hvn := hm.2.2.2
      have HV : Hid (s.ws[k]? = some v) := hv
      have HE : Hid (a.wo = some ⟨g, 0, none⟩) := e
      obtain ⟨d, hd⟩ : ∃ d, d = stdI s v.pt := ⟨_, rfl⟩
      rw [← hd] at q
      have HSu : Hid (foldS s κ (k + 1) = if (d && decide (v.key = κ)) then (if v.gone then 0 else v.n + 1) else foldS s κ k) := by
        show _ = _
        rw [foldS_succ s κ hv, hd]; rfl
      obtain ⟨f0, hf0⟩ : ∃ f0, f0 = foldS s κ k := ⟨_, rfl⟩
      rw [← hf0] at HSu ⊢
      clear hv e hR hm hd hkl hf0
      go_wp2_with fail
      refine q.mono ?_
      rintro x w1 ⟨rfl, t1⟩
      have HT1 : Hid (Tch (fun _ => False) w w1) := HT.out.trans' t1
      obtain ⟨hR1, c14'⟩ := HB.out w1 HT1.out
      obtain ⟨g', e', _, k1', k2', k3'⟩ := hR1.write HV.out
      rw [HE.out] at e'
      injection e' with e'; injection e' with e' _
      subst e'
      rw [HE.out] at c14'
      clear q t1 k0 k1 k2 k3 c14 hR1
      by_cases hc : d = true ∧ v.key = κ
      · obtain ⟨rfl, hvk⟩ := hc
        have hvk' : (v.key : Int) = (κ : Int) := by omega
        rw [hvk'] at k1'
        have hSu := HSu.out
        simp only [hvk, decide_true, Bool.and_self, if_true] at hSu
        have HSu2 : Hid (foldS s κ (k + 1) = if v.gone = true then 0 else v.n + 1) := hSu
        clear hvk' hvk hSu HSu
        cases hgo : v.gone with
        | true =>
          rw [hgo] at k2'
          have HS3 : Hid (foldS s κ (k + 1) = 0) := by show _ = _; rw [HSu2.out, hgo]; rfl
          clear hgo HSu2
          go_wp2_with fail
          go_roundw
          case rel => exact ⟨k + 1, by go_num, by rw [HS3.out]; rfl, by omega, HT1⟩
          case measure => simp [intOf]; omega
        | false =>
          rw [hgo] at k2'
          have HS3 : Hid (foldS s κ (k + 1) = v.n + 1) := by show _ = _; rw [HSu2.out, hgo]; rfl
          clear hgo HSu2
          go_wp2_with fail
          go_roundw
          case rel => exact ⟨k + 1, by go_num, by rw [HS3.out]; go_num, by omega, HT1⟩
          case measure => simp [intOf]; omega
      · have HF : Hid (foldS s κ (k + 1) = f0) := by
          show _ = _
          rw [HSu.out]
          cases d with
          | false => rfl
          | true =>
            have : ¬ v.key = κ := fun e => hc ⟨rfl, e⟩
            simp [this]
        cases d with
        | false =>
          clear hc
          go_wp2_with fail
          go_roundw
          case rel => exact ⟨k + 1, by go_num, by rw [HF.out], by omega, HT1⟩
          case measure => simp [intOf]; omega
        | true =>
          have hne : ¬ (v.key : Int) = (κ : Int) := fun e => hc ⟨rfl, by omega⟩
          have hnb : ((v.key : Int) == (κ : Int)) = false := by simpa using hne
          clear hc
          go_wp2_with fail
          go_roundw
          case rel => exact ⟨k + 1, by go_num, by rw [HF.out], by omega, HT1⟩
          case measure => simp [intOf]; omega
    · have hkn : k = n := by omega
      subst hkn
      clear hlt
      have hlt : ¬ (k : Int) < k := by omega
      go_wp2_with fail
      go_ret
      exact ⟨rfl, HT.out⟩
end Go.Proofs.YtokgihmigkplaaaGreat.F
