/- A manager's calls that only read: transaction, noneLeft, Next, State, Top. -/
import Derived.Test.YtkokmgoplldcfaaXNum2
namespace Go.Proofs.Ytkokmgoplldcfaa
open Go.RowKit Go Go.Sort

theorem MG.at {w : World} {b : Nat} {m : Mg} {σ : Nat → Option Nat} {mb : Nat} {bl : Nat → Nat} (h : MG w b m σ mb bl) {k : Int} {t : Tx} {i : Int} (hf : fnd m.tx k = some (t, i)) :
    XB w σ (bl t.x) t ∧ (i = -1 ∨ ∃ k : Nat, i = k ∧ k < t.ps.length) ∧ t.ps.length ≤ 64 ∧ (1 ≤ t.st ∧ t.st ≤ 4) ∧ lkB bl m.tx k = some (bl t.x, i) ∧ t ∈ m.tx := by
  obtain ⟨hm, hi⟩ := fnd_mem hf
  refine ⟨h.xs t hm, ?_, h.wf.ln t hm, h.wf.st t hm, by simp [lkB, hf], hm⟩
  rcases hi with ⟨h1, _⟩ | ⟨k', p, h1, _, h2, _⟩
  · exact Or.inl h1
  · exact Or.inr ⟨k', h1, (List.getElem?_eq_some_iff.1 h2).1⟩
theorem lk_none {bl : Nat → Nat} {L : List Tx} {k : Int} (hf : fnd L k = none) : lkB bl L k = none := by simp [lkB, hf]

section
variable (b : Nat) (m : Mg) (σ : Nat → Option Nat) (mb : Nat) (bl : Nat → Nat) (w : World) (h : MG w b m σ mb bl)
include h
theorem next_any : Calls Try.prog 14 #[.pointer (some ⟨b, 0, none⟩)] w fun x w' => x = .returned (.int .i64 m.nx) ∧ w' = w := by
  have c1 := h.c1
  go_enter Try.func14, Try.ntmps14
  go_wp2
  go_ret
  exact ⟨rfl, rfl⟩
theorem noneLeft_any : Calls Try.prog 27 #[.pointer (some ⟨b, 0, none⟩)] w fun x w' => x = .returned (.bool (decide (2147483647 < m.nx))) ∧ w' = w := by
  have c1 := h.c1
  go_enter Try.func27, Try.ntmps27
  go_wp2
  go_ret
  have e : decide ((2147483647 : Int) < (m.nx : Int)) = decide (2147483647 < m.nx) := decide_eq_decide.2 (by omega)
  refine ⟨?_, rfl⟩
  rw [← e]; rfl
theorem state_any (k : Int) (h1 : -9223372036854775808 ≤ k) (h2 : k ≤ 9223372036854775807) : Calls Try.prog 19 #[.pointer (some ⟨b, 0, none⟩), .int .i64 k] w fun x w' => x = .returned (.int .i64 (m.state k)) ∧ Tch (fun _ => False) w w' := by
  have c0 := h.c0
  have q := find_any b m σ mb bl k w h h1 h2
  cases hf : fnd m.tx k with
  | none =>
    have HM : Hid (m.state k = 0) := by show _ = _; simp [Mg.state, hf, stE]
    rw [lk_none hf] at q
    have qs := fun W => state_none W
    simp only [numV] at q qs
    clear h hf h1 h2
    go_enter Try.func19, Try.ntmps19
    go_wp2_with fail
    refine q.mono ?_
    rintro x w1 ⟨rfl, t1⟩
    clear q
    have T : Hid (Tch (fun _ => False) w w1) := t1
    clear t1 c0
    go_wp2_with fail
    refine (qs _).mono ?_
    rintro x w2 ⟨rfl, t2⟩
    clear qs
    have T2 : Hid (Tch (fun _ => False) w w2) := T.out.trans' t2
    clear t2
    go_wp2
    go_ret
    exact ⟨by rw [HM.out]; rfl, T2.out⟩
  | some a =>
    obtain ⟨t, i⟩ := a
    obtain ⟨hx, hi, h64, _, hlk, _⟩ := h.at hf
    have HM : Hid (m.state k = stE (some (t, i))) := by show _ = _; simp [Mg.state, hf]
    rw [hlk] at q
    have qs := fun W (hW : Tch (fun _ => False) w W) => state_some σ (bl t.x) t i W (hx.tch hW (fun _ _ h => h.elim) (fun _ _ h => h)) hi h64
    obtain ⟨e, he⟩ : ∃ e, e = stE (some (t, i)) := ⟨_, rfl⟩
    rw [← he] at qs HM
    simp only [numV] at q qs
    clear h hf h1 h2 hx hi h64 hlk he
    go_enter Try.func19, Try.ntmps19
    go_wp2_with fail
    refine q.mono ?_
    rintro x w1 ⟨rfl, t1⟩
    clear q
    have Q := qs w1 t1
    have T : Hid (Tch (fun _ => False) w w1) := t1
    clear t1 c0 qs
    go_wp2_with fail
    refine Q.mono ?_
    rintro x w2 ⟨rfl, t2⟩
    clear Q
    have T2 : Hid (Tch (fun _ => False) w w2) := T.out.trans' t2
    clear t2
    go_wp2
    go_ret
    exact ⟨by rw [HM.out]; rfl, T2.out⟩
theorem top_none (k : Int) (h1 : -9223372036854775808 ≤ k) (h2 : k ≤ 9223372036854775807) (hf : fnd m.tx k = none) : Calls Try.prog 20 #[.pointer (some ⟨b, 0, none⟩), .int .i64 k] w fun x w' => x = .returned (.tuple #[.int .i64 0, .int .i64 70]) ∧ Tch (fun _ => False) w w' := by
  have c0 := h.c0
  have q := find_any b m σ mb bl k w h h1 h2
  rw [lk_none hf] at q
  have qs := fun W => known_any none W
  simp only [numV, Option.isSome_none] at q qs
  clear h hf h1 h2
  go_enter Try.func20, Try.ntmps20
  go_wp2_with fail
  refine q.mono ?_
  rintro x w1 ⟨rfl, t1⟩
  clear q
  have T : Hid (Tch (fun _ => False) w w1) := t1
  clear t1 c0
  go_wp2_with fail
  refine (qs _).mono ?_
  rintro x w2 ⟨rfl, t2⟩
  clear qs
  have T2 : Hid (Tch (fun _ => False) w w2) := (T.out.trans' (Tch.alloc _ _ _)).trans' t2
  clear t2
  go_wp2
  go_ret2
  exact ⟨rfl, T2.out⟩
theorem top_some (k : Int) (h1 : -9223372036854775808 ≤ k) (h2 : k ≤ 9223372036854775807) {t : Tx} {i : Int} (hf : fnd m.tx k = some (t, i)) : Calls Try.prog 20 #[.pointer (some ⟨b, 0, none⟩), .int .i64 k] w fun x w' => x = .returned (.tuple #[.int .i64 t.x, .int .i64 0]) ∧ Tch (fun _ => False) w w' := by
  have c0 := h.c0
  have q := find_any b m σ mb bl k w h h1 h2
  obtain ⟨hx, hi, h64, _, hlk, _⟩ := h.at hf
  rw [hlk] at q
  have qs := fun W => known_any (some (bl t.x, i)) W
  simp only [numV, Option.isSome_some] at q qs
  have Hx : Hid (XB w σ (bl t.x) t) := hx
  obtain ⟨tb, htb⟩ : ∃ tb, tb = bl t.x := ⟨_, rfl⟩
  rw [← htb] at q qs Hx
  clear h hf h1 h2 hx hi h64 hlk htb
  go_enter Try.func20, Try.ntmps20
  go_wp2_with fail
  refine q.mono ?_
  rintro x w1 ⟨rfl, t1⟩
  clear q
  have T : Hid (Tch (fun _ => False) w w1) := t1
  clear t1 c0
  go_wp2_with fail
  obtain ⟨w0, hw0⟩ : ∃ w0, w0 = w1.alloc (.cells #[.pointer (some ⟨tb, 0, none⟩), .int .i64 i] 72) := ⟨_, rfl⟩
  have hb : w0.heap[w1.heap.size]? = some (.cells #[.pointer (some ⟨tb, 0, none⟩), .int .i64 i] 72 (0, 0)) := by rw [hw0]; exact alloc_new _ _
  have t0 : Tch (fun _ => False) w w0 := by rw [hw0]; exact T.out.trans' (Tch.alloc _ _ _)
  rw [← hw0]
  clear hw0
  refine (qs _).mono ?_
  rintro x w2 ⟨rfl, t2⟩
  clear qs
  have T2 : Hid (Tch (fun _ => False) w w2) := t0.trans' t2
  have d0 : w2.cell? ⟨w1.heap.size, 0, none⟩ = some (.pointer (some ⟨tb, 0, none⟩)) := by rw [t2.cell (p := ⟨w1.heap.size, 0, none⟩) (blk_lt hb) (fun h => h), blk_cell hb]; rfl
  obtain ⟨v, e0, _⟩ := (Hx.out.tch T2.out (fun _ _ h => h.elim) (fun _ _ h => h)).c
  clear t2 t0 hb
  go_wp2
  go_ret2
  exact ⟨rfl, T2.out⟩
/-- The transaction of that number. -/
def txE (o : Option (Nat × Int)) : Value := match o with
  | none => .pointer none
  | some a => if 0 ≤ a.2 then .pointer none else .pointer (some ⟨a.1, 0, none⟩)
theorem transaction_any (k : Int) (h1 : -9223372036854775808 ≤ k) (h2 : k ≤ 9223372036854775807) : Calls Try.prog 30 #[.map (some mb), .int .i64 k] w fun x w' => x = .returned (txE (lkB bl m.tx k)) ∧ Tch (fun _ => False) w w' := by
  have hl := h.look h1 h2
  obtain ⟨o, ho⟩ : ∃ o, o = lkB bl m.tx k := ⟨_, rfl⟩
  rw [← ho] at hl ⊢
  have q := fun W => isPart_any o W
  clear h h1 h2 ho
  cases o with
  | none =>
    simp only [numV, isP] at q hl
    go_enter Try.func30, Try.ntmps30
    go_wp2_with fail
    refine (q _).mono ?_
    rintro x w1 ⟨rfl, t1⟩
    clear q hl
    have c0 : w1.cell? ⟨w.heap.size, 0, none⟩ = some (.pointer none) := by rw [t1.cell (p := ⟨w.heap.size, 0, none⟩) (by simp) (fun h => h), blk_cell (alloc_new _ _)]; rfl
    have T : Hid (Tch (fun _ => False) w w1) := (Tch.alloc _ _ _).trans' t1
    clear t1
    go_wp2
    go_ret
    exact ⟨rfl, T.out⟩
  | some a =>
    obtain ⟨tb, i⟩ := a
    by_cases hi : 0 ≤ i
    · have HE : Hid (txE (some (tb, i)) = .pointer none) := by show _ = _; simp [txE, hi]
      simp only [numV, isP, hi, decide_true] at q hl
      go_enter Try.func30, Try.ntmps30
      go_wp2_with fail
      refine (q _).mono ?_
      rintro x w1 ⟨rfl, t1⟩
      clear q hl
      have T : Hid (Tch (fun _ => False) w w1) := (Tch.alloc _ _ _).trans' t1
      clear t1
      go_wp2
      go_ret
      exact ⟨by rw [HE.out]; rfl, T.out⟩
    · have HE : Hid (txE (some (tb, i)) = .pointer (some ⟨tb, 0, none⟩)) := by show _ = _; simp [txE, hi]
      simp only [numV, isP, hi, decide_false] at q hl
      go_enter Try.func30, Try.ntmps30
      go_wp2_with fail
      refine (q _).mono ?_
      rintro x w1 ⟨rfl, t1⟩
      clear q hl
      have c0 : w1.cell? ⟨w.heap.size, 0, none⟩ = some (.pointer (some ⟨tb, 0, none⟩)) := by rw [t1.cell (p := ⟨w.heap.size, 0, none⟩) (by simp) (fun h => h), blk_cell (alloc_new _ _)]; rfl
      have T : Hid (Tch (fun _ => False) w w1) := (Tch.alloc _ _ _).trans' t1
      clear t1
      go_wp2
      go_ret
      exact ⟨by rw [HE.out]; rfl, T.out⟩
end
end Go.Proofs.Ytkokmgoplldcfaa
