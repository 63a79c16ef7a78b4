import Derived.Test.YtkcmpipipelgoaaKStZ
import Derived.Test.YtkcmpipipelgoaaKStT
import Derived.Test.YtkcmpipipelgoaaKStA
import Derived.Test.YtkcmpipipelgoaaKStL
import Derived.Test.YtkcmpipipelgoaaKStP
/- HistoryPlays: a step of any kind; the script; the state between the steps. -/
namespace Go.Proofs.Ytkcmpipipelgoaa
open Go.RowKit Go

def PS (w : World) (o : Nat → Nat) (b TB CB TT : Nat) : Prop := ∃ cur C T cv tv lo n lc L, PQ w o b cur C T cv tv lo n lc L TB ∧ C.length + 20 * n ≤ CB ∧ T.length ≤ TT
theorem step_any {w : World} {o : Nat → Nat} {b TB CB TT : Nat} (h : PS w o b TB CB TT) (d : Opd) (hd : OpIn w o d) (hTB : TB ≤ 10000000) (hC : CB ≤ 500000000000) (hT : TT ≤ 500000000000) :
    Calls Try.prog 19 #[.pointer (some ⟨b, 0, none⟩), opV d] w fun r w' => r = .returned (.bool true) ∧ ∃ o', PS w' o' b (TB + 1) (CB + 40 * (TB + 1)) (TT + 40) ∧ Ev (fun j => j ≠ 15) w o w' o' := by
  obtain ⟨cur, C, T, cv, tv, lo, n, lc, L, h, h1, h2⟩ := h
  obtain ⟨hv, rv, c1, c2, hsd⟩ := h.sd (pkN d.on 2) (pkN_lt _ (by omega))
  have key : Calls Try.prog 19 #[.pointer (some ⟨b, 0, none⟩), opV d] w fun r w' => r = .returned (.bool true) ∧ StOut w o b C T n TB w' := by
    by_cases e : rv = .pointer none
    · subst e
      exact step_none h d hd c2 hTB (by omega) (by omega)
    · have hlv : ∀ rv, cur[2 + pkN d.on 2]? = some rv → rv ≠ .pointer none := fun x hx => by
        rw [c2] at hx
        injection hx with hx
        rw [← hx]; exact e
      by_cases k1 : d.k = 1
      · exact step_put h d hd hlv k1 hTB (by omega) (by omega)
      by_cases k2 : d.k = 2
      · exact step_gone h d hd hlv k2 hTB (by omega) (by omega)
      by_cases k3 : d.k = 3
      · exact step_at h d hd hlv k3 hTB (by omega) (by omega)
      by_cases k4 : d.k = 4
      · exact step_list h d hd hlv k4 hTB (by omega) (by omega)
      by_cases k5 : d.k = 5
      · exact step_trim h d hd hlv k5 hTB (by omega) (by omega)
      exact step_noted h d hd hlv ⟨k1, k2, k3, k4, k5⟩ hTB (by omega) (by omega)
  refine key.mono ?_
  rintro r w' ⟨rfl, o', cur', C', T', cv', tv', lo', n', lc', L', hP, g1, g2, ev⟩
  exact ⟨rfl, o', ⟨cur', C', T', cv', tv', lo', n', lc', L', hP, by omega, by omega⟩, ev⟩
theorem kept_x {w : World} {o : Nat → Nat} {b TB CB TT : Nat} (h : PS w o b TB CB TT) (hC : CB ≤ 1000000000000) (hT : TT ≤ 1000000000000) :
    Calls Try.prog 20 #[.pointer (some ⟨b, 0, none⟩)] w fun r w' => r = .returned (.bool true) ∧ ∃ o', PS w' o' b TB CB TT ∧ Ev (fun j => j ≠ 15) w o w' o' := by
  obtain ⟨cur, C, T, cv, tv, lo, n, lc, L, h, h1, h2⟩ := h
  refine (kept_any h.lw (by omega) (by omega)).mono ?_
  rintro r w' ⟨rfl, o', C', cv', lo', n', lc', L', hL, e1, e2, ev⟩
  exact ⟨rfl, o', ⟨_, _, _, _, _, _, _, _, _, h.lists hL (((Sm3.refl _).set _ (.inl rfl)).set _ (.inr (.inr rfl))) ev (by omega), by omega, h2⟩, ev.mono (fun j e => by omega)⟩
def ocs (d : Opd) : List Value := [.int .i64 d.k, .int .i64 d.on, .int .i64 d.x, .int .i64 d.i, .int .i64 d.t.id, .int .i64 d.t.ver, .string d.t.nm, .slice d.ao d.t.cols.length d.c, .int .i64 d.t.key]
def ocl (l : List Opd) : List Value := l.flatMap ocs
theorem ocl_len : ∀ l : List Opd, (ocl l).length = l.length * 9
  | [] => rfl
  | a :: l => by
    have := ocl_len l
    unfold ocl at this ⊢
    simp only [List.flatMap_cons, List.length_append, this, List.length_cons]
    simp [ocs]; omega
theorem ocl_get : ∀ (l : List Opd) (k j : Nat) (n : Opd), l[k]? = some n → j < 9 → (ocl l)[k * 9 + j]? = (ocs n)[j]?
  | [], k, j, n, hk, _ => by simp at hk
  | a :: l, 0, j, n, hk, hj => by
    unfold ocl
    have e : a = n := by simpa using hk
    subst e
    rw [List.flatMap_cons, Nat.zero_mul, Nat.zero_add, List.getElem?_append_left (by simp [ocs]; omega)]
  | a :: l, k + 1, j, n, hk, hj => by
    have := ocl_get l k j n (by simpa using hk) hj
    unfold ocl at this ⊢
    rw [List.flatMap_cons, List.getElem?_append_right (by simp [ocs]; omega)]
    rw [← this]
    congr 1
    simp [ocs]; omega
theorem ocl_nil {l : List Opd} (h : l ≠ []) : ocl l ≠ [] := fun e => by
  have := ocl_len l
  rw [e] at this
  have := List.length_pos_iff.2 h
  simp at *; omega
/-- The script, as it lies. -/
structure SC (w : World) (o : Nat → Nat) (so : Option Addr) (ops : List Opd) : Prop where
  sl : SL w so (ocl ops)
  own : ops ≠ [] → ∀ g q, so = some ⟨g, q, none⟩ → o g = 15
  op : ∀ d ∈ ops, OpIn w o d
theorem SC.ev {K : Nat → Prop} {w w' : World} {o o' : Nat → Nat} {so : Option Addr} {ops : List Opd} (h : SC w o so ops) (e : Ev K w o w' o') (hk : ¬ K 15) : SC w' o' so ops := by
  by_cases e9 : ops = []
  · subst e9
    exact ⟨SL.nil _ _, fun h => absurd rfl h, fun d hd => by cases hd⟩
  · obtain ⟨g, q, e1, ha⟩ := h.sl (ocl_nil e9)
    have hlt := ha.lt (ocl_nil e9)
    refine ⟨h.sl.tch e.tch (fun g q eg hs => hk (by rw [← h.own e9 g q eg]; exact hs)), fun _ g' q' e2 => ?_, fun d hd => (h.op d hd).ev e hk⟩
    have eg : g' = g := by rw [e1] at e2; injection e2 with e2; injection e2 with e2; exact e2.symm
    subst eg
    rw [e.old g' hlt (by rw [h.own e9 g' q e1]; exact hk)]
    exact h.own e9 g' q e1
theorem SC.get {w : World} {o : Nat → Nat} {so : Option Addr} {ops : List Opd} (h : SC w o so ops) {k : Nat} {d : Opd} (hk : ops[k]? = some d) : ∃ g q, so = some ⟨g, q, none⟩ ∧ ∀ j u, j < 9 → (ocs d)[j]? = some u → w.cell? ⟨g, q + k * 9 + j, none⟩ = some u := by
  obtain ⟨g, q, e1, ha⟩ := h.sl (ocl_nil (by rintro rfl; simp at hk))
  refine ⟨g, q, e1, fun j u hj hu => ?_⟩
  have := ha (k * 9 + j) u (by rw [ocl_get ops k j d hk hj]; exact hu)
  rwa [← Nat.add_assoc] at this
/-- Between the steps. -/
structure PL (W w : World) (o : Nat → Nat) (b M k : Nat) (so : Option Addr) (ops : List Opd) : Prop where
  ps : PS w o b (M + k) (k * 200000000) (40 * k)
  sc : SC w o so ops
  t : Tch (fun _ => False) W w
  own : ∀ i, i < W.heap.size → o i = 15
theorem old15 {W w w' : World} {o o' : Nat → Nat} (t : Tch (fun _ => False) W w) (own : ∀ i, i < W.heap.size → o i = 15) (e : Ev (fun j => j ≠ 15) w o w' o') : Tch (fun _ => False) W w' ∧ ∀ i, i < W.heap.size → o' i = 15 := by
  refine ⟨t.trans e.tch (fun i hi h => h (own i hi)), fun i hi => ?_⟩
  rw [e.old i (Nat.lt_of_lt_of_le hi t.size) (fun h => h (own i hi))]
  exact own i hi
theorem PL.step {W w : World} {o : Nat → Nat} {b M k : Nat} {so : Option Addr} {ops : List Opd} (h : PL W w o b M k so ops) (hM : M ≤ 2000000) (hk : k < 200) {d : Opd} (hd : ops[k]? = some d) :
    Calls Try.prog 19 #[.pointer (some ⟨b, 0, none⟩), opV d] w fun r w' => r = .returned (.bool true) ∧ ∃ o', PL W w' o' b M (k + 1) so ops := by
  refine (step_any h.ps d (h.sc.op d (List.mem_of_getElem? hd)) (by omega) (by omega) (by omega)).mono ?_
  rintro r w' ⟨rfl, o', ⟨cur, C, T, cv, tv, lo, n, lc, L, hP, h1, h2⟩, ev⟩
  obtain ⟨t, own⟩ := old15 h.t h.own ev
  exact ⟨rfl, o', ⟨⟨cur, C, T, cv, tv, lo, n, lc, L, hP.up (by omega), by omega, by omega⟩, h.sc.ev ev (fun e => e rfl), t, own⟩⟩
theorem PL.kept {W w : World} {o : Nat → Nat} {b M k : Nat} {so : Option Addr} {ops : List Opd} (h : PL W w o b M k so ops) (hk : k ≤ 200) :
    Calls Try.prog 20 #[.pointer (some ⟨b, 0, none⟩)] w fun r w' => r = .returned (.bool true) ∧ ∃ o', PL W w' o' b M k so ops := by
  refine (kept_x h.ps (by omega) (by omega)).mono ?_
  rintro r w' ⟨rfl, o', hP, ev⟩
  obtain ⟨t, own⟩ := old15 h.t h.own ev
  exact ⟨rfl, o', ⟨hP, h.sc.ev ev (fun e => e rfl), t, own⟩⟩
end Go.Proofs.Ytkcmpipipelgoaa
/- HistoryPlays: the bodies of its law's loops. -/
namespace Go.Proofs.Ytkcmpipipelgoaa
open Go.RowKit Go

def ploops : Code → List Code
  | .loop c => c :: ploops c
  | .seq a b => ploops a ++ ploops b
  | .block _ c => ploops c
  | .scope c => ploops c
  | .cond _ a b => ploops a ++ ploops b
  | _ => []
noncomputable def plB (k : Nat) : Code := (Try.f5.body.elim [] ploops).getD k .skip
end Go.Proofs.Ytkcmpipipelgoaa
