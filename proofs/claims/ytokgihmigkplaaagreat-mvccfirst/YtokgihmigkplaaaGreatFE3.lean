import Derived.Test.YtokgihmigkplaaaGreatMSw
import Derived.Deep.MidRow
import Derived.Deep.Cut
set_option maxHeartbeats 4000000
set_option maxRecDepth 100000
namespace Go.Proofs.YtokgihmigkplaaaGreat.F
open Go.RowKit Go Go.Sort
def n6 (l : List Nat) : List Value := [.int .i64 (l.getD 0 0), .int .i64 (l.getD 1 0), .int .i64 (l.getD 2 0), .int .i64 (l.getD 3 0), .int .i64 (l.getD 4 0), .int .i64 (l.getD 5 0)]
def moC (q : Mo) (mb hb : Nat) (A : Nat → Sx) : List Value := [.pointer (some ⟨mb, 0, none⟩), .pointer (some ⟨hb, 0, none⟩)] ++ (seC (q.l.getD 0 se0) (A 0) ++ (seC (q.l.getD 1 se0) (A 1) ++ (seC (q.l.getD 2 se0) (A 2) ++ (seC (q.l.getD 3 se0) (A 3) ++ (seC (q.l.getD 4 se0) (A 4) ++ (n6 q.now ++ (n6 q.wn ++ [.int .i64 q.n])))))))
theorem seC_len (s : Se) (a : Sx) : (seC s a).length = 15 := rfl
theorem moC_se (q : Mo) (mb hb : Nat) (A : Nat → Sx) {k : Nat} (hk : k < 5) {j : Nat} (hj : j < 15) : (moC q mb hb A)[2 + k * 15 + j]? = (seC (q.l.getD k se0) (A k))[j]? := by
  have e : ∀ (i : Nat), (moC q mb hb A)[2 + i]? = (seC (q.l.getD 0 se0) (A 0) ++ (seC (q.l.getD 1 se0) (A 1) ++ (seC (q.l.getD 2 se0) (A 2) ++ (seC (q.l.getD 3 se0) (A 3) ++ (seC (q.l.getD 4 se0) (A 4) ++ (n6 q.now ++ (n6 q.wn ++ [.int .i64 q.n])))))))[i]? := fun i => by
    unfold moC
    rw [List.getElem?_append_right (by simp only [List.length_cons, List.length_nil]; omega)]
    simp only [List.length_cons, List.length_nil, Nat.zero_add, Nat.reduceAdd, Nat.add_sub_cancel_left]
  rw [Nat.add_assoc, e]
  rcases (by omega : k = 0 ∨ k = 1 ∨ k = 2 ∨ k = 3 ∨ k = 4) with rfl | rfl | rfl | rfl | rfl
  · rw [List.getElem?_append_left (by rw [seC_len]; omega)]
    congr 1; omega
  · rw [List.getElem?_append_right (by rw [seC_len]; omega), List.getElem?_append_left (by rw [seC_len, seC_len]; omega)]
    congr 1; rw [seC_len]; omega
  · rw [List.getElem?_append_right (by rw [seC_len]; omega), List.getElem?_append_right (by rw [seC_len, seC_len]; omega), List.getElem?_append_left (by rw [seC_len, seC_len, seC_len]; omega)]
    congr 1; rw [seC_len, seC_len]; omega
  · rw [List.getElem?_append_right (by rw [seC_len]; omega), List.getElem?_append_right (by rw [seC_len, seC_len]; omega), List.getElem?_append_right (by rw [seC_len, seC_len, seC_len]; omega), List.getElem?_append_left (by rw [seC_len, seC_len, seC_len, seC_len]; omega)]
    congr 1; rw [seC_len, seC_len, seC_len]; omega
  · rw [List.getElem?_append_right (by rw [seC_len]; omega), List.getElem?_append_right (by rw [seC_len, seC_len]; omega), List.getElem?_append_right (by rw [seC_len, seC_len, seC_len]; omega), List.getElem?_append_right (by rw [seC_len, seC_len, seC_len, seC_len]; omega), List.getElem?_append_left (by rw [seC_len, seC_len, seC_len, seC_len, seC_len]; omega)]
    congr 1; rw [seC_len, seC_len, seC_len, seC_len]; omega
theorem moC_now (q : Mo) (mb hb : Nat) (A : Nat → Sx) {κ : Nat} (hκ : κ < 6) : (moC q mb hb A)[77 + κ]? = some (.int .i64 (q.now.getD κ 0)) := by
  rcases (by omega : κ = 0 ∨ κ = 1 ∨ κ = 2 ∨ κ = 3 ∨ κ = 4 ∨ κ = 5) with rfl | rfl | rfl | rfl | rfl | rfl <;> rfl
theorem moC_wn (q : Mo) (mb hb : Nat) (A : Nat → Sx) {κ : Nat} (hκ : κ < 6) : (moC q mb hb A)[83 + κ]? = some (.int .i64 (q.wn.getD κ 0)) := by
  rcases (by omega : κ = 0 ∨ κ = 1 ∨ κ = 2 ∨ κ = 3 ∨ κ = 4 ∨ κ = 5) with rfl | rfl | rfl | rfl | rfl | rfl <;> rfl
theorem moC_n (q : Mo) (mb hb : Nat) (A : Nat → Sx) : (moC q mb hb A)[89]? = some (.int .i64 q.n) := rfl
def Gd (w : World) (i : Nat) : Prop := ∃ cs ty, w.heap[i]? = some (.cells cs ty (0, 0)) ∧ ty ≠ 109 ∧ ty ≠ 73 ∧ ty ≠ 43
structure Fr where
  w : World
  S : World
  G : Nat → Prop
  gd : ∀ i, G i → Gd S i
abbrev Fr.heap (f : Fr) := f.w.heap
structure Frm (f : Fr) (w : World) : Prop where
  t : Tch (fun _ => False) f.w w
  z : ∀ i, f.G i → w.heap[i]? = f.S.heap[i]?
theorem Frm.size {f : Fr} {w : World} (h : Frm f w) : f.heap.size ≤ w.heap.size := h.t.size
theorem Frm.trans {f : Fr} {w w' : World} {S : Nat → Prop} (h : Frm f w) (t : Tch S w w') (hS : ∀ i, i < f.heap.size → ¬ S i) (hg : ∀ i, f.G i → Gd w i → ¬ S i) : Frm f w' :=
  ⟨h.t.trans t hS, fun i hi => by
    have h1 := h.z i hi
    obtain ⟨cs, ty, h2, h3⟩ := f.gd i hi
    have h4 := h1.trans h2
    exact (t.block i (blk_lt h4) (hg i hi ⟨cs, ty, h4, h3⟩)).trans h1⟩
theorem Frm.trans' {f : Fr} {w w' : World} (h : Frm f w) (t : Tch (fun _ => False) w w') : Frm f w' := h.trans t (fun _ _ e => e) (fun _ _ _ e => e)
theorem Gd.ne {w : World} {i b : Nat} {cs : Array Value} (g : Gd w i) (hb : w.heap[b]? = some (.cells cs 43 (0, 0))) : ¬ i = b := fun e => by
  obtain ⟨c2, ty, h1, _, _, h2⟩ := g
  rw [e, hb] at h1
  injection h1 with h1
  injection h1 with _ h1
  exact h2 h1.symm
theorem Gd.own {w : World} {i b sz n : Nat} {ty : TypeId} {v : Value} {xs : List Value} (g : Gd w i) (h : w.ownsRow b ty sz v n xs) (hty : ty = 109 ∨ ty = 73) : ¬ v.ownBlock = some i := fun e => by
  obtain ⟨c2, t2, h1, h3, h4, _⟩ := g
  obtain ⟨cur, hc⟩ := own_blk h e
  rw [hc] at h1
  injection h1 with h1
  injection h1 with _ h1
  rcases hty with hty | hty
  · exact h3 (h1.symm.trans hty)
  · exact h4 (h1.symm.trans hty)
structure SeIn (w0 : Fr) (w : World) (F : Nat → Prop) (s : Se) (a : Sx) : Prop where
  on : w.ownsRow w0.heap.size 3 1 (.slice a.so s.on.length a.sc) s.on.length (icl s.on)
  onf : ∀ g, (Value.slice a.so s.on.length a.sc).ownBlock = some g → F g
  ps : w.ownsRow w0.heap.size 109 4 (.slice a.po s.ps.length a.pc) s.ps.length (prC s.ps)
  psf : ∀ g, (Value.slice a.po s.ps.length a.pc).ownBlock = some g → F g
  ws : w.ownsRow w0.heap.size 73 4 (.slice a.wo s.ws.length a.wc) s.ws.length (wtC s.ws)
  wsf : ∀ g, (Value.slice a.wo s.ws.length a.wc).ownBlock = some g → F g
structure SeBd (s : Se) : Prop where
  pl : s.ps.length ≤ 1000
  wl : s.ws.length ≤ 1000
  pr : ∀ (i : Nat) (v : Pr), s.ps[i]? = some v → -1 ≤ v.par ∧ v.par < i ∧ v.x ≤ 1000000
  wr : ∀ v ∈ s.ws, -1 ≤ v.pt ∧ v.pt < s.ps.length ∧ v.key < 6 ∧ v.n < 1000
  ba : ∀ κ, κ < 6 → s.base.getD κ 0 ≤ 1000
theorem slf_of {w : World} {base sz n : Nat} {t : TypeId} {ao : Option Addr} {c : Nat} {xs : List Value} (h : w.ownsRow base t sz (.slice ao n c) n xs) : SlF w ao xs := fun hc => by
  rcases h.2 with ⟨e, h0⟩ | ⟨g, cap, cur, e, _, hg, _, _, hs, ht⟩
  · have h1 := h.1
    rw [h0, Nat.zero_mul] at h1
    exact absurd (List.length_eq_zero_iff.1 h1) hc
  · injection e with e
    subst e
    refine ⟨g, rfl, blk_lt hg, fun j u hu => ?_⟩
    have h9 := h.cells (g := g) rfl j u hu
    rw [add_plain] at h9
    exact h9
theorem SeIn.sr {w0 : Fr} {w : World} {F : Nat → Prop} {s : Se} {a : Sx} (h : SeIn w0 w F s a) (hb : SeBd s) {b off : Nat} (hl : b < w.heap.size) (hc : AtF w b off (seC s a)) : SR w b off s a :=
  ⟨hl, hc, slf_of h.ps, slf_of h.ws, hb.pl, hb.wl, hb.pr, hb.wr⟩
theorem SeIn.keep {w0 : Fr} {w w' : World} {F S : Nat → Prop} {s : Se} {a : Sx} (h : SeIn w0 w F s a) (t : Tch S w w') (hS : ∀ i, F i → ¬ S i) : SeIn w0 w' F s a :=
  ⟨own_tch h.on t (fun g e => hS g (h.onf g e)), h.onf, own_tch h.ps t (fun g e => hS g (h.psf g e)), h.psf, own_tch h.ws t (fun g e => hS g (h.wsf g e)), h.wsf⟩
theorem SeIn.mono {w0 : Fr} {w : World} {F F' : Nat → Prop} {s : Se} {a : Sx} (h : SeIn w0 w F s a) (hF : ∀ i, F i → F' i) : SeIn w0 w F' s a :=
  ⟨h.on, fun g e => hF g (h.onf g e), h.ps, fun g e => hF g (h.psf g e), h.ws, fun g e => hF g (h.wsf g e)⟩
structure LW (w0 : Fr) (w : World) (qb hb mb nq : Nat) (m : Mg) (L : HL) (q : Mo) (A : Nat → Sx) (F : Nat → Prop) : Prop where
  hs : HS w hb mb m L F nq
  f0 : ∀ i, (i < w0.heap.size ∨ w0.G i) → F i
  fq : F qb
  q0 : w0.heap.size ≤ qb
  bk : w.heap[qb]? = some (.cells (moC q mb hb A).toArray 43 (0, 0))
  ln : q.l.length = 5
  se : ∀ (k : Nat) (s : Se), q.l[k]? = some s → SeIn w0 w F s (A k)
  bd : ∀ (k : Nat) (s : Se), q.l[k]? = some s → SeBd s
  ap : ∀ (k k' : Nat), k ≠ k' → k < 5 → k' < 5 → ∀ a a', ((A k).po = some a → (A k').po = some a' → a.block ≠ a'.block) ∧ ((A k).wo = some a → (A k').wo = some a' → a.block ≠ a'.block)
  t : Frm w0 w
section
variable {w0 : Fr} {w w' : World} {qb hb mb nq : Nat} {m : Mg} {L : HL} {q : Mo} {A : Nat → Sx} {F : Nat → Prop}
theorem getD_some {l : List Se} {k : Nat} {s : Se} (h : l[k]? = some s) : l.getD k se0 = s := by
  rw [List.getD_eq_getElem?_getD, h]; rfl
theorem LW.mor (h : LW w0 w qb hb mb nq m L q A F) : MoR w qb mb hb q A := by
  have hc : ∀ j u, (moC q mb hb A)[j]? = some u → w.cell? ⟨qb, j, none⟩ = some u := fun j u hu => by
    rw [blk_cell h.bk, List.getElem?_toArray]; exact hu
  refine ⟨blk_lt h.bk, hc 0 _ rfl, hc 1 _ rfl, h.ln, fun k s hs => ?_, fun κ hκ => hc _ _ (moC_now q mb hb A hκ), fun κ hκ => hc _ _ (moC_wn q mb hb A hκ), hc 89 _ (moC_n q mb hb A)⟩
  have hk : k < 5 := by have := (List.getElem?_eq_some_iff.1 hs).1; have := h.ln; omega
  refine (h.se k s hs).sr (h.bd k s hs) (blk_lt h.bk) (fun j u hu => hc _ _ ?_)
  have hj : j < 15 := by have := (List.getElem?_eq_some_iff.1 hu).1; rwa [seC_len] at this
  rw [moC_se q mb hb A hk hj, getD_some hs]; exact hu
theorem LW.no (h : LW w0 w qb hb mb nq m L q A F) (t : Tch (fun _ => False) w w') : LW w0 w' qb hb mb nq m L q A F :=
  ⟨h.hs.no t, h.f0, h.fq, h.q0, (t.block qb (blk_lt h.bk) (fun e => e)).trans h.bk, h.ln, fun k s hs => (h.se k s hs).keep t (fun _ _ e => e), h.bd, h.ap, h.t.trans' t⟩
theorem LW.kept {m' : Mg} {L' : HL} {nq' : Nat} (h : LW w0 w qb hb mb nq m L q A F) (hs : HS w' hb mb m' L' F nq') (t : Kept F w w') : LW w0 w' qb hb mb nq' m' L' q A F :=
  ⟨hs, h.f0, h.fq, h.q0, (t.block qb (blk_lt h.bk) (fun e => e h.fq)).trans h.bk, h.ln, fun k s hs => (h.se k s hs).keep t (fun _ hf e => e hf), h.bd, h.ap, h.t.trans t (fun i hi e => e (h.f0 i (.inl hi))) (fun i hi _ e => e (h.f0 i (.inr hi)))⟩
theorem LW.fresh (h : LW w0 w qb hb mb nq m L q A F) (t : Tch (fun _ => False) w w') : LW w0 w' qb hb mb nq m L q A (fun i => F i ∨ w.heap.size ≤ i ∧ i < w'.heap.size) :=
  ⟨h.hs.freshS t (fun _ _ e => e.elim), fun i hi => .inl (h.f0 i hi), .inl h.fq, h.q0, (t.block qb (blk_lt h.bk) (fun e => e)).trans h.bk, h.ln, fun k s hs => ((h.se k s hs).keep t (fun _ _ e => e)).mono (fun _ e => .inl e), h.bd, h.ap, h.t.trans' t⟩
theorem LW.lt (h : LW w0 w qb hb mb nq m L q A F) : ∀ i, F i → i < w.heap.size := by
  obtain ⟨_, _, _, _, _, _, _, _, _, h5⟩ := h.hs
  exact fun i hi => (h5 i hi).2
end
end Go.Proofs.YtokgihmigkplaaaGreat.F
namespace Go.Proofs.YtokgihmigkplaaaGreat.F
open Go.RowKit Go Go.Sort
section
variable {w0 : Fr} {w w' : World} {qb hb mb nq : Nat} {m : Mg} {L : HL} {q : Mo} {A : Nat → Sx} {F : Nat → Prop}
theorem LW.begins (h : LW w0 w qb hb mb nq m L q A F) (hn : m.nx ≤ 2147483647) : Calls Tryz.prog 17 #[.pointer (some ⟨mb, 0, none⟩)] w fun x w' => x = .returned (.tuple #[.int .i64 m.nx, .int .i64 0]) ∧ LW w0 w' qb hb mb nq m.begin L q A F :=
  (begin_h h.hs hn).mono fun _ _ ⟨e, hs, t⟩ => ⟨e, h.kept hs t⟩
theorem LW.parts (h : LW w0 w qb hb mb nq m L q A F) {k : Int} {t : Tx} {i : Int} (hf : fnd m.tx k = some (t, i)) (hp : partE m t i = 0) (h1 : -9223372036854775808 ≤ k) (h2 : k ≤ 9223372036854775807) : Calls Tryz.prog 46 #[.pointer (some ⟨mb, 0, none⟩), .int .i64 k] w fun x w' => x = .returned (.tuple #[.int .i64 m.nx, .int .i64 0]) ∧ LW w0 w' qb hb mb nq (m.part t i) L q A F :=
  (part_h h.hs hf hp h1 h2).mono fun _ _ ⟨e, hs, t⟩ => ⟨e, h.kept hs t⟩
theorem LW.commits (h : LW w0 w qb hb mb nq m L q A F) {k : Int} {t : Tx} (hf : fnd m.tx k = some (t, -1)) (hp : t.st < 3) (h1 : -9223372036854775808 ≤ k) (h2 : k ≤ 9223372036854775807) : Calls Tryz.prog 20 #[.pointer (some ⟨mb, 0, none⟩), .int .i64 k] w fun x w' => x = .returned (.int .i64 0) ∧ LW w0 w' qb hb mb nq (m.fin t.x 3) L q A F :=
  (commit_h h.hs hf hp h1 h2).mono fun _ _ ⟨e, hs, t⟩ => ⟨e, h.kept hs t⟩
theorem LW.aborts (h : LW w0 w qb hb mb nq m L q A F) {k : Int} {t : Tx} (hf : fnd m.tx k = some (t, -1)) (hp : t.st < 3) (h1 : -9223372036854775808 ≤ k) (h2 : k ≤ 9223372036854775807) : Calls Tryz.prog 43 #[.pointer (some ⟨mb, 0, none⟩), .int .i64 k] w fun x w' => x = .returned (.int .i64 0) ∧ LW w0 w' qb hb mb nq (m.fin t.x 4) L q A F :=
  (hs_turn (X := fun x => x = .returned (.int .i64 0)) h.hs (fun F' hM => (abort_f mb m w F' hM k h1 h2).mono (fun _ _ ⟨_, ho⟩ => (ho.2 t hf).2 (by omega)))).mono fun _ _ ⟨e, hs, t⟩ => ⟨e, h.kept hs t⟩
theorem LW.prepares (h : LW w0 w qb hb mb nq m L q A F) {k : Int} {t : Tx} (hf : fnd m.tx k = some (t, -1)) (hp : t.st = 1) (h1 : -9223372036854775808 ≤ k) (h2 : k ≤ 9223372036854775807) : Calls Tryz.prog 25 #[.pointer (some ⟨mb, 0, none⟩), .int .i64 k] w fun x w' => x = .returned (.int .i64 0) ∧ LW w0 w' qb hb mb nq (m.prep t.x) L q A F :=
  (hs_turn (X := fun x => x = .returned (.int .i64 0)) h.hs (fun F' hM => (prepare_f mb m w F' hM k h1 h2).mono (fun _ _ ho => (ho.2 t hf).2 (by omega)))).mono fun _ _ ⟨e, hs, t⟩ => ⟨e, h.kept hs t⟩
theorem LW.snaps (h : LW w0 w qb hb mb nq m L q A F) : Calls Tryz.prog 12 #[.pointer (some ⟨mb, 0, none⟩)] w fun x w' => ∃ so sc, x = .returned (.agg #[.int .i64 (m.on.headD m.nx : Nat), .int .i64 m.nx, .slice so m.on.length sc]) ∧ w'.ownsRow w.heap.size 3 1 (.slice so m.on.length sc) m.on.length (icl m.on) ∧ LW w0 w' qb hb mb nq m L q A (fun i => F i ∨ w.heap.size ≤ i ∧ i < w'.heap.size) :=
  (snapshot_h h.hs).mono fun x w' ⟨⟨v', e, ho⟩, t⟩ => by
    obtain ⟨so, sc, rfl⟩ := row_slice ho
    exact ⟨so, sc, e, ho, h.fresh t⟩
theorem ses_x {m : Mg} (hw : Wf m) {s : Se} {t : Tx} (ht : SesTx m s t) : fnd m.tx (s.x : Int) = some (t, -1) := by
  rw [← ht.x]; exact hw.fnd_tx ht.mem
end
end Go.Proofs.YtokgihmigkplaaaGreat.F
namespace Go.Proofs.YtokgihmigkplaaaGreat.F
open Go.RowKit Go Go.Sort
set_option maxRecDepth 100000
theorem five (l : List Se) (h : l.length = 5) : ∃ s0 s1 s2 s3 s4, l = [s0, s1, s2, s3, s4] := by
  rcases l with _ | ⟨c0, _ | ⟨c1, _ | ⟨c2, _ | ⟨c3, _ | ⟨c4, _ | ⟨c5, l⟩⟩⟩⟩⟩⟩ <;> simp at h
  exact ⟨c0, c1, c2, c3, c4, rfl⟩
def updA (A : Nat → Sx) (k : Nat) (a : Sx) : Nat → Sx := fun j => if j = k then a else A j
theorem updA_same (A : Nat → Sx) (k : Nat) (a : Sx) : updA A k a k = a := if_pos rfl
theorem updA_other (A : Nat → Sx) {k j : Nat} (a : Sx) (h : j ≠ k) : updA A k a j = A j := if_neg h
theorem moC_set (q : Mo) (hl : q.l.length = 5) (mb hb : Nat) (A : Nat → Sx) {k : Nat} (hk : k < 5) (s' : Se) (a' : Sx) : (moC q mb hb A).take (2 + k * 15) ++ (seC s' a' ++ (moC q mb hb A).drop (2 + k * 15 + 15)) = moC { q with l := q.l.set k s' } mb hb (updA A k a') := by
  obtain ⟨l, now, wn, n⟩ := q
  obtain ⟨s0, s1, s2, s3, s4, rfl⟩ := five l hl
  rcases (by omega : k = 0 ∨ k = 1 ∨ k = 2 ∨ k = 3 ∨ k = 4) with rfl | rfl | rfl | rfl | rfl <;> rfl
theorem moC_cell (q : Mo) (hl : q.l.length = 5) (mb hb : Nat) (A : Nat → Sx) {k : Nat} (hk : k < 5) {s s' : Se} {a' : Sx} (hs : q.l[k]? = some s) {j : Nat} (hj : j < 15) {v : Value} (hv : (seC s (A k)).set j v = seC s' a') : (moC q mb hb A).set (2 + k * 15 + j) v = moC { q with l := q.l.set k s' } mb hb (updA A k a') := by
  rw [← moC_set q hl mb hb A hk s' a', ← hv]
  apply List.ext_getElem?
  intro i
  have e := fun {j : Nat} (hj : j < 15) => moC_se q mb hb A hk hj
  rw [getD_some hs] at e
  have hlen : (moC q mb hb A).length = 90 := rfl
  by_cases h1 : i < 2 + k * 15
  · rw [List.getElem?_set_ne (by omega), List.getElem?_append_left (by rw [List.length_take]; omega), List.getElem?_take_of_lt h1]
  · by_cases h2 : i < 2 + k * 15 + 15
    · obtain ⟨i', rfl⟩ : ∃ i', i = 2 + k * 15 + i' := ⟨i - (2 + k * 15), by omega⟩
      have hi' : i' < 15 := by omega
      rw [List.getElem?_append_right (by rw [List.length_take]; omega), List.length_take]
      rw [show 2 + k * 15 + i' - min (2 + k * 15) (moC q mb hb A).length = i' by omega]
      rw [List.getElem?_append_left (by rw [List.length_set, seC_len]; exact hi')]
      by_cases h3 : i' = j
      · subst h3
        rw [List.getElem?_set_self (by omega), List.getElem?_set_self (by rw [seC_len]; exact hi')]
      · rw [List.getElem?_set_ne (by omega), List.getElem?_set_ne (by omega), e hi']
    · rw [List.getElem?_set_ne (by omega), List.getElem?_append_right (by rw [List.length_take]; omega), List.length_take, List.getElem?_append_right (by rw [List.length_set, seC_len]; omega), List.length_set, seC_len, List.getElem?_drop]
      congr 1
      omega
theorem moC_nset (q : Mo) (mb hb : Nat) (A : Nat → Sx) (n : Nat) : (moC q mb hb A).set 89 (.int .i64 n) = moC { q with n := n } mb hb A := rfl
def set6 (l : List Nat) (κ n : Nat) : List Nat := [if κ = 0 then n else l.getD 0 0, if κ = 1 then n else l.getD 1 0, if κ = 2 then n else l.getD 2 0, if κ = 3 then n else l.getD 3 0, if κ = 4 then n else l.getD 4 0, if κ = 5 then n else l.getD 5 0]
theorem set6_get (l : List Nat) {κ j : Nat} (hκ : κ < 6) (hj : j < 6) (n : Nat) : (set6 l κ n).getD j 0 = if j = κ then n else l.getD j 0 := by
  rcases (by omega : κ = 0 ∨ κ = 1 ∨ κ = 2 ∨ κ = 3 ∨ κ = 4 ∨ κ = 5) with rfl | rfl | rfl | rfl | rfl | rfl <;> rcases (by omega : j = 0 ∨ j = 1 ∨ j = 2 ∨ j = 3 ∨ j = 4 ∨ j = 5) with rfl | rfl | rfl | rfl | rfl | rfl <;> rfl
theorem moC_nowset (q : Mo) (mb hb : Nat) (A : Nat → Sx) {κ : Nat} (hκ : κ < 6) (n : Nat) : (moC q mb hb A).set (77 + κ) (.int .i64 n) = moC { q with now := set6 q.now κ n } mb hb A := by
  rcases (by omega : κ = 0 ∨ κ = 1 ∨ κ = 2 ∨ κ = 3 ∨ κ = 4 ∨ κ = 5) with rfl | rfl | rfl | rfl | rfl | rfl <;> rfl
theorem moC_wnset (q : Mo) (mb hb : Nat) (A : Nat → Sx) {κ : Nat} (hκ : κ < 6) (n : Nat) : (moC q mb hb A).set (83 + κ) (.int .i64 n) = moC { q with wn := set6 q.wn κ n } mb hb A := by
  rcases (by omega : κ = 0 ∨ κ = 1 ∨ κ = 2 ∨ κ = 3 ∨ κ = 4 ∨ κ = 5) with rfl | rfl | rfl | rfl | rfl | rfl <;> rfl
section
variable {w0 : Fr} {w w' : World} {qb hb mb nq : Nat} {m : Mg} {L : HL} {q : Mo} {A : Nat → Sx} {F : Nat → Prop}
theorem LW.model {q' : Mo} (h : LW w0 w qb hb mb nq m L q A F) (t : Tch (fun i => i = qb) w w') (bk : w'.heap[qb]? = some (.cells (moC q' mb hb A).toArray 43 (0, 0))) (hl : q'.l = q.l) : LW w0 w' qb hb mb nq m L q' A F := by
  have hne : ∀ {b sz n : Nat} {ty : TypeId} {v : Value} {xs : List Value}, w.ownsRow b ty sz v n xs → ty ≠ 43 → ∀ g, v.ownBlock = some g → ¬ g = qb := fun ho hty g e e2 => by
    subst e2
    exact row_ne ho h.bk hty e rfl
  refine ⟨h.hs.tch t (fun i _ e => by rw [e]; exact h.fq), h.f0, h.fq, h.q0, bk, by rw [hl]; exact h.ln, fun k s hs => ?_, fun k s hs => h.bd k s (by rw [← hl]; exact hs), h.ap, h.t.trans t (fun i hi e => by have := h.q0; omega) (fun i _ g e => g.ne h.bk e)⟩
  have hI := h.se k s (by rw [← hl]; exact hs)
  exact ⟨own_tch hI.on t (hne hI.on (by decide)), hI.onf, own_tch hI.ps t (hne hI.ps (by decide)), hI.psf, own_tch hI.ws t (hne hI.ws (by decide)), hI.wsf⟩
theorem LW.setN (h : LW w0 w qb hb mb nq m L q A F) (n : Nat) : LW w0 (w.setCell ⟨qb, 89, none⟩ (.int .i64 n)) qb hb mb nq m L { q with n := n } A F :=
  h.model (Tch.setCell _ _ _ _ rfl) ((blk_set (i := 89) h.bk _).trans (by rw [List.setIfInBounds_toArray, moC_nset])) rfl
theorem LW.setNow (h : LW w0 w qb hb mb nq m L q A F) {κ : Nat} (hκ : κ < 6) (n : Nat) : LW w0 (w.setCell ⟨qb, 77 + κ, none⟩ (.int .i64 n)) qb hb mb nq m L { q with now := set6 q.now κ n } A F :=
  h.model (Tch.setCell _ _ _ _ rfl) ((blk_set (i := 77 + κ) h.bk _).trans (by rw [List.setIfInBounds_toArray, moC_nowset q mb hb A hκ])) rfl
theorem LW.setWn (h : LW w0 w qb hb mb nq m L q A F) {κ : Nat} (hκ : κ < 6) (n : Nat) : LW w0 (w.setCell ⟨qb, 83 + κ, none⟩ (.int .i64 n)) qb hb mb nq m L { q with wn := set6 q.wn κ n } A F :=
  h.model (Tch.setCell _ _ _ _ rfl) ((blk_set (i := 83 + κ) h.bk _).trans (by rw [List.setIfInBounds_toArray, moC_wnset q mb hb A hκ])) rfl
theorem LW.frz (h : LW w0 w qb hb mb nq m L q A F) (j : Nat) : w.frozen? ⟨qb, j, none⟩ = false := blk_frozen h.bk j
theorem LW.there (h : LW w0 w qb hb mb nq m L q A F) {o n : Nat} (hn : o + n ≤ 90) : w.there qb o n := fun j hj => by
  refine ⟨?_, h.frz _⟩
  rw [blk_cell h.bk, List.getElem?_toArray]
  have : o + j < (moC q mb hb A).length := by show o + j < 90; omega
  rw [List.getElem?_eq_getElem this]; rfl
end
end Go.Proofs.YtokgihmigkplaaaGreat.F
namespace Go.Proofs.YtokgihmigkplaaaGreat.F
open Go.RowKit Go Go.Sort
set_option maxRecDepth 100000
theorem set_blk {g : Nat} {t : TypeId} : ∀ (vs : List Value) (o : Nat) (W : World) (cur : Array Value), W.heap[g]? = some (.cells cur t (0, 0)) → o + vs.length ≤ cur.size → (W.setCells g o vs).heap[g]? = some (.cells (cur.toList.take o ++ vs ++ cur.toList.drop (o + vs.length)).toArray t (0, 0))
  | [], o, W, cur, h, hs => by
    have e : (cur.toList.take o ++ [] ++ cur.toList.drop (o + ([] : List Value).length)).toArray = cur := by simp
    rw [e]; exact h
  | v :: vs, o, W, cur, h, hs => by
    simp only [List.length_cons] at hs
    have h2 := set_blk vs (o + 1) (W.setCell ⟨g, o, none⟩ v) (cur.setIfInBounds o v) (blk_set h v) (by simp; omega)
    have ho : o < cur.toList.length := by simp; omega
    have e : (cur.setIfInBounds o v).toList.take (o + 1) ++ vs ++ (cur.setIfInBounds o v).toList.drop (o + 1 + vs.length) = cur.toList.take o ++ (v :: vs) ++ cur.toList.drop (o + (v :: vs).length) := by
      rw [Array.toList_setIfInBounds, List.drop_set_of_lt (by omega), List.take_set, List.take_succ_eq_append_getElem ho, List.set_append_right _ _ (by simp; omega)]
      have e3 : o - (cur.toList.take o).length = 0 := by simp; omega
      rw [e3]
      simp [Nat.add_assoc, Nat.add_comm 1]
    rw [e] at h2
    exact h2
theorem tch_cells (g : Nat) : ∀ (vs : List Value) (o : Nat) (W : World), Tch (fun i => i = g) W (W.setCells g o vs)
  | [], _, _ => Tch.refl _ _
  | v :: vs, o, W => (Tch.setCell (fun i => i = g) W ⟨g, o, none⟩ v rfl).trans' (tch_cells g vs (o + 1) _)
theorem moC_size (q : Mo) (mb hb : Nat) (A : Nat → Sx) : (moC q mb hb A).toArray.size = 90 := by
  rw [List.size_toArray]; rfl
section
variable {w0 : Fr} {w w' : World} {qb hb mb nq : Nat} {m : Mg} {L : HL} {q : Mo} {A : Nat → Sx} {F : Nat → Prop}
theorem LW.sess (h : LW w0 w qb hb mb nq m L q A F) {k : Nat} (hk : k < 5) {s' : Se} {a' : Sx} (hI : SeIn w0 w F s' a') (hb' : SeBd s') (hap : ∀ j, j ≠ k → j < 5 → ∀ a a2, (a'.po = some a → (A j).po = some a2 → a.block ≠ a2.block) ∧ (a'.wo = some a → (A j).wo = some a2 → a.block ≠ a2.block)) :
    LW w0 (w.setCells qb (2 + k * 15) (seC s' a')) qb hb mb nq m L { q with l := q.l.set k s' } (updA A k a') F := by
  have t := tch_cells qb (seC s' a') (2 + k * 15) w
  have hne : ∀ {b sz n : Nat} {ty : TypeId} {v : Value} {xs : List Value}, w.ownsRow b ty sz v n xs → ty ≠ 43 → ∀ g, v.ownBlock = some g → ¬ g = qb := fun ho hty g e e2 => by
    subst e2
    exact row_ne ho h.bk hty e rfl
  have hst : ∀ (s : Se) (a : Sx), SeIn w0 w F s a → SeIn w0 (w.setCells qb (2 + k * 15) (seC s' a')) F s a := fun s a hI => ⟨own_tch hI.on t (hne hI.on (by decide)), hI.onf, own_tch hI.ps t (hne hI.ps (by decide)), hI.psf, own_tch hI.ws t (hne hI.ws (by decide)), hI.wsf⟩
  have hget : ∀ (j : Nat) (s : Se), (q.l.set k s')[j]? = some s → (j = k ∧ s = s') ∨ (j ≠ k ∧ q.l[j]? = some s) := fun j s hj => by
    obtain ⟨s0, hs0⟩ : ∃ s0, q.l[k]? = some s0 := ⟨_, List.getElem?_eq_getElem (by have := h.ln; omega)⟩
    exact set_get hs0 hj
  refine ⟨h.hs.tch t (fun i _ e => by rw [e]; exact h.fq), h.f0, h.fq, h.q0, ?_, by show (q.l.set k s').length = 5; rw [List.length_set]; exact h.ln, fun j s hj => ?_, fun j s hj => ?_, fun j j' hjj h5 h5' a a2 => ?_, h.t.trans t (fun i hi e => by have := h.q0; omega) (fun i _ g e => g.ne h.bk e)⟩
  · have hb2 := set_blk (seC s' a') (2 + k * 15) w _ h.bk (by rw [moC_size, seC_len]; omega)
    rw [seC_len, List.append_assoc, moC_set q h.ln mb hb A hk s' a'] at hb2
    exact hb2
  · rcases hget j s hj with ⟨rfl, rfl⟩ | ⟨hne, hs⟩
    · rw [updA_same]; exact hst _ _ hI
    · rw [updA_other A a' hne]; exact hst _ _ (h.se j s hs)
  · rcases hget j s hj with ⟨rfl, rfl⟩ | ⟨hne, hs⟩
    · exact hb'
    · exact h.bd j s hs
  · by_cases e : j = k
    · subst e
      rw [updA_same, updA_other A a' (fun e => hjj e.symm)]
      exact hap j' (fun e => hjj e.symm) h5' a a2
    · by_cases e' : j' = k
      · subst e'
        rw [updA_other A a' e, updA_same]
        have := hap j e h5 a2 a
        exact ⟨fun h1 h2 e2 => this.1 h2 h1 e2.symm, fun h1 h2 e2 => this.2 h2 h1 e2.symm⟩
      · rw [updA_other A a' e, updA_other A a' e']
        exact h.ap j j' hjj h5 h5' a a2
theorem LW.seKept (h : LW w0 w qb hb mb nq m L q A F) {k : Nat} {s : Se} (hs : q.l[k]? = some s) (t : Tch (fun i => i = qb) w w') : SeIn w0 w' F s (A k) := by
  have hne : ∀ {b sz n : Nat} {ty : TypeId} {v : Value} {xs : List Value}, w.ownsRow b ty sz v n xs → ty ≠ 43 → ∀ g, v.ownBlock = some g → ¬ g = qb := fun ho hty g e e2 => by
    subst e2
    exact row_ne ho h.bk hty e rfl
  have hI := h.se k s hs
  exact ⟨own_tch hI.on t (hne hI.on (by decide)), hI.onf, own_tch hI.ps t (hne hI.ps (by decide)), hI.psf, own_tch hI.ws t (hne hI.ws (by decide)), hI.wsf⟩
def sx0 : Sx := ⟨none, 0, none, 0, none, 0⟩
theorem se0_in (w0 : Fr) (w : World) (F : Nat → Prop) : SeIn w0 w F se0 sx0 := ⟨World.ownsRow_nil _ _ _ _, (fun g e => by cases e), World.ownsRow_nil _ _ _ _, (fun g e => by cases e), World.ownsRow_nil _ _ _ _, (fun g e => by cases e)⟩
theorem se0_bd : SeBd se0 := ⟨Nat.zero_le _, Nat.zero_le _, (fun i v e => by cases e), (fun v hv => by cases hv), fun κ hκ => by
  rcases (by omega : κ = 0 ∨ κ = 1 ∨ κ = 2 ∨ κ = 3 ∨ κ = 4 ∨ κ = 5) with rfl | rfl | rfl | rfl | rfl | rfl <;> exact Nat.zero_le _⟩
theorem LW.close (h : LW w0 w qb hb mb nq m L q A F) {k : Nat} (hk : k < 5) : LW w0 (w.setCells qb (2 + k * 15) (seC se0 sx0)) qb hb mb nq m L { q with l := q.l.set k se0 } (updA A k sx0) F :=
  h.sess hk (se0_in _ _ _) se0_bd (fun _ _ _ _ _ => ⟨(fun e => by cases e), (fun e => by cases e)⟩)
end
theorem siz_ses : (Tryz.prog.info? 38).map (·.size) = some 15 := by kernel_rfl
end Go.Proofs.YtokgihmigkplaaaGreat.F
namespace Go.Proofs.YtokgihmigkplaaaGreat.F
open Go.RowKit Go Go.Sort
set_option maxRecDepth 100000
theorem one_seC (s : Se) (a : Sx) : ((seC s a).toArray.all (·.oneCell')) = true := by simp [seC, Value.oneCell']
def actV (kind who key n : Int) : Value := .agg #[.int .i64 kind, .int .i64 who, .int .i64 key, .int .i64 n]
def E1 (w0 : Fr) (qb hb mb nq : Nat) (m m' : Mg) (L : HL) (q : Mo) (A : Nat → Sx) (F : Nat → Prop) (v : Value) (s : List Value) (W : World) : Prop := match s with
  | [] => LW w0 W qb hb mb nq m L q A F
  | [y] => y = v ∧ LW w0 W qb hb mb nq m' L q A F
  | _ => False
theorem E1.mor {w0 : Fr} {qb hb mb nq : Nat} {m m' : Mg} {L : HL} {q : Mo} {A : Nat → Sx} {F : Nat → Prop} {v : Value} {s : List Value} {W : World} (h : E1 w0 qb hb mb nq m m' L q A F v s W) : MoR W qb mb hb q A := by
  match s, h with
  | [], h => exact LW.mor h
  | [_], h => exact h.2.mor
theorem ends_abort {w0 : Fr} {w : World} {qb hb mb nq : Nat} {m : Mg} {L : HL} {q : Mo} {A : Nat → Sx} {F : Nat → Prop} (h : LW w0 w qb hb mb nq m L q A F) (hwf : Wf m) {k : Nat} {s : Se} (hs : q.l[k]? = some s) {t : Tx} (ht : SesTx m s t) (hx : s.x ≤ 1000000) (who key n : Int) :
    Calls Tryz.prog 22 #[.pointer (some ⟨qb, 0, none⟩), .int .i64 k, actV 2 who key n] w fun x w' => x = .returned (.bool true) ∧ LW w0 w' qb hb mb nq (m.fin t.x 4) L { q with l := q.l.set k se0 } (updA A k sx0) F := by
  have hk : k < 5 := by have := (List.getElem?_eq_some_iff.1 hs).1; have := h.ln; omega
  obtain ⟨w1, hw1⟩ : ∃ w1, w1 = w.alloc (.cells #[.int .i64 2, .int .i64 who, .int .i64 key, .int .i64 n] 29) := ⟨_, rfl⟩
  have h1 : LW w0 w1 qb hb mb nq m L q A F := h.no (by rw [hw1]; exact Tch.alloc _ _ _)
  obtain ⟨N, hN⟩ : ∃ N, N = w.heap.size := ⟨_, rfl⟩
  have x0 : w1.cell? ⟨N, 0, none⟩ = some (.int .i64 2) := by rw [hw1, hN, blk_cell (alloc_new _ _)]; rfl
  have hf := ses_x hwf ht
  have hst := ht.lt3.2
  obtain ⟨C, hC⟩ : ∃ C : List Value → World → Prop, C = E1 w0 qb hb mb nq m (m.fin t.x 4) L q A F (.int .i64 0) := ⟨_, rfl⟩
  have hK : Hid (∀ s1 W, C s1 W → W.cell? ⟨qb, 0, none⟩ = some (.pointer (some ⟨mb, 0, none⟩)) ∧ W.cell? ⟨qb, 2 + k * 15 + 2, none⟩ = some (.int .i64 s.x)) := fun s1 W hW => by
    rw [hC] at hW
    exact ⟨hW.mor.cm, (hW.mor.se k s hs).c 2 _ rfl⟩
  have h0' : C [] w1.drew := by
    rw [hC]
    exact LW.no h1 (Tch.refl _ _).drew
  have c1 : Hid (∀ W, C [] W → Calls Tryz.prog 43 #[.pointer (some ⟨mb, 0, none⟩), .int .i64 s.x] W fun x W' => ∃ y, x = .returned y ∧ C [y] W') := fun W hW => by
    rw [hC] at hW ⊢
    exact (LW.aborts hW hf hst (by omega) (by omega)).mono fun x W' ⟨e, h2⟩ => ⟨_, e, rfl, h2⟩
  have s1 : Hid (∀ y W, C [y] W → y = .int .i64 0) := fun y W hW => by
    rw [hC] at hW
    exact hW.1
  have HF : Hid (∀ y W, C [y] W → LW w0 W qb hb mb nq (m.fin t.x 4) L q A F) := fun y W hW => by
    rw [hC] at hW
    exact hW.2
  have HW1 : Hid (w1 = _) := hw1
  have HN : Hid (N = w.heap.size) := hN
  unfold actV
  clear h h1 hC hf hst ht hs hwf hx hw1 hN
  go_enter Tryz.func22, Tryz.ntmps22
  go_upto_region 3 with (fail)
  rw [← HW1.out, ← HN.out]
  go_upto_region 4 with (fail)
  refine wp_region_ordv [8] C 9 [0, 1, 2, 3, 4, 5, 6, 7, 8] (by kernel_rfl) (by kernel_rfl) h0' ?_
  clear h0'
  refine ordv_read rfl (by go_simp) (by rfl) ?_
  apply Exists.intro
  refine ⟨fun s' W hW b K Q hK' => ?_, fun K hK' => ?_⟩
  · obtain ⟨q0, q1⟩ := hK.out _ W hW
    go_simp
    exact hK' W hW
  go_simp
  refine hK' _ ?_
  clear hK' K
  refine ordv_read rfl (by go_simp) (by rfl) ?_
  apply Exists.intro
  refine ⟨fun s' W hW b K Q hK' => ?_, fun K hK' => ?_⟩
  · obtain ⟨q0, q1⟩ := hK.out _ W hW
    go_simp
    exact hK' W hW
  go_simp
  refine hK' _ ?_
  clear hK' K
  refine ordv_read rfl (by go_simp) (by rfl) ?_
  apply Exists.intro
  refine ⟨fun s' W hW b K Q hK' => ?_, fun K hK' => ?_⟩
  · obtain ⟨q0, q1⟩ := hK.out _ W hW
    go_simp
    exact hK' W hW
  go_simp
  refine hK' _ ?_
  clear hK' K
  refine ordv_read rfl (by go_simp) (by rfl) ?_
  apply Exists.intro
  refine ⟨fun s' W hW b K Q hK' => ?_, fun K hK' => ?_⟩
  · obtain ⟨q0, q1⟩ := hK.out _ W hW
    go_simp
    exact hK' W hW
  go_simp
  refine hK' _ ?_
  clear hK' K
  refine ordv_read rfl (by go_simp) (by rfl) ?_
  apply Exists.intro
  refine ⟨fun s' W hW b K Q hK' => ?_, fun K hK' => ?_⟩
  · obtain ⟨q0, q1⟩ := hK.out _ W hW
    go_simp
    exact hK' W hW
  go_simp
  refine hK' _ ?_
  clear hK' K
  refine ordv_read rfl (by go_simp) (by rfl) ?_
  apply Exists.intro
  refine ⟨fun s' W hW b K Q hK' => ?_, fun K hK' => ?_⟩
  · obtain ⟨q0, q1⟩ := hK.out _ W hW
    go_simp
    exact hK' W hW
  go_simp
  refine hK' _ ?_
  clear hK' K
  refine ordv_read rfl (by go_simp) (by rfl) ?_
  apply Exists.intro
  refine ⟨fun s' W hW b K Q hK' => ?_, fun K hK' => ?_⟩
  · obtain ⟨q0, q1⟩ := hK.out _ W hW
    go_simp
    exact hK' W hW
  go_simp
  refine hK' _ ?_
  clear hK' K
  refine ordv_read rfl (by go_simp) (by rfl) ?_
  apply Exists.intro
  refine ⟨fun s' W hW b K Q hK' => ?_, fun K hK' => ?_⟩
  · obtain ⟨q0, q1⟩ := hK.out _ W hW
    go_simp
    exact hK' W hW
  go_simp
  refine hK' _ ?_
  clear hK' K
  refine ordv_turn rfl (by go_simp) (by rfl) (fun W hW b K Q hK' => ?_) (fun u hu K hK' => ?_)
  · go_simp
    go_at_call 43
    refine (c1.out W hW).mono ?_
    rintro x w' ⟨y, rfl, h1⟩
    exact hK' y w' h1
  obtain rfl : u = .int .i64 0 := by
    obtain ⟨W', hW'⟩ := hu
    exact s1.out u W' hW'
  clear hu c1 s1
  go_simp
  refine hK' _ ?_
  clear hK' K
  refine ordv_nil ?_
  intro w5 hw5
  have H5 : Hid (LW w0 w5 qb hb mb nq (m.fin t.x 4) L q A F) := HF.out _ w5 hw5
  clear hK HF hw5 x0 HW1 HN
  go_upto_region 14 with (fail)
  go_simp
  iterate 19 (first | go_values | go_skip | go_guarded | go_step | go_upon | go_in | go_back)
  refine wpList_store_mid rfl 38 (.tmp 74) (.tmp 71) rfl qb (2 + k * 15) (seC se0 sx0).toArray rfl rfl (H5.out.there (by show 2 + k * 15 + 15 ≤ 90; omega)) siz_ses (one_seC _ _) ?_
  have H6 : Hid (LW w0 (w5.setCells qb (2 + k * 15) (seC se0 sx0)) qb hb mb nq (m.fin t.x 4) L { q with l := q.l.set k se0 } (updA A k sx0) F) := H5.out.close hk
  obtain ⟨w6, hw6⟩ : ∃ w6, w6 = w5.setCells qb (2 + k * 15) (seC se0 sx0) := ⟨_, rfl⟩
  rw [← hw6] at H6
  have e6 : w5.setCells qb (2 + k * 15) (seC se0 sx0).toArray.toList = w6 := by rw [hw6]
  rw [e6]
  clear e6 hw6 H5
  go_wp2_with fail
  go_ret
  exact ⟨rfl, H6.out⟩
end Go.Proofs.YtokgihmigkplaaaGreat.F
