import Derived.Test.YtokgihmigkplaaaGreatFW0
import Derived.Test.YtokgihmigkplaaaGreatFR1
import Derived.Test.YtokgihmigkplaaaGreatFP1
set_option maxHeartbeats 4000000
set_option maxRecDepth 100000
namespace Go.Proofs.YtokgihmigkplaaaGreat.F
open Go.RowKit Go Go.Sort
set_option maxRecDepth 100000
def sj (s : Se) (k : Nat) (b : Bool) (n : Nat) : Se := { s with ps := psj s.ps k b n }
theorem sj_zero (s : Se) (k : Nat) (b : Bool) : sj s k b 0 = s := by
  unfold sj; rw [psj_zero]
theorem sj_all (s : Se) (k : Nat) (b : Bool) : sj s k b s.ps.length = endS s k b := rfl
theorem sj_at (s : Se) (k : Nat) (b : Bool) (n : Nat) {p : Pr} (hp : s.ps[n]? = some p) : (sj s k b n).ps[n]? = some p := by
  show (psj s.ps k b n)[n]? = some p
  rw [psj_get, hp, Option.map_some, if_neg (by omega)]
theorem set_same {l : List Se} {k : Nat} {s : Se} (h : l[k]? = some s) : l.set k s = l := by
  apply List.ext_getElem?
  intro i
  by_cases e : i = k
  · subst e
    rw [List.getElem?_set_self (List.getElem?_eq_some_iff.1 h).1, h]
  · rw [List.getElem?_set_ne (fun e2 => e e2.symm)]
theorem bd_ps {s : Se} (h : SeBd s) {ps' : List Pr} (hl : ps'.length = s.ps.length) (hp : ∀ (i : Nat) (v : Pr), ps'[i]? = some v → ∃ u, s.ps[i]? = some u ∧ v.par = u.par ∧ v.x = u.x) : SeBd { s with ps := ps' } :=
  ⟨by show ps'.length ≤ 1000; rw [hl]; exact h.pl, h.wl, fun i v hv => by
    obtain ⟨u, h1, h2, h3⟩ := hp i v hv
    have := h.pr i u h1
    rw [h2, h3]; exact this, fun v hv => by
    have := h.wr v hv
    show -1 ≤ v.pt ∧ v.pt < ps'.length ∧ v.key < 6 ∧ v.n < 1000
    rw [hl]; exact this, h.ba⟩
theorem set_par {ps : List Pr} {i : Nat} {p p' : Pr} (hp : ps[i]? = some p) (h1 : p'.par = p.par) (h2 : p'.x = p.x) : ∀ (j : Nat) (v : Pr), (ps.set i p')[j]? = some v → ∃ u, ps[j]? = some u ∧ v.par = u.par ∧ v.x = u.x := fun j v hv => by
  by_cases e : j = i
  · subst e
    rw [List.getElem?_set_self (List.getElem?_eq_some_iff.1 hp).1] at hv
    injection hv with hv
    subst hv
    exact ⟨p, hp, h1, h2⟩
  · rw [List.getElem?_set_ne (fun e2 => e e2.symm)] at hv
    exact ⟨v, hv, rfl, rfl⟩
section
variable {w0 : Fr} {w w' : World} {qb hb mb nq : Nat} {m : Mg} {L : HL} {q : Mo} {A : Nat → Sx} {F : Nat → Prop}
theorem LW.setPr (h : LW w0 w qb hb mb nq m L q A F) {k : Nat} {s : Se} (hs : q.l[k]? = some s) {i : Nat} {p p' : Pr} (hp : s.ps[i]? = some p) (j : Nat) (v : Value) (hj : j < 4) (e : ([Value.int .i64 p.x, .int .i64 p.par, .bool p.live, .bool p.bk]).set j v = [.int .i64 p'.x, .int .i64 p'.par, .bool p'.live, .bool p'.bk]) (h1 : p'.par = p.par) (h2 : p'.x = p.x) {g : Nat} (hg : (A k).po = some ⟨g, 0, none⟩) :
    LW w0 (w.setCell ⟨g, i * 4 + j, none⟩ v) qb hb mb nq m L { q with l := q.l.set k { s with ps := s.ps.set i p' } } A F := by
  have hps := (h.se k s hs).ps
  have hps' := hps
  rw [hg] at hps
  obtain ⟨ho, hgr⟩ := World.ownsRow.stored hps (i * 4 + j) v
  refine h.inlist hs (List.length_set ..) (Tch.setCell _ _ _ _ ?_) ?_ (bd_ps (h.bd k s hs) (List.length_set ..) (set_par hp h1 h2))
  · show (Value.slice (A k).po s.ps.length (A k).pc).ownBlock = some g
    rw [hg]; rfl
  · rw [hg, ← prC_set s.ps i p p' j v hp hj e]
    exact ho
theorem LW.partAt (h : LW w0 w qb hb mb nq m L q A F) {k : Nat} {s : Se} (hs : q.l[k]? = some s) {i : Nat} {p : Pr} (hp : s.ps[i]? = some p) {g : Nat} (hg : (A k).po = some ⟨g, 0, none⟩) :
    F g ∧ g ≠ qb ∧ (∀ j, w.frozen? ⟨g, j, none⟩ = false) ∧ w.cell? ⟨g, i * 4 + 2, none⟩ = some (.bool p.live) ∧ w.cell? ⟨g, i * 4 + 3, none⟩ = some (.bool p.bk) := by
  have hI := h.se k s hs
  have hob : (Value.slice (A k).po s.ps.length (A k).pc).ownBlock = some g := by rw [hg]; rfl
  obtain ⟨g2, e2, _, _, k2, k3⟩ := (h.mor.se k s hs).part hp
  rw [hg] at e2
  injection e2 with e2
  have e2 : g = g2 := by injection e2
  subst e2
  refine ⟨hI.psf g hob, fun e => row_ne hI.ps h.bk (by decide) hob e, fun j => ?_, k2, k3⟩
  obtain ⟨cur, hc⟩ := own_blk hI.ps hob
  exact blk_frozen hc j
end
theorem releases_h {w : World} {hb mb nq : Nat} {m : Mg} {L : HL} {F : Nat → Prop} (h : HS w hb mb m L F nq) {k : Int} {t : Tx} {i : Nat} (hf : fnd m.tx k = some (t, (i : Int))) (hp : may t i = true) (h1 : -9223372036854775808 ≤ k) (h2 : k ≤ 9223372036854775807) : Calls Tryz.prog 48 #[.pointer (some ⟨mb, 0, none⟩), .int .i64 k] w fun x w' => x = .returned (.int .i64 0) ∧ HS w' hb mb (m.endp t.x i 1) L F nq ∧ Kept F w w' :=
  hs_turn (X := fun x => x = .returned (.int .i64 0)) h (fun F' hM => (release_f mb m w F' hM k h1 h2).mono (fun _ _ ⟨_, ho⟩ => ho.2 t i hf hp))
structure LV (w1 W : World) (s : Se) (lo : Option Addr) (lc : Nat) (l : List Nat) : Prop where
  t : Tch (fun _ => False) w1 W
  ow : W.ownsRow w1.heap.size 3 1 (.slice lo l.length lc) l.length (icl l)
  al : ∀ x ∈ l, ∃ p, s.ps[x]? = some p ∧ p.live = true ∧ p.bk = false
theorem LV.no {w1 W W' : World} {s : Se} {lo : Option Addr} {lc : Nat} {l : List Nat} (h : LV w1 W s lo lc l) (t : Tch (fun _ => False) W W') : LV w1 W' s lo lc l :=
  ⟨h.t.trans' t, own_tch h.ow t (fun _ _ e => e), h.al⟩
def P1 (w0 : Fr) (wx : World) (qb hb mb nq : Nat) (m : Mg) (L : HL) (q : Mo) (A : Nat → Sx) (F : Nat → Prop) (l : List Value) (W : World) : Prop := match l with
  | [] => Tch (fun _ => False) wx W
  | [y] => y = .int .i64 0 ∧ LW w0 W qb hb mb nq m L q A F ∧ Kept F wx W
  | _ => False
theorem part_ok {m : Mg} (hw : Wf m) {s : Se} {t : Tx} (ht : SesTx m s t) (hpp : s.pp = false) {j : Nat} {p : Pr} (hp : s.ps[j]? = some p) (hl : p.live = true) (hb : p.bk = false) : fnd m.tx (p.x : Int) = some (t, (j : Int)) ∧ may t (j : Int) = true := by
  have hj := (List.getElem?_eq_some_iff.1 hp).1
  have h1 := ses_fnd hw ht (i := (j : Int)) (by omega) (by omega)
  have e : wrN s (j : Int) = p.x := by
    unfold wrN
    rw [if_pos (by omega)]
    simp only [Int.toNat_natCast, hp]
  rw [e] at h1
  refine ⟨h1, ?_⟩
  have hst : t.st = 1 := by rw [ht.st, hpp]; rfl
  unfold may fate
  rw [hst, ht.ps, if_pos (by omega)]
  simp only [Int.toNat_natCast, List.getElem?_map, hp, Option.map_some, ptOf, hl, hb]
  rfl
end Go.Proofs.YtokgihmigkplaaaGreat.F
namespace Go.Proofs.YtokgihmigkplaaaGreat.F
open Go.RowKit Go Go.Sort
set_option maxRecDepth 100000
structure SB (i nq : Nat) (m : Mg) (q : Mo) : Prop where
  nq : nq ≤ 3 * i
  nx : m.nx ≤ 1 + i
  on : m.on.length ≤ i
  qn : q.n ≤ i
  now : ∀ κ, κ < 6 → q.now.getD κ 0 ≤ 1000
  wn : ∀ κ, κ < 6 → q.wn.getD κ 0 ≤ q.n
  se : ∀ (k : Nat) (s : Se), q.l[k]? = some s → s.ws.length ≤ i ∧ s.ps.length ≤ 12 ∧ s.on.length ≤ i
structure StQ (q q' : Mo) (k kd : Nat) (s : Se) : Prop where
  se : ∀ (j : Nat) (u : Se), q'.l[j]? = some u → u.op = true → (∃ v, q.l[j]? = some v ∧ v.op = true ∧ u.wh = v.wh ∧ ¬ (j = k ∧ kd = 1)) ∨ (j = k ∧ kd = 0 ∧ s.op = false ∧ u.wh = q.n)
  com : kd = 1 → s.op = true → q'.n = q.n + 1 ∧ ∀ κ, κ < 6 → q'.wn.getD κ 0 = if wroteS s κ = true then q.n + 1 else q.wn.getD κ 0
  oth : ¬ (kd = 1 ∧ s.op = true) → q'.n = q.n ∧ q'.wn = q.wn
section
variable {i nq nq' : Nat} {m m' : Mg} {q : Mo} {k kd : Nat} {s s' : Se}
theorem SB.up (h : SB i nq m q) : SB (i + 1) nq m q :=
  ⟨by have := h.nq; omega, by have := h.nx; omega, by have := h.on; omega, by have := h.qn; omega, h.now, h.wn, fun k s hs => by have := h.se k s hs; omega⟩
theorem SB.upN (h : SB i nq m q) : SB (i + 1) (nq + 3) m q :=
  ⟨by have := h.nq; omega, by have := h.nx; omega, by have := h.on; omega, by have := h.qn; omega, h.now, h.wn, fun k s hs => by have := h.se k s hs; omega⟩
theorem SB.set (h : SB i nq m q) (hs : q.l[k]? = some s) (h1 : nq' ≤ nq + 3) (h2 : m'.nx ≤ m.nx + 1) (h3 : m'.on.length ≤ m.on.length + 1) (h4 : s'.ws.length ≤ i + 1 ∧ s'.ps.length ≤ 12 ∧ s'.on.length ≤ i + 1) : SB (i + 1) nq' m' { q with l := q.l.set k s' } :=
  ⟨by have := h.nq; omega, by have := h.nx; omega, by have := h.on; omega, by have := h.qn; show q.n ≤ i + 1; omega, h.now, h.wn, fun j u hu => by
    rcases set_get hs hu with ⟨_, e⟩ | ⟨_, hu⟩
    · rw [e]; exact h4
    · have := h.se j u hu; omega⟩
theorem StQ.same (hk : ¬ (kd = 1 ∧ s.op = true)) (hs : q.l[k]? = some s) : StQ q q k kd s :=
  ⟨fun j u hu ho => .inl ⟨u, hu, ho, rfl, fun e => hk ⟨e.2, by
    rw [e.1] at hu
    rw [hs] at hu
    injection hu with hu
    rw [hu]; exact ho⟩⟩, fun h1 h2 => absurd ⟨h1, h2⟩ hk, fun _ => ⟨rfl, rfl⟩⟩
theorem StQ.set (hk : kd ≠ 1) (hs : q.l[k]? = some s) (h : s'.op = true → s.op = true ∧ s'.wh = s.wh) : StQ q { q with l := q.l.set k s' } k kd s :=
  ⟨fun j u hu ho => .inl (by
    rcases set_get hs hu with ⟨e1, e⟩ | ⟨_, hu⟩
    · rw [e] at ho
      exact ⟨s, by rw [e1]; exact hs, (h ho).1, by rw [e]; exact (h ho).2, fun e => hk e.2⟩
    · exact ⟨u, hu, ho, rfl, fun e => hk e.2⟩), fun h1 _ => absurd h1 hk, fun _ => ⟨rfl, rfl⟩⟩
theorem StQ.begin (hs : q.l[k]? = some s) (hcl : s.op = false) (hw : s'.wh = q.n) : StQ q { q with l := q.l.set k s' } k 0 s :=
  ⟨fun j u hu ho => by
    rcases set_get hs hu with ⟨e1, e⟩ | ⟨hne, hu⟩
    · exact .inr ⟨e1, rfl, hcl, by rw [e]; exact hw⟩
    · exact .inl ⟨u, hu, ho, rfl, fun e => hne e.1⟩, fun h1 _ => by omega, fun _ => ⟨rfl, rfl⟩⟩
theorem StQ.commit (hs : q.l[k]? = some s) (ho : s.op = true) : StQ q { qj q s 6 with l := q.l.set k se0 } k 1 s :=
  ⟨fun j u hu ho => .inl (by
    rcases set_get hs hu with ⟨e1, e⟩ | ⟨hne, hu⟩
    · rw [e] at ho; cases ho
    · exact ⟨u, hu, ho, rfl, fun e => hne e.1⟩), fun _ _ => ⟨qj_n q s 6, fun κ hκ => by
      show (qj q s 6).wn.getD κ 0 = _
      rw [qj_wn q s 6 (by omega) κ hκ]
      by_cases hw : wroteS s κ = true
      · rw [if_pos ⟨hκ, hw⟩, if_pos hw]
      · rw [if_neg (fun e => hw e.2), if_neg hw]⟩, fun h => absurd ⟨rfl, ho⟩ h⟩
theorem SB.commit (h : SB i nq m q) (hs : q.l[k]? = some s) (hx : ∀ κ, κ < 6 → seesS s κ ≤ 1000) (h2 : m'.nx ≤ m.nx) (h3 : m'.on.length ≤ m.on.length) : SB (i + 1) nq m' { qj q s 6 with l := q.l.set k se0 } :=
  ⟨by have := h.nq; omega, by have := h.nx; omega, by have := h.on; omega, by show (qj q s 6).n ≤ i + 1; rw [qj_n]; have := h.qn; omega, fun κ hκ => by
    show (qj q s 6).now.getD κ 0 ≤ 1000
    rw [qj_now q s 6 (by omega) κ hκ]
    split
    · exact hx κ hκ
    · exact h.now κ hκ, fun κ hκ => by
    show (qj q s 6).wn.getD κ 0 ≤ (qj q s 6).n
    rw [qj_wn q s 6 (by omega) κ hκ, qj_n]
    split
    · exact Nat.le_refl _
    · have := h.wn κ hκ; omega, fun j u hu => by
    rcases set_get hs hu with ⟨_, e⟩ | ⟨_, hu⟩
    · rw [e]; exact ⟨Nat.zero_le _, Nat.zero_le _, Nat.zero_le _⟩
    · have := h.se j u hu; omega⟩
end
def PO (f : Fr) (qb hb mb i : Nat) (q : Mo) (A : Nat → Sx) (k kd : Nat) (s : Se) (b : Bool) (w' : World) : Prop :=
  b = true ∧ ∃ nq' m' L' q' A' F' K' σ', LW f w' qb hb mb nq' m' L' q' A' F' ∧ Inv m' q' K' σ' ∧ HK L' K' ∧ SB (i + 1) nq' m' q' ∧ StQ q q' k kd s ∧ (kd = 1 → s.op = true → SeIn f w' F' s (A k))
theorem fin_on (m : Mg) (x f : Nat) : (m.fin x f).on.length ≤ m.on.length := List.length_filter_le _ _
end Go.Proofs.YtokgihmigkplaaaGreat.F
namespace Go.Proofs.YtokgihmigkplaaaGreat.F
open Go.RowKit Go Go.Sort
set_option maxRecDepth 100000
theorem parts_release {w0 : Fr} {w : World} {qb hb mb nq : Nat} {m : Mg} {L : HL} {q : Mo} {A : Nat → Sx} {F : Nat → Prop} (h : LW w0 w qb hb mb nq m L q A F) (hwf : Wf m) {k : Nat} {s : Se} (hs : q.l[k]? = some s) {t : Tx} (ht : SesTx m s t) (hpp : s.pp = false) (hl : s.ps.length ≤ 12) {who key n : Int} (hni : -9223372036854775808 ≤ n ∧ n ≤ 9223372036854775807) :
    Calls Tryz.prog 23 #[.pointer (some ⟨qb, 0, none⟩), .pointer (some ⟨qb, 2 + k * 15, none⟩), actV 4 who key n] w fun x w' => ∃ b, x = .returned (.bool b) ∧ b = true ∧ ((∃ F', LW w0 w' qb hb mb nq m L q A F') ∨ ∃ (j : Nat) (F' : Nat → Prop), LW w0 w' qb hb mb nq (m.endp t.x j 1) L { q with l := q.l.set k (endS s j false) } A F') := by
  obtain ⟨N, hN⟩ : ∃ N, N = w.heap.size := ⟨_, rfl⟩
  obtain ⟨w1, hw1⟩ : ∃ w1, w1 = w.alloc (.cells #[.int .i64 4, .int .i64 who, .int .i64 key, .int .i64 n] 29) := ⟨_, rfl⟩
  have tw1 : Tch (fun _ => False) w w1 := by rw [hw1]; exact Tch.alloc _ _ _
  have bN : w1.heap[N]? = some (.cells #[.int .i64 4, .int .i64 who, .int .i64 key, .int .i64 n] 29 (0, 0)) := by rw [hw1, hN]; exact alloc_new _ _
  have HAc : Hid (∀ W, Tch (fun _ => False) w1 W → W.cell? ⟨N, 0, none⟩ = some (.int .i64 4) ∧ W.cell? ⟨N, 3, none⟩ = some (.int .i64 n)) := fun W tt => by
    have := (tt.block N (blk_lt bN) (fun e => e)).trans bN
    rw [blk_cell this, blk_cell this]; exact ⟨rfl, rfl⟩
  have HBN : Hid (w1.heap[N]? = some (.cells #[.int .i64 4, .int .i64 who, .int .i64 key, .int .i64 n] 29 (0, 0))) := bN
  have HL0 : Hid (LW w0 w qb hb mb nq m L q A F) := h
  have HL1 : Hid (∀ W, Tch (fun _ => False) w1 W → LW w0 W qb hb mb nq m L q A F) := fun W tt => (h.no tw1).no tt
  have HT1 : Hid (Tch (fun _ => False) w w1) := tw1
  have HS : Hid (q.l[k]? = some s) := hs
  have HPk : Hid (∀ W (c : Nat), 0 < c → c ≤ 12 → Calls Tryz.prog 7 #[.int .i64 n, .int .i64 c] W fun x w' => x = .returned (.int .i64 (pkN n c)) ∧ w' = W) := fun W c h1 h2 => pick9_any n c W hni.1 hni.2 h1 (by omega)
  have HOk : Hid (∀ (j : Nat) (p : Pr), s.ps[j]? = some p → p.live = true → p.bk = false → fnd m.tx (p.x : Int) = some (t, (j : Int)) ∧ may t (j : Int) = true) := fun j p h1 h2 h3 => part_ok hwf ht hpp h1 h2 h3
  have HPx : Hid (∀ (j : Nat) (p : Pr), s.ps[j]? = some p → p.x ≤ 1000000) := fun j p h1 => ((h.bd k s hs).pr j p h1).2.2
  obtain ⟨n9, hn9⟩ : ∃ n9, n9 = s.ps.length := ⟨_, rfl⟩
  have Hn9 : Hid (n9 = s.ps.length) := hn9
  have hl9 : n9 ≤ 12 := by omega
  have H13 : Hid (∀ W, Tch (fun _ => False) w1 W → SR W qb (2 + k * 15) s (A k) ∧ W.cell? ⟨qb, 2 + k * 15 + 13, none⟩ = some (.slice (A k).po n9 (A k).pc)) := fun W tt => by
    have hR := (HL1.out W tt).mor.se k s hs
    exact ⟨hR, by rw [hn9]; exact hR.c 13 _ rfl⟩
  have HW1 : Hid (w1 = _) := hw1
  have HN : Hid (N = w.heap.size) := hN
  have HLV0 : Hid (LV w1 w1 s none 0 []) := ⟨Tch.refl _ _, World.ownsRow_nil _ _ _ _, fun x hx => by cases hx⟩
  have x0 := (HAc.out w1 (Tch.refl _ _)).1
  obtain ⟨i0, hi0, hz0, hz1, hz2⟩ := info_parts info_int
  unfold actV
  clear h hwf hs ht hpp hl hn9 hw1 hN bN tw1 hni
  go_enter Tryz.func23, Tryz.ntmps23
  go_upto_region 1 with (fail)
  rw [← HW1.out, ← HN.out]
  go_upto_region 8 with (fail)
  clear x0
  go_wp2_with fail
  go_loopw [11, 12] (fun i11 i12 wr => ∃ (l : List Nat) (lo : Option Addr) (lc c : Nat), i11 = .slice lo l.length lc ∧ i12 = .int .i64 c ∧ c ≤ n9 ∧ l.length ≤ c ∧ Hid (LV w1 wr s lo lc l)) (fun _ i12 _ => (n9 - intOf i12).toNat)
  case atStart => exact ⟨[], none, 0, 0, rfl, rfl, Nat.zero_le _, Nat.le_refl _, HLV0⟩
  case round =>
    obtain ⟨l, lo, lc, c, rfl, rfl, hc, hlc, HV⟩ := hrel
    obtain ⟨wV, hwV⟩ : ∃ wV, wV = wr := ⟨_, rfl⟩
    subst hwV
    obtain ⟨hR, c13⟩ := H13.out wV HV.out.t
    obtain ⟨ll, hll⟩ : ∃ ll, ll = l.length := ⟨_, rfl⟩
    have Hll : Hid (ll = l.length) := hll
    rw [← hll] at hlc ⊢
    clear hll
    rcases Nat.lt_or_ge c n9 with hcn | hcn
    · obtain ⟨p, hp⟩ : ∃ p, s.ps[c]? = some p := ⟨_, List.getElem?_eq_getElem (by have := Hn9.out; omega)⟩
      obtain ⟨g, e, k0, k1, k2, k3⟩ := hR.part hp
      rw [e] at c13
      have HAl : Hid (p.live = true → p.bk = false → ∀ x ∈ l ++ [c], ∃ p, s.ps[x]? = some p ∧ p.live = true ∧ p.bk = false) := fun h1 h2 x hx => by
        rcases List.mem_append.1 hx with hx | hx
        · exact HV.out.al x hx
        · rw [List.mem_singleton.1 hx]; exact ⟨p, hp, h1, h2⟩
      generalize p.live = lv at *
      generalize p.bk = bk at *
      clear hp e hR k0 k1
      cases lv with
      | true =>
        cases bk with
        | false =>
          obtain ⟨wB, hwB⟩ : ∃ wB, wB = wV.alloc (.cells #[.int .i64 c] 3) := ⟨_, rfl⟩
          have hB : LV w1 wB s lo lc l := HV.out.no (by rw [hwB]; exact Tch.alloc _ _ _)
          have Hrow : Hid (wB.ownsRow w1.heap.size 3 1 (.slice lo ll lc) ll (icl l)) := by rw [Hll.out]; exact hB.ow
          have Hcl : Hid (∀ j u, ([.int .i64 c] : List Value)[j]? = some u → wB.cell? ((⟨wV.heap.size, 0, none⟩ : Addr).add j) = some u) := fun j u hu => by
            rw [add_plain, Nat.zero_add, hwB, blk_cell (alloc_new _ _), List.getElem?_toArray]; exact hu
          have HTB : Hid (Tch (fun _ => False) w1 wB) := hB.t
          have HWB : Hid (wB = _) := hwB
          have Hbs : Hid (w1.heap.size ≤ wB.heap.size) := hB.t.size
          clear hwB hB
          go_wp2_with (at_builtin; have hw0 := HWB.out; rw [← hw0]; clear hw0; refine wpList_append_keeps _ rfl _ _ 31 rfl w1.heap.size 3 i0 (.int .i64 0) 1 8 Tryz.underlying31 hi0 hz0 hz1 hz2 rfl (by decide) (.slice lo ll lc) ll (icl l) rfl Hrow.out ⟨wV.heap.size, 0, none⟩ 1 1 [.int .i64 c] rfl (by simp) Hcl.out (by simp [Value.oneCell']) (by unfold maxLen; omega) (by omega) Hbs.out ?_; intro v1 w5 hown1 hgr1 hat1 _; have HO : Hid (w5.ownsRow w1.heap.size 3 1 v1 (ll + 1) (icl l ++ [.int .i64 c])) := hown1; have HT : Hid (Tch (fun _ => False) w1 w5) := HTB.out.trans (grown_at (Tch.refl (fun _ => False) wB) hgr1) (fun i hi e => by have := row_ge Hrow.out e; omega); obtain ⟨o1, c1, rfl⟩ := row_slice hown1; clear hown1 hgr1 hat1)
          go_roundw
          case rel => exact ⟨l ++ [c], o1, c1, c + 1, (by rw [List.length_append, List.length_singleton, ← Hll.out]), (by rfl), by omega, (by rw [List.length_append, List.length_singleton, ← Hll.out]; omega), HT.out, (by rw [List.length_append, List.length_singleton, ← Hll.out, icl_snoc]; exact HO.out), HAl.out rfl rfl⟩
          case measure => (simp [intOf] <;> omega)
        | true =>
          go_wp2_with fail
          go_roundw
          case rel => exact ⟨l, lo, lc, c + 1, (by rw [← Hll.out]), (by rfl), by omega, (by rw [← Hll.out]; omega), HV⟩
          case measure => (simp [intOf] <;> omega)
      | false =>
        go_wp2_with fail
        go_roundw
        case rel => exact ⟨l, lo, lc, c + 1, (by rw [← Hll.out]), (by rfl), by omega, (by rw [← Hll.out]; omega), HV⟩
        case measure => (simp [intOf] <;> omega)
    · have hcc : c = n9 := by omega
      subst hcc
      have HR9 : Hid (SR wV qb (2 + k * 15) s (A k)) := hR
      clear hR hcn
      rcases Nat.eq_zero_or_pos ll with hz | hz
      · subst hz
        have HE : Hid (LW w0 wV qb hb mb nq m L q A F) := HL1.out wV HV.out.t
        go_wp2_with fail
        go_ret
        exact ⟨_, rfl, rfl, .inl ⟨F, HE.out⟩⟩
      · have a3 := (HAc.out wV HV.out.t).2
        have a4 := (HAc.out wV HV.out.t).1
        have hzi : ((ll : Int) == 0) = false := by rw [beq_eq_false_iff_ne]; omega
        obtain ⟨j, hj⟩ : ∃ j, l[pkN n ll]? = some j := ⟨_, List.getElem?_eq_getElem (by rw [← Hll.out]; exact pkN_lt n hz)⟩
        obtain ⟨p, hp, hpl, hpb⟩ := HV.out.al j (List.mem_of_getElem? hj)
        have hjn : j < c := by have := (List.getElem?_eq_some_iff.1 hp).1; have := Hn9.out; omega
        obtain ⟨lg, hlo, _, hla⟩ := slf_of HV.out.ow (by intro e; have := congrArg List.length e; rw [icl_len] at this; rw [← Hll.out] at this; simp at this; omega)
        have hlc0 := hla (pkN n ll) (.int .i64 j) (by unfold icl; rw [List.getElem?_map, hj]; rfl)
        rw [Nat.zero_add] at hlc0
        obtain ⟨pk, hpk⟩ : ∃ pk, pk = pkN n ll := ⟨_, rfl⟩
        have hpkl : pk < ll := by rw [hpk]; exact pkN_lt n hz
        have qp := HPk.out wV ll hz (by omega)
        rw [← hpk] at qp hlc0
        rw [hlo]
        obtain ⟨F', hF'⟩ : ∃ F' : Nat → Prop, F' = fun i => F i ∨ w.heap.size ≤ i ∧ i < wV.heap.size := ⟨_, rfl⟩
        have hLV : LW w0 wV qb hb mb nq m L q A F' := by rw [hF']; exact HL0.out.fresh (HT1.out.trans' HV.out.t)
        have HNm : Hid (F' N) := by rw [hF']; exact .inr ⟨by rw [← HN.out]; exact Nat.le_refl _, Nat.lt_of_lt_of_le (blk_lt HBN.out) HV.out.t.size⟩
        have HbV : Hid (wV.heap[N]? = some (.cells #[.int .i64 4, .int .i64 who, .int .i64 key, .int .i64 n] 29 (0, 0))) := (HV.out.t.block N (blk_lt HBN.out) (fun e => e)).trans HBN.out
        obtain ⟨g, hg, k0, k1, k2, k3⟩ := HR9.out.part hp
        have Hg : Hid ((A k).po = some ⟨g, 0, none⟩) := hg
        obtain ⟨hf, hmay⟩ := HOk.out j p hp hpl hpb
        have hpx := HPx.out j p hp
        have HLV : Hid (LW w0 wV qb hb mb nq m L q A F') := hLV
        have Hp : Hid (s.ps[j]? = some p) := hp
        obtain ⟨C, hC⟩ : ∃ C : List Value → World → Prop, C = P1 w0 wV qb hb mb nq (m.endp t.x j 1) L q A F' := ⟨_, rfl⟩
        have hKc : Hid (∀ s1 W, C s1 W → W.cell? ⟨qb, 0, none⟩ = some (.pointer (some ⟨mb, 0, none⟩)) ∧ W.cell? ⟨qb, 2 + k * 15 + 13, none⟩ = some (.slice (some ⟨g, 0, none⟩) c (A k).pc) ∧ W.cell? ⟨g, j * 4, none⟩ = some (.int .i64 p.x)) := fun s1 W hW => by
          rw [hC] at hW
          have hm : MoR W qb mb hb q A := by
            match s1, hW with
            | [], hW => exact (HLV.out.no hW).mor
            | [_], hW => exact hW.2.1.mor
          have hR := hm.se k s HS.out
          obtain ⟨g2, e2, k0', _⟩ := hR.part Hp.out
          rw [hg] at e2
          injection e2 with e2
          have e2 : g = g2 := by injection e2
          subst e2
          exact ⟨hm.cm, by rw [← hg, Hn9.out]; exact hR.c 13 _ rfl, k0'⟩
        have c1 : Hid (∀ W, C [] W → Calls Tryz.prog 48 #[.pointer (some ⟨mb, 0, none⟩), .int .i64 p.x] W fun x W' => ∃ y, x = .returned y ∧ C [y] W') := fun W hW => by
          rw [hC] at hW ⊢
          have hW : Tch (fun _ => False) wV W := hW
          have hL := HLV.out.no hW
          refine (releases_h hL.hs hf hmay (by omega) (by omega)).mono ?_
          rintro x W' ⟨rfl, hs2, t2⟩
          exact ⟨_, rfl, rfl, hL.kept hs2 t2, (kept_of hW).trans' t2⟩
        have s1 : Hid (∀ y W, C [y] W → y = .int .i64 0) := fun y W hW => by
          rw [hC] at hW
          exact hW.1
        have HF : Hid (∀ y W, C [y] W → LW w0 W qb hb mb nq (m.endp t.x j 1) L q A F' ∧ Kept F' wV W) := fun y W hW => by
          rw [hC] at hW
          exact hW.2
        have h00 : Hid (∀ W, W = wV → C [] W.drew) := fun W hW => by rw [hC, hW]; exact (Tch.refl _ _).drew
        clear hC hF' hLV hf hmay hpx hp hla hpk hpl hpb hg k0 k1 k2 k3 HOk HPk HLV0 hlo hj
        go_wp2_with fail
        refine qp.mono ?_
        clear qp
        rintro x w4 ⟨rfl, rfl⟩
        go_upto_region 20 with (fail)
        have h01 := h00.out _ rfl
        refine wp_region_ordv [12] C 13 [0, 1, 2, 3, 4, 5, 6, 7, 8, 9, 10, 11, 12] (by kernel_rfl) (by kernel_rfl) h01 ?_
        clear h00 h01 hlc0 a3 a4
        refine ordv_read rfl (by go_simp) (by rfl) ?_
        apply Exists.intro
        refine ⟨fun s' W hW b K Q hK' => ?_, fun K hK' => ?_⟩
        · obtain ⟨q0, q1, q2⟩ := hKc.out _ W hW
          go_simp
          exact hK' W hW
        go_simp
        refine hK' _ ?_
        clear hK' K
        refine ordv_read rfl (by go_simp) (by rfl) ?_
        apply Exists.intro
        refine ⟨fun s' W hW b K Q hK' => ?_, fun K hK' => ?_⟩
        · obtain ⟨q0, q1, q2⟩ := hKc.out _ W hW
          go_simp
          exact hK' W hW
        go_simp
        refine hK' _ ?_
        clear hK' K
        refine ordv_read rfl (by go_simp) (by rfl) ?_
        apply Exists.intro
        refine ⟨fun s' W hW b K Q hK' => ?_, fun K hK' => ?_⟩
        · obtain ⟨q0, q1, q2⟩ := hKc.out _ W hW
          go_simp
          exact hK' W hW
        go_simp
        refine hK' _ ?_
        clear hK' K
        refine ordv_read rfl (by go_simp) (by rfl) ?_
        apply Exists.intro
        refine ⟨fun s' W hW b K Q hK' => ?_, fun K hK' => ?_⟩
        · obtain ⟨q0, q1, q2⟩ := hKc.out _ W hW
          go_simp
          exact hK' W hW
        go_simp
        refine hK' _ ?_
        clear hK' K
        refine ordv_read rfl (by go_simp) (by rfl) ?_
        apply Exists.intro
        refine ⟨fun s' W hW b K Q hK' => ?_, fun K hK' => ?_⟩
        · obtain ⟨q0, q1, q2⟩ := hKc.out _ W hW
          go_simp
          exact hK' W hW
        go_simp
        refine hK' _ ?_
        clear hK' K
        refine ordv_read rfl (by go_simp) (by rfl) ?_
        apply Exists.intro
        refine ⟨fun s' W hW b K Q hK' => ?_, fun K hK' => ?_⟩
        · obtain ⟨q0, q1, q2⟩ := hKc.out _ W hW
          go_simp
          exact hK' W hW
        go_simp
        refine hK' _ ?_
        clear hK' K
        refine ordv_read rfl (by go_simp) (by rfl) ?_
        apply Exists.intro
        refine ⟨fun s' W hW b K Q hK' => ?_, fun K hK' => ?_⟩
        · obtain ⟨q0, q1, q2⟩ := hKc.out _ W hW
          go_simp
          exact hK' W hW
        go_simp
        refine hK' _ ?_
        clear hK' K
        refine ordv_read rfl (by go_simp) (by rfl) ?_
        apply Exists.intro
        refine ⟨fun s' W hW b K Q hK' => ?_, fun K hK' => ?_⟩
        · obtain ⟨q0, q1, q2⟩ := hKc.out _ W hW
          go_simp
          exact hK' W hW
        go_simp
        refine hK' _ ?_
        clear hK' K
        refine ordv_read rfl (by go_simp) (by rfl) ?_
        apply Exists.intro
        refine ⟨fun s' W hW b K Q hK' => ?_, fun K hK' => ?_⟩
        · obtain ⟨q0, q1, q2⟩ := hKc.out _ W hW
          go_simp
          exact hK' W hW
        go_simp
        refine hK' _ ?_
        clear hK' K
        refine ordv_read rfl (by go_simp) (by rfl) ?_
        apply Exists.intro
        refine ⟨fun s' W hW b K Q hK' => ?_, fun K hK' => ?_⟩
        · obtain ⟨q0, q1, q2⟩ := hKc.out _ W hW
          go_simp
          exact hK' W hW
        go_simp
        refine hK' _ ?_
        clear hK' K
        refine ordv_read rfl (by go_simp) (by rfl) ?_
        apply Exists.intro
        refine ⟨fun s' W hW b K Q hK' => ?_, fun K hK' => ?_⟩
        · obtain ⟨q0, q1, q2⟩ := hKc.out _ W hW
          go_simp
          exact hK' W hW
        go_simp
        refine hK' _ ?_
        clear hK' K
        refine ordv_read rfl (by go_simp) (by rfl) ?_
        apply Exists.intro
        refine ⟨fun s' W hW b K Q hK' => ?_, fun K hK' => ?_⟩
        · obtain ⟨q0, q1, q2⟩ := hKc.out _ W hW
          go_simp
          exact hK' W hW
        go_simp
        refine hK' _ ?_
        clear hK' K
        refine ordv_turn rfl (by go_simp) (by rfl) (fun W hW b K Q hK' => ?_) (fun u hu K hK' => ?_)
        · go_simp
          go_at_call 48
          refine (c1.out W hW).mono ?_
          rintro x w' ⟨y, rfl, h1⟩
          exact hK' y w' h1
        obtain rfl : u = .int .i64 0 := by
          obtain ⟨W', hW'⟩ := hu
          exact s1.out u W' hW'
        clear hu c1 s1
        go_simp
        refine hK' _ ?_
        clear hK' K
        refine ordv_nil ?_
        intro w5 hw5
        have h5 := HF.out _ w5 hw5
        have H5 : Hid (LW w0 w5 qb hb mb nq (m.endp t.x j 1) L q A F') := h5.1
        have Hb5 : Hid (w5.heap[N]? = some (.cells #[.int .i64 4, .int .i64 who, .int .i64 key, .int .i64 n] 29 (0, 0))) := (h5.2.block N (blk_lt HbV.out) (fun e => e HNm.out)).trans HbV.out
        clear HF hw5 h5 hKc
        have hzL : LW w0 w5 qb hb mb nq (m.endp t.x j 1) L { q with l := q.l.set k (sj s j false 0) } A F' := by
          rw [sj_zero, set_same HS.out]; exact H5.out
        have HZ : Hid _ := hzL
        clear hzL
        simp only [List.drop_succ_cons, List.drop_zero]
        go_wp2_with fail
        go_loopw [15] (fun i15 wr => ∃ d : Nat, i15 = .int .i64 d ∧ d ≤ c ∧ Hid (LW w0 wr qb hb mb nq (m.endp t.x j 1) L { q with l := q.l.set k (sj s j false d) } A F' ∧ wr.heap[N]? = some (.cells #[.int .i64 4, .int .i64 who, .int .i64 key, .int .i64 n] 29 (0, 0)))) (fun i15 _ => (c - intOf i15).toNat)
        case atStart => exact ⟨0, rfl, Nat.zero_le _, HZ.out, Hb5.out⟩
        case round =>
          obtain ⟨d, rfl, hd, HQ⟩ := hrel
          obtain ⟨wU, hwU⟩ : ∃ wU, wU = wr := ⟨_, rfl⟩
          subst hwU
          have hq5 : k < q.l.length := (List.getElem?_eq_some_iff.1 HS.out).1
          have hsk : (q.l.set k (sj s j false d))[k]? = some (sj s j false d) := List.getElem?_set_self hq5
          have hR := HQ.out.1.mor.se k _ hsk
          have c13 : wU.cell? ⟨qb, 2 + k * 15 + 13, none⟩ = some (.slice (some ⟨g, 0, none⟩) c (A k).pc) := by
            have := hR.c 13 _ rfl
            rw [← Hg.out, Hn9.out]
            rwa [show (sj s j false d).ps.length = s.ps.length from psj_len _ _ _ _] at this
          rcases Nat.lt_or_ge d c with hdc | hdc
          · obtain ⟨pd, hpd⟩ : ∃ pd, s.ps[d]? = some pd := ⟨_, List.getElem?_eq_getElem (by have := Hn9.out; omega)⟩
            have qwi := within_any wU qb (2 + k * 15) _ (A k) hR d j (by show d < (psj _ _ _ _).length; rw [psj_len]; have := Hn9.out; omega)
            rw [show within ((sj s j false d).ps.map ptOf) j (sj s j false d).ps.length d = within (s.ps.map ptOf) j s.ps.length d from psj_within _ _ _ _ _] at qwi
            have hpj := sj_at s j false d hpd
            have hpsz := psj_succ s.ps j false d hpd
            have HST : Hid (within (s.ps.map ptOf) j s.ps.length d = true → ∀ W, Tch (fun _ => False) wU W → ∃ p9, p9 = pd ∧ g ≠ N ∧ g ≠ qb ∧ W.frozen? ⟨g, d * 4 + 2, none⟩ = false ∧ W.cell? ⟨g, d * 4 + 2, none⟩ = some (.bool pd.live) ∧ LW w0 (W.setCell ⟨g, d * 4 + 2, none⟩ (.bool false)) qb hb mb nq (m.endp t.x j 1) L { q with l := q.l.set k (sj s j false (d + 1)) } A F') := fun hw W tt => by
              have hL := HQ.out.1.no tt
              obtain ⟨e1, e2, e3, e4, e5⟩ := hL.partAt hsk hpj Hg.out
              have e6 := hL.setPr hsk (p' := { pd with live := false }) hpj 2 (.bool false) (by decide) rfl rfl rfl Hg.out
              refine ⟨pd, rfl, fun e => ?_, e2, e3 _, e4, ?_⟩
              · have := (HL0.out.se k s HS.out).psf g (by rw [Hg.out]; rfl)
                have := HL0.out.lt g this
                have := HN.out
                omega
              · rw [show sj s j false (d + 1) = { sj s j false d with ps := (sj s j false d).ps.set d { pd with live := false } } by
                  unfold sj; rw [hpsz, if_pos hw]
                  show ({ s with ps := (psj s.ps j false d).set d (endP false pd) } : Se) = _
                  unfold endP; rw [Bool.or_false]]
                rw [show ({ q with l := q.l.set k { sj s j false d with ps := (sj s j false d).ps.set d { pd with live := false } } } : Mo) = { ({ q with l := q.l.set k (sj s j false d) } : Mo) with l := (q.l.set k (sj s j false d)).set k { sj s j false d with ps := (sj s j false d).ps.set d { pd with live := false } } } by rw [List.set_set]]
                exact e6
            have HNO : Hid (within (s.ps.map ptOf) j s.ps.length d = false → sj s j false (d + 1) = sj s j false d) := fun hw => by
              show _ = _
              unfold sj
              rw [hpsz, if_neg (by rw [hw]; decide)]
            clear hpsz hpj hR hsk
            obtain ⟨bw, hbw⟩ : ∃ bw, bw = within (s.ps.map ptOf) j s.ps.length d := ⟨_, rfl⟩
            rw [← hbw] at qwi HST HNO
            have HD : Hid (s.ps[d]? = some pd) := hpd
            clear hbw hpd
            go_wp2_with fail
            refine qwi.mono ?_
            clear qwi c13
            rintro x w6 ⟨rfl, t6⟩
            have H6 : Hid (LW w0 w6 qb hb mb nq (m.endp t.x j 1) L { q with l := q.l.set k (sj s j false d) } A F') := HQ.out.1.no t6
            have Hb6 : Hid (w6.heap[N]? = some (.cells #[.int .i64 4, .int .i64 who, .int .i64 key, .int .i64 n] 29 (0, 0))) := (t6.block N (blk_lt HQ.out.2) (fun e => e)).trans HQ.out.2
            have d13 : w6.cell? ⟨qb, 2 + k * 15 + 13, none⟩ = some (.slice (some ⟨g, 0, none⟩) c (A k).pc) := by
              have := (H6.out.mor.se k (sj s j false d) (List.getElem?_set_self hq5)).c 13 _ rfl
              rw [← Hg.out, Hn9.out]
              rwa [show (sj s j false d).ps.length = s.ps.length from psj_len _ _ _ _] at this
            cases bw with
            | true =>
              have hst := HST.out rfl w6 t6
              clear HST HNO
              obtain ⟨p9, _, f1, f2, f3, f4, f5⟩ := hst
              have HE : Hid (LW w0 (w6.setCell ⟨g, d * 4 + 2, none⟩ (.bool false)) qb hb mb nq (m.endp t.x j 1) L { q with l := q.l.set k (sj s j false (d + 1)) } A F' ∧ (w6.setCell ⟨g, d * 4 + 2, none⟩ (.bool false)).heap[N]? = some (.cells #[.int .i64 4, .int .i64 who, .int .i64 key, .int .i64 n] 29 (0, 0))) := ⟨f5, (Below.heap_setCell _ _ _ _ (by show N ≠ g; exact fun e => f1 e.symm)).trans Hb6.out⟩
              have y0 : (w6.setCell ⟨g, d * 4 + 2, none⟩ (.bool false)).cell? ⟨N, 0, none⟩ = some (.int .i64 4) := by rw [blk_cell HE.out.2]; rfl
              clear f5 f1 f2
              go_wp2_with fail
              go_roundw
              case rel => exact ⟨d + 1, rfl, hdc, HE⟩
              case measure => (simp [intOf] <;> omega)
            | false =>
              have hno := HNO.out rfl
              clear HST HNO
              go_wp2_with fail
              go_roundw
              case rel => exact ⟨d + 1, rfl, hdc, by rw [hno]; exact H6.out, Hb6.out⟩
              case measure => (simp [intOf] <;> omega)
          · have hdd : d = c := by omega
            subst hdd
            have HE : Hid (LW w0 wU qb hb mb nq (m.endp t.x j 1) L { q with l := q.l.set k (endS s j false) } A F') := by
              have := HQ.out.1
              rwa [Hn9.out, sj_all] at this
            clear hR
            go_wp2_with fail
            go_ret
            exact ⟨_, rfl, rfl, .inr ⟨j, F', HE.out⟩⟩
end Go.Proofs.YtokgihmigkplaaaGreat.F
