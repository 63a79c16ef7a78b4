import Derived.Test.YtkcmpipipelgoaaKSt0
import Derived.BigQuiet
/- Lists that come out, in one form. -/
namespace Go.Proofs.Ytkcmpipipelgoaa
open Go.RowKit Go

/-- What a list says. -/
def LsP (h : Hs) (x : Int) (E : Int) (P : List (Tbl × Value)) : Prop := (x < h.b ∧ E = 170 ∧ P = []) ∨ (h.b ≤ x ∧ E = 0 ∧ ∃ ids, IdsOf h.K ids ∧ P.map Prod.fst = tells h x ids)
def DLsP (d : Dh) (x : Int) (E : Int) (P : List (Tbl × Value)) : Prop := (x < d.b ∧ E = 170 ∧ P = []) ∨ (d.b ≤ x ∧ E = 0 ∧ ∃ ids, IdL ids d.L ∧ P.map Prod.fst = dtells d x ids)
theorem to_nil (w : World) (N : Nat) : TO w N (.slice none 0 0) [] := ⟨⟨rfl, .inl ⟨rfl, rfl⟩⟩, fun i hi => by simp at hi, fun i hi => by simp at hi, fun i j hi => by simp at hi⟩
theorem lst_of {h : Hs} {x : Int} {N : Nat} {r : Ending} {w' : World} (H : ListOut h x N r w') : ∃ tv P E, r = .returned (.tuple #[tv, .int .i64 E]) ∧ TO w' N tv P ∧ LsP h x E P := by
  rcases H with ⟨h1, h2⟩ | ⟨h1, ids, tv, P, h2, h3, h4, h5⟩
  · exact ⟨_, [], 170, h2, to_nil _ _, .inl ⟨h1, rfl, rfl⟩⟩
  · exact ⟨tv, P, 0, h3, h5, .inr ⟨h1, rfl, ids, h2, h4⟩⟩
theorem dlst_of {d : Dh} {x : Int} {N : Nat} {r : Ending} {w' : World} (H : DListOut d x N r w') : ∃ tv P E, r = .returned (.tuple #[tv, .int .i64 E]) ∧ TO w' N tv P ∧ DLsP d x E P := by
  rcases H with ⟨h1, h2⟩ | ⟨h1, ids, tv, P, h2, h3, h4, h5⟩
  · exact ⟨_, [], 170, h2, to_nil _ _, .inl ⟨h1, rfl, rfl⟩⟩
  · exact ⟨tv, P, 0, h3, h5, .inr ⟨h1, rfl, ids, h2, h4⟩⟩
theorem LsP.same {h : Hs} {d : Dh} {x E E' : Int} {P P' : List (Tbl × Value)} (H : Lk h d) (h1 : LsP h x E P) (h2 : DLsP d x E' P') : E = E' ∧ P.map Prod.fst = P'.map Prod.fst := by
  have hb := H.b
  rcases h1 with ⟨a1, a2, a3⟩ | ⟨a1, a2, ids, a3, a4⟩ <;> rcases h2 with ⟨b1, b2, b3⟩ | ⟨b1, b2, ids', b3, b4⟩
  · exact ⟨by rw [a2, b2], by rw [a3, b3]⟩
  · omega
  · omega
  · exact ⟨by rw [a2, b2], by rw [a4, b4]; exact H.tells x a3 b3⟩
theorem DLsP.len {d : Dh} {x E : Int} {P : List (Tbl × Value)} (h : DLsP d x E P) : P.length ≤ d.L.length := by
  rcases h with ⟨_, _, e⟩ | ⟨_, _, ids, h1, h2⟩
  · rw [e]; exact Nat.zero_le _
  · have h3 := congrArg List.length h2
    unfold dtells at h3
    rw [List.length_map, List.length_map] at h3
    have h4 := List.length_filter_le (fun i => (dwas d.L x i).th) ids
    have h5 := h1.2.2
    omega
theorem LsP.le {w : World} {F : Nat → Prop} {b : Nat} {h : Hs} (H : HF w F b h) {x E : Int} {P : List (Tbl × Value)} (hp : LsP h x E P) : ∀ i (hi : i < P.length), P[i].1.cols.length ≤ 8 := fun i hi => by
  rcases hp with ⟨_, _, e⟩ | ⟨_, _, ids, _, h2⟩
  · subst e; simp at hi
  · have hm : P[i].1 ∈ P.map Prod.fst := List.mem_map.2 ⟨P[i], List.getElem_mem _, rfl⟩
    rw [h2] at hm
    exact tells_le H x ids _ hm
theorem TO.low0 {w : World} {N : Nat} {v : Value} {P : List (Tbl × Value)} (h : TO w N v P) : TO w 0 v P := ⟨own_low h.own (Nat.zero_le _), fun i hi => own_low (h.col i hi) (Nat.zero_le _), h.sep, h.dis⟩
/-- Tables that are all new. -/
theorem TabsK.new {w w' : World} {o : Nat → Nat} {k : Nat} {v : Value} {P : List (Tbl × Value)} (h : TO w' w.heap.size v P) (h8 : ∀ i (hi : i < P.length), P[i].1.cols.length ≤ 8) : TabsK w' (ext w o k) k v P :=
  ⟨h.low0, fun g e => if_neg (by have := (h.own.lt g e).1; omega), fun i hi g e => if_neg (by have := ((h.col i hi).lt g e).1; omega), h8⟩
theorem TabsK.tl {w : World} {o : Nat → Nat} {k : Nat} {to' : Option Addr} {tc : Nat} {P : List (Tbl × Value)} (h : TabsK w o k (.slice to' P.length tc) P) : TL w (fun i => i < 0) to' P := h.tO.toTL
theorem TabsK.slice {w : World} {o : Nat → Nat} {k : Nat} {v : Value} {P : List (Tbl × Value)} (h : TabsK w o k v P) : ∃ a c, v = .slice a P.length c := row_slice h.tO.own
theorem map_len {P Q : List (Tbl × Value)} (h : P.map Prod.fst = Q.map Prod.fst) : P.length = Q.length := by have := congrArg List.length h; rwa [List.length_map, List.length_map] at this
theorem le_same {P Q : List (Tbl × Value)} (h : P.map Prod.fst = Q.map Prod.fst) (h8 : ∀ i (hi : i < P.length), P[i].1.cols.length ≤ 8) : ∀ i (hi : i < Q.length), Q[i].1.cols.length ≤ 8 := fun i hi => by
  have hl := map_len h
  have h3 : (P.map Prod.fst)[i]? = (Q.map Prod.fst)[i]? := by rw [h]
  rw [List.getElem?_map, List.getElem?_map, List.getElem?_eq_getElem (by omega), List.getElem?_eq_getElem hi] at h3
  have h4 : P[i].1 = Q[i].1 := by simpa using h3
  rw [← h4]
  exact h8 i (by omega)
end Go.Proofs.Ytkcmpipipelgoaa
/- A step of the law: List. -/
namespace Go.Proofs.Ytkcmpipipelgoaa
open Go.RowKit Go

set_option maxRecDepth 100000 in
set_option maxHeartbeats 4000000 in
theorem step_list {w : World} {o : Nat → Nat} {b : Nat} {cur : Array Value} {C T : List Value} {cv tv : Value} {lo : Option Addr} {n lc : Nat} {L : List Fr} {TB : Nat} (h : PQ w o b cur C T cv tv lo n lc L TB) (d : Opd) (hd : OpIn w o d) (hlv : ∀ rv, cur[2 + pkN d.on 2]? = some rv → rv ≠ .pointer none) (hk : d.k = 4) (hTB : TB ≤ 10000000) (hB : C.length + 20 * n ≤ 500000000000) (hTl : T.length ≤ 500000000000) :
    Calls Try.prog 19 #[.pointer (some ⟨b, 0, none⟩), opV d] w fun r w' => r = .returned (.bool true) ∧ StOut w o b C T n TB w' := by
  have HK : Hid (d.k = 4) := hk
  clear hk
  have HBnd : Hid (TB ≤ 10000000 ∧ C.length + 20 * n ≤ 500000000000 ∧ T.length ≤ 500000000000) := ⟨hTB, hB, hTl⟩
  obtain ⟨p, hp⟩ : ∃ p, p = pkN d.on 2 := ⟨_, rfl⟩
  have hp2 : p < 2 := by rw [hp]; exact pkN_lt _ (by omega)
  obtain ⟨N, hN⟩ : ∃ N, N = w.heap.size := ⟨_, rfl⟩
  obtain ⟨m, hm⟩ : ∃ m, m = d.t.cols.length := ⟨_, rfl⟩
  obtain ⟨w0, hw0⟩ : ∃ w0, w0 = w.alloc (.cells #[.int .i64 d.k, .int .i64 d.on, .int .i64 d.x, .int .i64 d.i, .int .i64 d.t.id, .int .i64 d.t.ver, .string d.t.nm, .slice d.ao d.t.cols.length d.c, .int .i64 d.t.key] 67) := ⟨_, rfl⟩
  have t0 : Tch (fun _ => False) w w0 := by rw [hw0]; exact Tch.alloc _ _ _
  have bX : w0.heap[N]? = some (.cells #[.int .i64 d.k, .int .i64 d.on, .int .i64 d.x, .int .i64 d.i, .int .i64 d.t.id, .int .i64 d.t.ver, .string d.t.nm, .slice d.ao d.t.cols.length d.c, .int .i64 d.t.key] 67 (0, 0)) := by rw [hw0, hN]; exact alloc_new _ _
  obtain ⟨o0, ho0⟩ : ∃ o0, o0 = ext w o 0 := ⟨_, rfl⟩
  have e0 : Ev (fun j => j = 0) w o w0 o0 := by rw [ho0]; exact Ev.quiet 0 t0
  have hoN : o0 N = 0 := by rw [ho0, hN]; exact if_neg (by omega)
  have H0 : Hid (PQ w0 o0 b cur C T cv tv lo n lc L TB) := h.ev e0 (by omega)
  have HD0 : Hid (OpIn w0 o0 d) := hd.ev e0 (by omega)
  have HE0 : Hid (Ev (fun j => j ≠ 15) w o w0 o0) := e0.mono (fun j e => by omega)
  have qP : ∀ W, Calls Try.prog 8 #[.int .i64 d.on, .int .i64 2] W fun x w' => x = .returned (.int .i64 p) ∧ w' = W := fun W => by rw [hp]; exact pick_any d.on 2 W hd.on.1 hd.on.2 (by omega) (by omega)
  have HQP : Hid _ := qP
  obtain ⟨hv, rv, c1, c2, hsd⟩ := H0.out.sd p hp2
  obtain ⟨hb, rb, hh, dd, rfl, rfl, hH, hD, hLk, hT⟩ : ∃ hb rb h d, hv = .pointer (some ⟨hb, 0, none⟩) ∧ rv = .pointer (some ⟨rb, 0, none⟩) ∧ HF w0 (Oth w0 o0 (1 + p)) hb h ∧ DF w0 (Oth w0 o0 (3 + p)) rb d ∧ Lk h d ∧ h.T ≤ TB := by
    rcases hsd with ⟨_, e⟩ | hsd
    · exact absurd e (hlv rv (by rw [← hp]; exact c2))
    · exact hsd
  have HC1 : Hid (cur[p]? = some (.pointer (some ⟨hb, 0, none⟩)) ∧ cur[2 + p]? = some (.pointer (some ⟨rb, 0, none⟩))) := ⟨c1, c2⟩
  have z0 : w0.cell? ⟨b, p, none⟩ = some (.pointer (some ⟨hb, 0, none⟩)) := by rw [blk_cell H0.out.lw.blk]; exact c1
  have z2 : w0.cell? ⟨b, 2 + p, none⟩ = some (.pointer (some ⟨rb, 0, none⟩)) := by rw [blk_cell H0.out.lw.blk]; exact c2
  have x1 : w0.cell? ⟨N, 1, none⟩ = some (.int .i64 d.on) := blk_cell bX 1
  have HW0 : Hid (w0 = _) := hw0
  have HN : Hid (N = w.heap.size) := hN
  have HX0 : Hid _ := bX
  have HoN : Hid (o0 N = 0) := hoN
  have Hm : Hid (m = d.t.cols.length) := hm
  have hp2' : (p : Int) < 2 := by omega
  have HH0 : Hid (HF w0 (Oth w0 o0 (1 + p)) hb hh) := hH
  have HDo0 : Hid (DF w0 (Oth w0 o0 (3 + p)) rb dd) := hD
  have HLk : Hid (Lk hh dd ∧ hh.T ≤ TB) := ⟨hLk, hT⟩
  clear hH hD hLk hT hw0 hN t0 bX ho0 e0 hoN h hd qP hp c1 c2 hm hTB hB hTl
  go_enter Try.func19, Try.ntmps19
  go_upto_region 1 with (fail)
  rw [← HW0.out, ← HN.out]
  go_wp2_with fail
  go_quiet ((go_at_call 8; exact Calls.quiet_of_same (HQP.out _)))
  obtain ⟨w1, hw1⟩ : ∃ w1, w1 = w0.drewN nq := ⟨_, rfl⟩
  have t1 : Tch (fun _ => False) w0 w1 := by rw [hw1]; exact (Tch.refl _ _).drewN nq
  have y2 : w1.cell? ⟨b, 2 + p, none⟩ = some (.pointer (some ⟨rb, 0, none⟩)) := (t1.cell (p := ⟨b, 2 + p, none⟩) (cell_lt z2) (fun e => e)).trans z2
  have y1 : w1.cell? ⟨N, 1, none⟩ = some (.int .i64 d.on) := (t1.cell (p := ⟨N, 1, none⟩) (cell_lt x1) (fun e => e)).trans x1
  rw [← hw1]
  have HT1 : Hid (Tch (fun _ => False) w0 w1) := t1
  clear hw1 t1 z0 z2 x1
  go_wp2_with fail
  go_quiet ((go_at_call 8; exact Calls.quiet_of_same (HQP.out _)))
  obtain ⟨w2, hw2⟩ : ∃ w2, w2 = w1.drewN nq := ⟨_, rfl⟩
  have t2 : Tch (fun _ => False) w0 w2 := by rw [hw2]; exact HT1.out.drewN nq
  rw [← hw2]
  obtain ⟨o2, ho2⟩ : ∃ o2, o2 = ext w0 o0 0 := ⟨_, rfl⟩
  have e2 : Ev (fun j => j = 0) w0 o0 w2 o2 := by rw [ho2]; exact Ev.quiet 0 t2
  have H2 : Hid (PQ w2 o2 b cur C T cv tv lo n lc L TB) := H0.out.ev e2 (by omega)
  have HD2 : Hid (OpIn w2 o2 d) := HD0.out.ev e2 (by omega)
  have HE2 : Hid (Ev (fun j => j ≠ 15) w o w2 o2) := HE0.out.trans (e2.mono (fun j e => by omega))
  have hX2 := (t2.block N (blk_lt HX0.out) (fun e => e)).trans HX0.out
  have HX2 : Hid _ := hX2
  have HoN2 : Hid (o2 N = 0) := by show _ = _; rw [ho2]; show ext w0 o0 0 N = 0; unfold ext; rw [if_pos (blk_lt HX0.out)]; exact HoN.out
  have HH2 : Hid (HF w2 (Oth w2 o2 (1 + p)) hb hh) := HH0.out.ev e2 (by omega)
  have HDo2 : Hid (DF w2 (Oth w2 o2 (3 + p)) rb dd) := HDo0.out.ev e2 (by omega)
  have x0 : w2.cell? ⟨N, 0, none⟩ = some (.int .i64 d.k) := blk_cell hX2 0
  have x2 : w2.cell? ⟨N, 2, none⟩ = some (.int .i64 d.x) := blk_cell hX2 2
  have k1 : (d.k == 1) = false := by simp [HK.out]
  have k2 : (d.k == 2) = false := by simp [HK.out]
  have k3 : (d.k == 3) = false := by simp [HK.out]
  have k4 : (d.k == 4) = true := by simp [HK.out]
  clear hlv
  have Hln : Hid (hh.T < 1099511627776 ∧ dd.L.length ≤ 1099511627776 ∧ dd.L.length ≤ TB) := by
    have := HLk.out.1.sz
    have := HH2.out.szT
    have := HLk.out.2
    have := HBnd.out
    exact ⟨by omega, by omega, by omega⟩
  have qa := list_f HH2.out d.x Hln.out.1
  clear hw2 t2 ho2 e2 hX2 y1 y2 HH0 HDo0 H0 HD0 HE0 HX0 HoN HT1
  go_wp2_with fail
  refine qa.mono ?_
  rintro r w3 ⟨hO, t3⟩
  obtain ⟨v1, P1, E1, rfl, hTO1, hP1⟩ := lst_of hO
  obtain ⟨o3, ho3⟩ : ∃ o3, o3 = ext w2 o2 12 := ⟨_, rfl⟩
  have e3 : Ev (fun j => j = 12) w2 o2 w3 o3 := by rw [ho3]; exact Ev.quiet 12 t3
  have HK3 : Hid (TabsK w3 o3 12 v1 P1) := by rw [ho3]; exact TabsK.new hTO1 (hP1.le HH2.out)
  have H3 : Hid (PQ w3 o3 b cur C T cv tv lo n lc L TB) := H2.out.ev e3 (by omega)
  have HH3 : Hid (HF w3 (Oth w3 o3 (1 + p)) hb hh) := HH2.out.ev e3 (by omega)
  have HDo3 : Hid (DF w3 (Oth w3 o3 (3 + p)) rb dd) := HDo2.out.ev e3 (by omega)
  have HE3 : Hid (Ev (fun j => j ≠ 15) w o w3 o3) := HE2.out.trans (e3.mono (fun j e => by omega))
  have HX3 : Hid _ := (t3.block N (blk_lt HX2.out) (fun e => e)).trans HX2.out
  have HP1 : Hid (LsP hh d.x E1 P1) := hP1
  have x2 : w3.cell? ⟨N, 2, none⟩ = some (.int .i64 d.x) := blk_cell HX3.out 2
  have qb := list_f HH3.out d.x Hln.out.1
  clear qa hO t3 hTO1 ho3 e3 hP1 x0
  go_wp2_with fail
  refine qb.mono ?_
  rintro r w4 ⟨hO, t4⟩
  obtain ⟨v2, P2, E2, rfl, hTO2, hP2⟩ := lst_of hO
  obtain ⟨o4, ho4⟩ : ∃ o4, o4 = ext w3 o3 13 := ⟨_, rfl⟩
  have e4 : Ev (fun j => j = 13) w3 o3 w4 o4 := by rw [ho4]; exact Ev.quiet 13 t4
  have HK4 : Hid (TabsK w4 o4 13 v2 P2) := by rw [ho4]; exact TabsK.new hTO2 (hP2.le HH3.out)
  have HK34 : Hid (TabsK w4 o4 12 v1 P1) := HK3.out.ev e4 (by omega)
  have H4 : Hid (PQ w4 o4 b cur C T cv tv lo n lc L TB) := H3.out.ev e4 (by omega)
  have HDo4 : Hid (DF w4 (Oth w4 o4 (3 + p)) rb dd) := HDo3.out.ev e4 (by omega)
  have HE4 : Hid (Ev (fun j => j ≠ 15) w o w4 o4) := HE3.out.trans (e4.mono (fun j e => by omega))
  have HX4 : Hid _ := (t4.block N (blk_lt HX3.out) (fun e => e)).trans HX3.out
  have HP2 : Hid (LsP hh d.x E2 P2) := hP2
  have x2 : w4.cell? ⟨N, 2, none⟩ = some (.int .i64 d.x) := blk_cell HX4.out 2
  have qc := dlist_f HDo4.out d.x Hln.out.2.1
  clear qb hO t4 hTO2 ho4 e4 hP2
  go_wp2_with fail
  refine qc.mono ?_
  rintro r w5 ⟨hO, t5⟩
  obtain ⟨v3, P3, E3, rfl, hTO3, hP3⟩ := dlst_of hO
  obtain ⟨hE1, hS1⟩ := HP1.out.same HLk.out.1 hP3
  obtain ⟨hE2, hS2⟩ := HP2.out.same HLk.out.1 hP3
  subst hE1
  subst hE2
  obtain ⟨o5, ho5⟩ : ∃ o5, o5 = ext w4 o4 14 := ⟨_, rfl⟩
  have e5 : Ev (fun j => j = 14) w4 o4 w5 o5 := by rw [ho5]; exact Ev.quiet 14 t5
  have HK5 : Hid (TabsK w5 o5 14 v3 P3) := by rw [ho5]; exact TabsK.new hTO3 (le_same hS1 HK3.out.c8)
  have HK15 : Hid (TabsK w5 o5 12 v1 P1) := HK34.out.ev e5 (by omega)
  have HK25 : Hid (TabsK w5 o5 13 v2 P2) := HK4.out.ev e5 (by omega)
  have H5 : Hid (PQ w5 o5 b cur C T cv tv lo n lc L TB) := H4.out.ev e5 (by omega)
  have HE5 : Hid (Ev (fun j => j ≠ 15) w o w5 o5) := HE4.out.trans (e5.mono (fun j e => by omega))
  have HSm : Hid (P1.map Prod.fst = P3.map Prod.fst ∧ P2.map Prod.fst = P3.map Prod.fst ∧ P1.length ≤ TB ∧ P2.length ≤ TB) := ⟨hS1, hS2, by have := map_len hS1; have := hP3.len; have := Hln.out; omega, by have := map_len hS2; have := hP3.len; have := Hln.out; omega⟩
  obtain ⟨a1, c1, ev1⟩ := HK15.out.slice
  obtain ⟨a2, c2, ev2⟩ := HK25.out.slice
  obtain ⟨a3, c3, ev3⟩ := HK5.out.slice
  subst ev1
  subst ev2
  subst ev3
  have qd := sames_true P1 P3 a1 a3 c1 c3 _ _ w5 HK15.out.tl HK5.out.tl HSm.out.1 (by have := HSm.out; have := HBnd.out; omega) HK15.out.c8
  clear qc hO t5 hTO3 ho5 e5 hP3 hS1 hS2 HK3 HK4 HK34 HP1 HP2 H3 H4
  go_wp2_with fail
  refine qd.mono ?_
  rintro r w6 ⟨rfl, t6⟩
  obtain ⟨o6, ho6⟩ : ∃ o6, o6 = ext w5 o5 0 := ⟨_, rfl⟩
  have e6 : Ev (fun j => j = 0) w5 o5 w6 o6 := by rw [ho6]; exact Ev.quiet 0 t6
  have H6 : Hid (PQ w6 o6 b cur C T cv tv lo n lc L TB) := H5.out.ev e6 (by omega)
  have HE6 : Hid (Ev (fun j => j ≠ 15) w o w6 o6) := HE5.out.trans (e6.mono (fun j e => by omega))
  have hK16 := HK15.out.ev e6 (by omega)
  have HK26 : Hid (TabsK w6 o6 13 (.slice a2 P2.length c2) P2) := HK25.out.ev e6 (by omega)
  have HK36 : Hid (TabsK w6 o6 14 (.slice a3 P3.length c3) P3) := HK5.out.ev e6 (by omega)
  have qe := told_any H6.out.lw 12 (by omega) _ P1 hK16 (by have := HSm.out; have := HBnd.out; omega) (by have := HBnd.out; omega) (by have := HBnd.out; omega)
  clear qd t6 ho6 e6 hK16 H5 HK15 HK25 HK5
  go_wp2_with fail
  refine qe.mono ?_
  rintro r w7 ⟨rfl, o7, cur7, T7, tv7, lo7, lc7, L7, hL7, hs7, hT7, e7⟩
  have H7 : Hid (PQ w7 o7 b cur7 C T7 cv tv7 lo7 (n + P1.length) lc7 L7 TB) := H6.out.lists hL7 hs7 e7 (by omega)
  have HE7 : Hid (Ev (fun j => j ≠ 15) w o w7 o7 ∧ T7.length = T.length + 20) := ⟨HE6.out.trans (e7.mono (fun j e => by omega)), hT7⟩
  have hK27 := HK26.out.ev e7 (by omega)
  have HK27 : Hid (TabsK w7 o7 13 (.slice a2 P2.length c2) P2) := hK27
  have hK37 := HK36.out.ev e7 (by omega)
  have qf := sames_true P2 P3 a2 a3 c2 c3 _ _ w7 hK27.tl hK37.tl HSm.out.2.1 (by have := HSm.out; have := HBnd.out; omega) hK27.c8
  clear qe hL7 hs7 hT7 e7 hK27 hK37 H6 HK26 HK36
  go_wp2_with fail
  refine qf.mono ?_
  rintro r w8 ⟨rfl, t8⟩
  obtain ⟨o8, ho8⟩ : ∃ o8, o8 = ext w7 o7 0 := ⟨_, rfl⟩
  have e8 : Ev (fun j => j = 0) w7 o7 w8 o8 := by rw [ho8]; exact Ev.quiet 0 t8
  have H8 : Hid (PQ w8 o8 b cur7 C T7 cv tv7 lo7 (n + P1.length) lc7 L7 TB) := H7.out.ev e8 (by omega)
  have HE8 : Hid (Ev (fun j => j ≠ 15) w o w8 o8) := HE7.out.1.trans (e8.mono (fun j e => by omega))
  have hK28 := HK27.out.ev e8 (by omega)
  have qg := told_any H8.out.lw 13 (by omega) _ P2 hK28 (by have := HSm.out; have := HBnd.out; omega) (by have := HSm.out; have := HBnd.out; omega) (by have := HE7.out.2; have := HBnd.out; omega)
  clear qf t8 ho8 e8 hK28 H7 HK27
  go_wp2_with fail
  refine qg.mono ?_
  rintro r w9 ⟨rfl, o9, cur9, T9, tv9, lo9, lc9, L9, hL9, hs9, hT9, e9⟩
  have H9 : Hid (PQ w9 o9 b cur9 C T9 cv tv9 lo9 (n + P1.length + P2.length) lc9 L9 TB) := H8.out.lists hL9 hs9 e9 (by omega)
  have HE9 : Hid (Ev (fun j => j ≠ 15) w o w9 o9 ∧ T9.length = T.length + 40) := ⟨HE8.out.trans (e9.mono (fun j e => by omega)), by have := HE7.out.2; omega⟩
  clear qg hL9 hs9 hT9 e9 H8
  go_wp2_with fail
  go_ret
  exact ⟨by simp, o9, _, C, T9, cv, tv9, lo9, _, lc9, _, H9.out.up (by omega), by have := HSm.out; omega, by have := HE9.out.2; omega, HE9.out.1⟩
end Go.Proofs.Ytkcmpipipelgoaa
