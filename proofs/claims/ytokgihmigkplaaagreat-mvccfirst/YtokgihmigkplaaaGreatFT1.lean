import Derived.Test.YtokgihmigkplaaaGreatFW5
import Derived.Test.YtokgihmigkplaaaGreatFP7
import Derived.Test.YtokgihmigkplaaaGreatRMem
import Derived.Test.YtokgihmigkplaaaGreatRG4
import Derived.Test.YtokgihmigkplaaaGreatFW2
import Derived.Test.YtokgihmigkplaaaGreatFW7
import Derived.Test.YtokgihmigkplaaaGreatFR1
set_option maxHeartbeats 4000000
set_option maxRecDepth 100000
namespace Go.Proofs.YtokgihmigkplaaaGreat.F
open Go.RowKit Go Go.Sort
set_option maxRecDepth 100000
def W11 (w0 : Fr) (wA : World) (qb hb mb nq : Nat) (m : Mg) (q : Mo) (A : Nat → Sx) (F : Nat → Prop) (κ p N : Nat) (cs : Array Value) (K : Nat → List Vn) (l : List Value) (W : World) : Prop := match l with
  | [] => Tch (fun _ => False) wA W
  | [y] => y = .string (keyB κ) ∧ Tch (fun _ => False) wA W
  | [_, z] => (∃ (ro : Option Addr) (rc : Nat), z = .tuple #[.slice ro 1 rc, .int .i64 0] ∧ W.ownsRow wA.heap.size 89 3 (.slice ro 1 rc) 1 (rowC p)) ∧ W.heap[N]? = some (.cells cs 29 (0, 0)) ∧ ∃ L', LW w0 W qb hb mb (nq + 3) m L' q A F ∧ HK L' K
  | _ => False
theorem writes_del {w0 : Fr} {w : World} {qb hb mb nq : Nat} {m : Mg} {L : HL} {q : Mo} {A : Nat → Sx} {F : Nat → Prop} {K : Nat → List Vn} {σ : Nat → Nat} (h : LW w0 w qb hb mb nq m L q A F) (hI : Inv m q K σ) (hK : HK L K) {k : Nat} {s : Se} (hs : q.l[k]? = some s) (ho : s.op = true) {t : Tx} (ht : SesTx m s t) (hpp : s.pp = false) (hq : nq ≤ 1000) (hn : m.nx ≤ 1000000) (hol : s.on.length ≤ 1000000) (hwl : s.ws.length < 1000) {who key n : Int} (hki : -9223372036854775808 ≤ key ∧ key ≤ 9223372036854775807) (hni : -9223372036854775808 ≤ n ∧ n ≤ 9223372036854775807) (hcf : confB q k s (pkN key 6) = false) (hsn : seesS s (pkN key 6) ≠ 0) :
    Calls Tryz.prog 24 #[.pointer (some ⟨qb, 0, none⟩), .int .i64 k, actV 8 who key n] w fun x w' => ∃ b, x = .returned (.bool b) ∧ b = true ∧ ∃ L' A' F', LW w0 w' qb hb mb (nq + 3) m L' { q with l := q.l.set k (addW s ⟨innS s, pkN key 6, true, pkN n 1000⟩) } A' F' ∧ HK L' (fun j => if j = pkN key 6 then K (pkN key 6) ++ [⟨wrN s (innS s), true, pkN n 1000⟩] else K j) := by
  have hk5 : k < 5 := by have := (List.getElem?_eq_some_iff.1 hs).1; have := h.ln; omega
  obtain ⟨N, hN⟩ : ∃ N, N = w.heap.size := ⟨_, rfl⟩
  obtain ⟨cs, hcs⟩ : ∃ cs : Array Value, cs = #[.int .i64 8, .int .i64 who, .int .i64 key, .int .i64 n] := ⟨_, rfl⟩
  obtain ⟨wA, hwA⟩ : ∃ wA, wA = w.alloc (.cells #[.int .i64 8, .int .i64 who, .int .i64 key, .int .i64 n] 29) := ⟨_, rfl⟩
  have bA : wA.heap[N]? = some (.cells cs 29 (0, 0)) := by rw [hwA, hN, hcs]; exact alloc_new _ _
  have tA : Tch (fun _ => False) w wA := by rw [hwA]; exact Tch.alloc _ _ _
  have hA := h.fresh tA
  obtain ⟨F9, hF9⟩ : ∃ F9 : Nat → Prop, F9 = fun i => F i ∨ w.heap.size ≤ i ∧ i < wA.heap.size := ⟨_, rfl⟩
  have hFN : F9 N := by rw [hF9]; exact .inr ⟨by omega, blk_lt bA⟩
  rw [← hF9] at hA
  obtain ⟨κ, hκ⟩ : ∃ κ, κ = pkN key 6 := ⟨_, rfl⟩
  obtain ⟨v, hv⟩ : ∃ v, v = pkN n 1000 := ⟨_, rfl⟩
  have hk6 : κ < 6 := by rw [hκ]; exact pkN_lt key (by decide)
  have hv1 : v < 1000 := by rw [hv]; exact pkN_lt n (by decide)
  rw [← hκ, ← hv]
  rw [← hκ] at hcf hsn
  obtain ⟨p, hp⟩ : ∃ p, seesS s κ = p + 1 := ⟨seesS s κ - 1, by omega⟩
  have HP : Hid (∀ W, Calls Tryz.prog 7 #[.int .i64 key, .int .i64 6] W fun x w' => x = .returned (.int .i64 κ) ∧ w' = W) := fun W => by
    rw [hκ]; exact pick9_any key 6 W hki.1 hki.2 (by decide) (by decide)
  have HP2 : Hid (∀ W, Calls Tryz.prog 7 #[.int .i64 n, .int .i64 1000] W fun x w' => x = .returned (.int .i64 v) ∧ w' = W) := fun W => by
    rw [hv]; exact pick9_any n 1000 W hni.1 hni.2 (by decide) (by decide)
  have HL : Hid (∀ W, Tch (fun _ => False) wA W → LW w0 W qb hb mb nq m L q A F9) := fun W tt => hA.no tt
  have HA : Hid (∀ W : World, W.heap[N]? = some (.cells cs 29 (0, 0)) → W.cell? ⟨N, 0, none⟩ = some (.int .i64 8) ∧ W.cell? ⟨N, 2, none⟩ = some (.int .i64 key) ∧ W.cell? ⟨N, 3, none⟩ = some (.int .i64 n)) := fun W tt => by
    rw [hcs] at tt
    rw [blk_cell tt, blk_cell tt, blk_cell tt]; exact ⟨rfl, rfl, rfl⟩
  have HB : Hid (∀ W : World, Tch (fun _ => False) wA W → W.heap[N]? = some (.cells cs 29 (0, 0))) := fun W tt => (tt.block N (blk_lt bA) (fun e => e)).trans bA
  have hbd := hA.bd k s hs
  have qw := writer_any wA qb (2 + k * 15) s (A k) (hA.mor.se k s hs)
  have HQ : Hid (∀ W, Tch (fun _ => False) wA W → Calls Tryz.prog 44 #[.pointer (some ⟨qb, 2 + k * 15, none⟩), .int .i64 κ] W fun x w' => x = .returned (.int .i64 ((p : Int) + 1)) ∧ Tch (fun _ => False) wA w') := fun W tt => by
    refine (sees_any W qb (2 + k * 15) s (A k) ((HL.out W tt).mor.se k s hs) κ hk6 (hbd.ba κ hk6)).mono ?_
    rintro x w' ⟨rfl, t2⟩
    exact ⟨by rw [hp]; rfl, tt.trans' t2⟩
  have hple : p ≤ 1000 := by
    have := foldS_le s κ (hbd.ba κ hk6) (fun v hv => (hbd.wr v hv).2.2.2) s.ws.length
    rw [foldS_all] at this; omega
  have HCf : Hid (∀ W, Tch (fun _ => False) wA W → Calls Tryz.prog 50 #[.pointer (some ⟨qb, 0, none⟩), .int .i64 k, .int .i64 κ] W fun x w' => x = .returned (.bool false) ∧ Tch (fun _ => False) wA w') := fun W tt => by
    have := conflict_any W qb mb hb q A (HL.out W tt).mor k κ s hs hk6
    rw [hcf] at this
    refine this.mono ?_
    rintro x w' ⟨rfl, t2⟩
    exact ⟨rfl, tt.trans' t2⟩
  have hE : wantE q k s κ false = 0 := by unfold wantE; rw [hcf, if_neg (by decide), if_neg (by decide), if_neg hsn]
  obtain ⟨K2, hK2⟩ : ∃ K2 : Nat → List Vn, K2 = fun j => if j = κ then K κ ++ [⟨wrN s (innS s), true, v⟩] else K j := ⟨_, rfl⟩
  have hadd : addK K κ ⟨wrN s (innS s), true, v⟩ (wantE q k s κ false) = K2 := by rw [hE, hK2]; rfl
  rw [← hK2]
  obtain ⟨i1, i2, _, _⟩ := inn_ok ht hpp
  have HX : Hid (-1 ≤ innS s ∧ innS s < s.ps.length ∧ κ < 6 ∧ v < 1000) := ⟨i1, i2, hk6, hv1⟩
  obtain ⟨C, hC⟩ : ∃ C : List Value → World → Prop, C = W11 w0 wA qb hb mb nq m q A F9 κ p N cs K2 := ⟨_, rfl⟩
  have hC1 : Hid (∀ s1 W, C s1 W → W.cell? ⟨qb, 1, none⟩ = some (.pointer (some ⟨hb, 0, none⟩)) ∧ W.cell? ⟨qb, 2 + k * 15 + 3, none⟩ = some (.int .i64 s.mn) ∧ W.cell? ⟨qb, 2 + k * 15 + 4, none⟩ = some (.int .i64 s.mx) ∧ W.cell? ⟨qb, 2 + k * 15 + 5, none⟩ = some (.slice (A k).so s.on.length (A k).sc)) := fun s1 W hW => by
    rw [hC] at hW
    have hm : MoR W qb mb hb q A := by
      match s1, hW with
      | [], hW => exact (HL.out W hW).mor
      | [_], hW => exact (HL.out W hW.2).mor
      | [_, _], hW => obtain ⟨_, _, _, h9, _⟩ := hW; exact h9.mor
    exact ⟨hm.ch, (hm.se k s hs).c 3 _ rfl, (hm.se k s hs).c 4 _ rfl, (hm.se k s hs).c 5 _ rfl⟩
  have c0 : Hid (∀ W, C [] W → Calls Tryz.prog 13 #[.int .i64 κ] W fun x W' => ∃ y, x = .returned y ∧ C [y] W') := fun W hW => by
    rw [hC] at hW ⊢
    refine (keyOf_any κ hk6 W).mono ?_
    rintro x W' ⟨rfl, tt⟩
    exact ⟨_, rfl, rfl, Tch.trans' hW tt⟩
  have s0 : Hid (∀ y W, C [y] W → y = .string (keyB κ)) := fun y W hW => by
    rw [hC] at hW; exact hW.1
  have c2 : Hid (∀ y W, C [y] W → Calls Tryz.prog 52 #[.pointer (some ⟨hb, 0, none⟩), .agg #[.int .i64 s.mn, .int .i64 s.mx, .slice (A k).so s.on.length (A k).sc], .int .i64 (wrN s (innS s)), .int .i64 1, .string (keyB κ)] W fun x W' => ∃ z, x = .returned z ∧ C [y, z] W') := fun y W hW => by
    rw [hC] at hW ⊢
    have tt := hW.2
    refine ((HL.out W tt).deletes hI hK hs ho ht hpp hq hn hol hk6 v).mono ?_
    rintro x W' ⟨⟨ro9, rn9, rc9, rfl, e9, _⟩, L', h9, hk9, tk9⟩
    rw [hadd] at hk9
    obtain ⟨hrn, p2, hp2, how⟩ := e9 hE
    subst hrn
    obtain rfl : p2 = p := by omega
    rw [hE]
    exact ⟨_, rfl, ⟨_, _, rfl, own_low how tt.size⟩, (tk9.block N (blk_lt (HB.out W tt)) (fun e => e hFN)).trans (HB.out W tt), L', h9, hk9⟩
  have s2 : Hid (∀ y z W, C [y, z] W → ∃ (ro : Option Addr) (rc : Nat), z = .tuple #[.slice ro 1 rc, .int .i64 0]) := fun y z W hW => by
    rw [hC] at hW
    obtain ⟨⟨ro, rc, e, _⟩, _⟩ := hW
    exact ⟨ro, rc, e⟩
  have HF : Hid (∀ y ro rc W, C [y, .tuple #[.slice ro 1 rc, .int .i64 0]] W → W.ownsRow wA.heap.size 89 3 (.slice ro 1 rc) 1 (rowC p) ∧ W.heap[N]? = some (.cells cs 29 (0, 0)) ∧ ∃ L', LW w0 W qb hb mb (nq + 3) m L' q A F9 ∧ HK L' K2) := fun y ro rc W hW => by
    rw [hC] at hW
    obtain ⟨⟨ro', rc', e, how⟩, h2⟩ := hW
    simp only [Value.tuple.injEq, Array.mk.injEq, List.cons.injEq, Value.slice.injEq, and_true, true_and] at e
    obtain ⟨rfl, rfl⟩ := e
    exact ⟨how, h2⟩
  have h00 : Hid (∀ W, Tch (fun _ => False) wA W → C [] W.drew) := fun W tt => by
    rw [hC]; exact Tch.drew tt
  have hz : ¬ ((p : Int) + 1) = 0 := by omega
  have hzb : (((p : Int) + 1) == 0) = false := by simp; omega
  have HS : Hid (q.l[k]? = some s) := hs
  have HWl : Hid (s.ws.length < 1000) := hwl
  have HFA : Hid (∀ i, F9 i → i < wA.heap.size) := hA.lt
  have HWA : Hid (wA = _) := hwA
  have HN : Hid (N = w.heap.size) := hN
  have HPle : Hid (p ≤ 1000) := hple
  have aa := HA.out wA bA
  have a2 := aa.2.1
  have qp := HP.out wA
  unfold actV
  clear hwA hN bA tA hA h hI hK hs ho ht hpp hC hbd hκ hv hE hadd hcf hsn aa hwl hk6 hv1 i1 i2 hcs hK2 hF9 hFN hple hp
  go_enter Tryz.func24, Tryz.ntmps24
  go_upto_region 1 with (fail)
  rw [← HWA.out, ← HN.out]
  go_wp2_with fail
  refine qp.mono ?_
  clear qp a2
  rintro x w2 ⟨rfl, rfl⟩
  go_wp2_with fail
  refine qw.mono ?_
  clear qw
  rintro x w3 ⟨rfl, t3⟩
  have cq := HQ.out w3 t3
  clear t3
  go_wp2_with fail
  refine cq.mono ?_
  clear cq
  rintro x w4 ⟨rfl, t4⟩
  have cf := HCf.out w4 t4
  clear t4
  go_wp2_with fail
  refine cf.mono ?_
  clear cf
  rintro x w5 ⟨rfl, t5⟩
  have a5 := (HA.out w5 (HB.out w5 t5)).1
  have a6 := (HA.out w5 (HB.out w5 t5)).2.2
  have qp2 := HP2.out w5
  have H5 : Hid (Tch (fun _ => False) w2 w5) := t5
  clear t5 HP HP2 HQ HCf
  go_upto_region 13 with (fail)
  go_wp2_with fail
  refine qp2.mono ?_
  clear qp2
  rintro x w6 ⟨rfl, rfl⟩
  go_upto_region 17 with (fail)
  refine wp_region_ordv [10, 11] C 16 [0, 1, 2, 3, 4, 5, 6, 7, 8, 9, 10, 11, 12, 13, 14, 15] (by kernel_rfl) (by kernel_rfl) (h00.out _ H5.out) ?_
  clear a5 a6
  refine ordv_read rfl (by go_simp) (by rfl) ?_
  apply Exists.intro
  refine ⟨fun s' W hW b K Q hK' => ?_, fun K hK' => ?_⟩
  · obtain ⟨q0, q2, q3, q4⟩ := hC1.out _ W hW
    go_simp
    exact hK' W hW
  go_simp
  refine hK' _ ?_
  clear hK' K
  refine ordv_read rfl (by go_simp) (by rfl) ?_
  apply Exists.intro
  refine ⟨fun s' W hW b K Q hK' => ?_, fun K hK' => ?_⟩
  · obtain ⟨q0, q2, q3, q4⟩ := hC1.out _ W hW
    go_simp
    exact hK' W hW
  go_simp
  refine hK' _ ?_
  clear hK' K
  refine ordv_read rfl (by go_simp) (by rfl) ?_
  apply Exists.intro
  refine ⟨fun s' W hW b K Q hK' => ?_, fun K hK' => ?_⟩
  · obtain ⟨q0, q2, q3, q4⟩ := hC1.out _ W hW
    go_simp
    exact hK' W hW
  go_simp
  refine hK' _ ?_
  clear hK' K
  refine ordv_read rfl (by go_simp) (by rfl) ?_
  apply Exists.intro
  refine ⟨fun s' W hW b K Q hK' => ?_, fun K hK' => ?_⟩
  · obtain ⟨q0, q2, q3, q4⟩ := hC1.out _ W hW
    go_simp
    exact hK' W hW
  go_simp
  refine hK' _ ?_
  clear hK' K
  refine ordv_read rfl (by go_simp) (by rfl) ?_
  apply Exists.intro
  refine ⟨fun s' W hW b K Q hK' => ?_, fun K hK' => ?_⟩
  · obtain ⟨q0, q2, q3, q4⟩ := hC1.out _ W hW
    go_simp
    exact hK' W hW
  go_simp
  refine hK' _ ?_
  clear hK' K
  refine ordv_read rfl (by go_simp) (by rfl) ?_
  apply Exists.intro
  refine ⟨fun s' W hW b K Q hK' => ?_, fun K hK' => ?_⟩
  · obtain ⟨q0, q2, q3, q4⟩ := hC1.out _ W hW
    go_simp
    exact hK' W hW
  go_simp
  refine hK' _ ?_
  clear hK' K
  refine ordv_read rfl (by go_simp) (by rfl) ?_
  apply Exists.intro
  refine ⟨fun s' W hW b K Q hK' => ?_, fun K hK' => ?_⟩
  · obtain ⟨q0, q2, q3, q4⟩ := hC1.out _ W hW
    go_simp
    exact hK' W hW
  go_simp
  refine hK' _ ?_
  clear hK' K
  refine ordv_read rfl (by go_simp) (by rfl) ?_
  apply Exists.intro
  refine ⟨fun s' W hW b K Q hK' => ?_, fun K hK' => ?_⟩
  · obtain ⟨q0, q2, q3, q4⟩ := hC1.out _ W hW
    go_simp
    exact hK' W hW
  go_simp
  refine hK' _ ?_
  clear hK' K
  refine ordv_read rfl (by go_simp) (by rfl) ?_
  apply Exists.intro
  refine ⟨fun s' W hW b K Q hK' => ?_, fun K hK' => ?_⟩
  · obtain ⟨q0, q2, q3, q4⟩ := hC1.out _ W hW
    go_simp
    exact hK' W hW
  go_simp
  refine hK' _ ?_
  clear hK' K
  refine ordv_read rfl (by go_simp) (by rfl) ?_
  apply Exists.intro
  refine ⟨fun s' W hW b K Q hK' => ?_, fun K hK' => ?_⟩
  · obtain ⟨q0, q2, q3, q4⟩ := hC1.out _ W hW
    go_simp
    exact hK' W hW
  go_simp
  refine hK' _ ?_
  clear hK' K
  refine ordv_turn rfl (by go_simp) (by rfl) (fun W hW b K Q hK' => ?_) (fun u hu K hK' => ?_)
  · go_simp
    go_at_call 13
    refine (c0.out W hW).mono ?_
    rintro x w' ⟨y, rfl, h1⟩
    exact hK' y w' h1
  obtain rfl : u = .string (keyB κ) := by
    obtain ⟨W', hW'⟩ := hu
    exact s0.out u W' hW'
  clear hu c0 s0
  go_simp
  refine hK' _ ?_
  clear hK' K
  refine ordv_turn rfl (by go_simp) (by rfl) (fun W hW b K Q hK' => ?_) (fun u hu K hK' => ?_)
  · go_simp
    go_at_call 52
    refine (c2.out _ W hW).mono ?_
    rintro x w' ⟨y, rfl, h1⟩
    exact hK' y w' h1
  obtain ⟨oo, oc, rfl⟩ : ∃ (ro : Option Addr) (rc : Nat), u = .tuple #[.slice ro 1 rc, .int .i64 0] := by
    obtain ⟨W', hW'⟩ := hu
    exact s2.out _ u W' hW'
  clear hu c2 s2
  go_simp
  refine hK' _ ?_
  clear hK' K
  refine ordv_read rfl (by go_simp) (by rfl) ?_
  apply Exists.intro
  refine ⟨fun s' W hW b K Q hK' => ?_, fun K hK' => ?_⟩
  · obtain ⟨q0, q2, q3, q4⟩ := hC1.out _ W hW
    go_simp
    exact hK' W hW
  go_simp
  refine hK' _ ?_
  clear hK' K
  refine ordv_read rfl (by go_simp) (by rfl) ?_
  apply Exists.intro
  refine ⟨fun s' W hW b K Q hK' => ?_, fun K hK' => ?_⟩
  · obtain ⟨q0, q2, q3, q4⟩ := hC1.out _ W hW
    go_simp
    exact hK' W hW
  go_simp
  refine hK' _ ?_
  clear hK' K
  refine ordv_read rfl (by go_simp) (by rfl) ?_
  apply Exists.intro
  refine ⟨fun s' W hW b K Q hK' => ?_, fun K hK' => ?_⟩
  · obtain ⟨q0, q2, q3, q4⟩ := hC1.out _ W hW
    go_simp
    exact hK' W hW
  go_simp
  refine hK' _ ?_
  clear hK' K
  refine ordv_read rfl (by go_simp) (by rfl) ?_
  apply Exists.intro
  refine ⟨fun s' W hW b K Q hK' => ?_, fun K hK' => ?_⟩
  · obtain ⟨q0, q2, q3, q4⟩ := hC1.out _ W hW
    go_simp
    exact hK' W hW
  go_simp
  refine hK' _ ?_
  clear hK' K
  refine ordv_nil ?_
  intro w7 hw7
  obtain ⟨how7, hN7, L7, h7, hk7⟩ := HF.out _ _ _ w7 hw7
  have Hk7 : Hid (HK L7 K2) := hk7
  have H7 : Hid (LW w0 w7 qb hb mb (nq + 3) m L7 q A F9) := h7
  have HN7 : Hid (w7.heap[N]? = some (.cells cs 29 (0, 0))) := hN7
  have HO7 : Hid (w7.ownsRow w2.heap.size 89 3 (.slice oo 1 oc) 1 (rowC p)) := how7
  clear how7
  clear HF hw7 h00 hC1 C h7 hN7 hk7
  obtain ⟨C, hC⟩ : ∃ C : List Value → World → Prop, C = W8 w0 w7 s (A k) ⟨innS s, κ, true, v⟩ := ⟨_, rfl⟩
  have hC1 : Hid (∀ s1 W, C s1 W → W.cell? ⟨qb, 2 + k * 15 + 14, none⟩ = some (.slice (A k).wo s.ws.length (A k).wc) ∧ W.cell? ⟨N, 0, none⟩ = some (.int .i64 8)) := fun s1 W hW => by
    rw [hC] at hW
    have := hW.cells H7.out HS.out HN7.out
    exact ⟨this.1, (HA.out W this.2.1).1⟩
  have b0 : Hid (∀ W, C [] W → C [.slice (some ⟨W.heap.size, 0, none⟩) 1 1] (W.alloc (.cells #[.int .i64 (innS s), .int .i64 κ, .bool true, .int .i64 v] 73))) := fun W hW => by
    rw [hC] at hW ⊢
    exact W8.box hW
  have b1 : Hid (∀ g W, C [.slice (some ⟨g, 0, none⟩) 1 1] W → ∃ o5 c5 w', (Builtin.append_ #[36, 36] 36 #[.slice (A k).wo s.ws.length (A k).wc, .slice (some ⟨g, 0, none⟩) 1 1]).run Tryz.prog W = .ok (.slice o5 (s.ws.length + 1) c5) w' ∧ C [.slice (some ⟨g, 0, none⟩) 1 1, .slice o5 (s.ws.length + 1) c5] w') := fun g W hW => by
    rw [hC] at hW ⊢
    exact W8.app H7.out HS.out HWl.out hW
  have d0 : Hid (∀ y W, C [y] W → ∃ g, y = .slice (some ⟨g, 0, none⟩) 1 1) := fun y W hW => by
    rw [hC] at hW
    obtain ⟨⟨g, e, _⟩, _⟩ := hW
    exact ⟨g, e⟩
  have d1 : Hid (∀ y z W, C [y, z] W → ∃ o5 c5, z = .slice o5 (s.ws.length + 1) c5) := fun y z W hW => by
    rw [hC] at hW
    obtain ⟨_, _, _, ho, _⟩ := hW
    obtain ⟨o5, c5, e⟩ := row_slice ho
    exact ⟨o5, c5, e⟩
  have HF : Hid (∀ y z W, C [y, z] W → (∃ A' F', LW w0 (W.setCell ⟨qb, 2 + k * 15 + 14, none⟩ z) qb hb mb (nq + 3) m L7 { q with l := q.l.set k (addW s ⟨innS s, κ, true, v⟩) } A' F') ∧ W.heap[N]? = some (.cells cs 29 (0, 0)) ∧ W.frozen? ⟨qb, 2 + k * 15 + 14, none⟩ = false ∧ ∀ ro rc, w7.ownsRow w2.heap.size 89 3 (.slice ro 1 rc) 1 (rowC p) → RdR (W.setCell ⟨qb, 2 + k * 15 + 14, none⟩ z) ro 1 rc (rowC p)) := fun y z W hW => by
    rw [hC] at hW
    have := hW.cells H7.out HS.out HN7.out
    refine ⟨hW.fin H7.out HS.out HWl.out HX.out, this.2.1, this.2.2.1, fun ro rc how => ?_⟩
    have hr : RdR w7 ro 1 rc (rowC p) := RdR.of_own how (by simp [rowC, Value.oneCell']) (by omega)
    refine (hr.tch hW.t (fun a e e2 => ?_)).tch (Tch.setCell (fun i => i = qb) W _ _ rfl) (fun a e e2 => ?_)
    · have hob : (Value.slice ro 1 rc).ownBlock = some a.block := by
        rw [e]
        rcases how.2 with ⟨e3, _⟩ | ⟨g1, c1, u1, e3, _⟩
        · rw [e] at e3; cases e3
        · injection e3 with e4; rw [e] at e4; injection e4 with e4; rw [e4]; rfl
      have h1 := row_ge how hob
      have h2 := HFA.out _ ((H7.out.se k s HS.out).wsf _ e2)
      omega
    · have hob : (Value.slice ro 1 rc).ownBlock = some a.block := by
        rw [e]
        rcases how.2 with ⟨e3, _⟩ | ⟨g1, c1, u1, e3, _⟩
        · rw [e] at e3; cases e3
        · injection e3 with e4; rw [e] at e4; injection e4 with e4; rw [e4]; rfl
      have h1 := row_ge how hob
      have h2 := HFA.out _ H7.out.fq
      omega
  have h00 : Hid (C [] w7.drew) := by
    rw [hC]; exact (Tch.refl _ _).drew
  clear hC
  go_upto_region 26 with (fail)
  refine wp_region_ordv [12, 13] C 14 [0, 1, 2, 3, 4, 5, 6, 7, 8, 9, 10, 11, 12, 13] (by kernel_rfl) (by kernel_rfl) h00.out ?_
  refine ordv_read rfl (by go_simp) (by rfl) ?_
  apply Exists.intro
  refine ⟨fun s' W hW b K Q hK' => ?_, fun K hK' => ?_⟩
  · obtain ⟨q0, q1⟩ := hC1.out _ W hW
    go_simp
    exact hK' W hW
  go_simp
  refine hK' _ ?_
  clear hK' K
  refine ordv_read rfl (by go_simp) (by rfl) ?_
  apply Exists.intro
  refine ⟨fun s' W hW b K Q hK' => ?_, fun K hK' => ?_⟩
  · obtain ⟨q0, q1⟩ := hC1.out _ W hW
    go_simp
    exact hK' W hW
  go_simp
  refine hK' _ ?_
  clear hK' K
  refine ordv_read rfl (by go_simp) (by rfl) ?_
  apply Exists.intro
  refine ⟨fun s' W hW b K Q hK' => ?_, fun K hK' => ?_⟩
  · obtain ⟨q0, q1⟩ := hC1.out _ W hW
    go_simp
    exact hK' W hW
  go_simp
  refine hK' _ ?_
  clear hK' K
  refine ordv_read rfl (by go_simp) (by rfl) ?_
  apply Exists.intro
  refine ⟨fun s' W hW b K Q hK' => ?_, fun K hK' => ?_⟩
  · obtain ⟨q0, q1⟩ := hC1.out _ W hW
    go_simp
    exact hK' W hW
  go_simp
  refine hK' _ ?_
  clear hK' K
  refine ordv_read rfl (by go_simp) (by rfl) ?_
  apply Exists.intro
  refine ⟨fun s' W hW b K Q hK' => ?_, fun K hK' => ?_⟩
  · obtain ⟨q0, q1⟩ := hC1.out _ W hW
    go_simp
    exact hK' W hW
  go_simp
  refine hK' _ ?_
  clear hK' K
  refine ordv_read rfl (by go_simp) (by rfl) ?_
  apply Exists.intro
  refine ⟨fun s' W hW b K Q hK' => ?_, fun K hK' => ?_⟩
  · obtain ⟨q0, q1⟩ := hC1.out _ W hW
    go_simp
    exact hK' W hW
  go_simp
  refine hK' _ ?_
  clear hK' K
  refine ordv_read rfl (by go_simp) (by rfl) ?_
  apply Exists.intro
  refine ⟨fun s' W hW b K Q hK' => ?_, fun K hK' => ?_⟩
  · obtain ⟨q0, q1⟩ := hC1.out _ W hW
    go_simp
    exact hK' W hW
  go_simp
  refine hK' _ ?_
  clear hK' K
  refine ordv_read rfl (by go_simp) (by rfl) ?_
  apply Exists.intro
  refine ⟨fun s' W hW b K Q hK' => ?_, fun K hK' => ?_⟩
  · obtain ⟨q0, q1⟩ := hC1.out _ W hW
    go_simp
    exact hK' W hW
  go_simp
  refine hK' _ ?_
  clear hK' K
  refine ordv_read rfl (by go_simp) (by rfl) ?_
  apply Exists.intro
  refine ⟨fun s' W hW b K Q hK' => ?_, fun K hK' => ?_⟩
  · obtain ⟨q0, q1⟩ := hC1.out _ W hW
    go_simp
    exact hK' W hW
  go_simp
  refine hK' _ ?_
  clear hK' K
  refine ordv_read rfl (by go_simp) (by rfl) ?_
  apply Exists.intro
  refine ⟨fun s' W hW b K Q hK' => ?_, fun K hK' => ?_⟩
  · obtain ⟨q0, q1⟩ := hC1.out _ W hW
    go_simp
    exact hK' W hW
  go_simp
  refine hK' _ ?_
  clear hK' K
  refine ordv_read rfl (by go_simp) (by rfl) ?_
  apply Exists.intro
  refine ⟨fun s' W hW b K Q hK' => ?_, fun K hK' => ?_⟩
  · obtain ⟨q0, q1⟩ := hC1.out _ W hW
    go_simp
    exact hK' W hW
  go_simp
  refine hK' _ ?_
  clear hK' K
  refine ordv_read rfl (by go_simp) (by rfl) ?_
  apply Exists.intro
  refine ⟨fun s' W hW b K Q hK' => ?_, fun K hK' => ?_⟩
  · obtain ⟨q0, q1⟩ := hC1.out _ W hW
    go_simp
    exact hK' W hW
  go_simp
  refine hK' _ ?_
  clear hK' K
  refine ordv_turn rfl (by go_simp) (by rfl) (fun W hW b K Q hK' => ?_) (fun u hu K hK' => ?_)
  · go_simp
    exact hK' _ _ (b0.out W hW)
  obtain ⟨g, rfl⟩ : ∃ g, u = .slice (some ⟨g, 0, none⟩) 1 1 := by
    obtain ⟨W', hW'⟩ := hu
    exact d0.out u W' hW'
  clear hu b0 d0
  go_simp
  refine hK' _ ?_
  clear hK' K
  refine ordv_turn rfl (by go_simp) (by rfl) (fun W hW => ?_) (fun u hu K hK' => ?_)
  · obtain ⟨o5, c5, w', hr, h1⟩ := b1.out g W hW
    exact yv_append (.tmp 122) (.tmp 130) 36 rfl (.slice (A k).wo s.ws.length (A k).wc) (.slice (some ⟨g, 0, none⟩) 1 1) rfl rfl hr h1
  obtain ⟨o5, c5, rfl⟩ : ∃ o5 c5, u = .slice o5 (s.ws.length + 1) c5 := by
    obtain ⟨W', hW'⟩ := hu
    exact d1.out _ u W' hW'
  clear hu b1 d1
  go_simp
  refine hK' _ ?_
  clear hK' K
  refine ordv_nil ?_
  intro w8 hw8
  have x14 := (hC1.out _ w8 hw8).1
  obtain ⟨h8, hN8, f14, hr8⟩ := HF.out _ _ w8 hw8
  obtain ⟨w9, hw9⟩ : ∃ w9, w9 = w8.setCell ⟨qb, 2 + k * 15 + 14, none⟩ (.slice o5 (s.ws.length + 1) c5) := ⟨_, rfl⟩
  have hqN : ¬ N = qb := fun e => by
    have h1 := H7.out.bk
    rw [← e, HN7.out] at h1
    injection h1 with h1
    injection h1 with _ h1
    exact absurd h1 (by decide)
  have hN9 : w9.heap[N]? = some (.cells cs 29 (0, 0)) := by
    rw [hw9]
    exact ((Tch.setCell (fun i => i = qb) w8 ⟨qb, 2 + k * 15 + 14, none⟩ _ rfl).block N (blk_lt hN8) hqN).trans hN8
  have e9 := (HA.out w9 hN9).1
  have qn := number_any oo oc p w9 HPle.out (by rw [hw9]; exact hr8 oo oc HO7.out)
  rw [← hw9] at h8
  have H8 : Hid (∃ A' F', LW w0 w9 qb hb mb (nq + 3) m L7 { q with l := q.l.set k (addW s ⟨innS s, κ, true, v⟩) } A' F') := h8
  have HW9 : Hid (w9 = _) := hw9
  clear HF hw8 hN8 hqN hN9 hw9 h8 hC1 hr8
  simp only [List.drop_succ_cons, List.drop_zero]
  go_upto_region 27 with (fail)
  rw [← HW9.out]
  clear x14 f14
  go_wp2_with fail
  refine qn.mono ?_
  clear qn
  rintro x w10 ⟨rfl, rfl⟩
  go_wp2_with fail
  go_ret
  obtain ⟨A', F', h9⟩ := H8.out
  exact ⟨true, rfl, rfl, L7, A', F', h9, Hk7.out⟩
end Go.Proofs.YtokgihmigkplaaaGreat.F
namespace Go.Proofs.YtokgihmigkplaaaGreat.F
open Go.RowKit Go Go.Sort
set_option maxRecDepth 100000
theorem does_step {f : Fr} {w : World} {qb hb mb nq i : Nat} {m : Mg} {L : HL} {q : Mo} {A : Nat → Sx} {F : Nat → Prop} {K : Nat → List Vn} {σ : Nat → Nat} (h : LW f w qb hb mb nq m L q A F) (hI : Inv m q K σ) (hK : HK L K) (hB : SB i nq m q) (hi : i < 200) {kind who key n : Int} (hki : -9223372036854775808 ≤ kind ∧ kind ≤ 9223372036854775807) (hwi : -9223372036854775808 ≤ who ∧ who ≤ 9223372036854775807) (hke : -9223372036854775808 ≤ key ∧ key ≤ 9223372036854775807) (hni : -9223372036854775808 ≤ n ∧ n ≤ 9223372036854775807) {s : Se} (hs : q.l[pkN who 5]? = some s) :
    Calls Tryz.prog 8 #[.pointer (some ⟨qb, 0, none⟩), actV kind who key n] w fun x w' => ∃ b, x = .returned (.bool b) ∧ PO f qb hb mb i q A (pkN who 5) (pkN kind 12) s b w' := by
  obtain ⟨k, hk⟩ : ∃ k, k = pkN who 5 := ⟨_, rfl⟩
  obtain ⟨kd, hkd⟩ : ∃ kd, kd = pkN kind 12 := ⟨_, rfl⟩
  have hk12 : kd < 12 := by rw [hkd]; exact pkN_lt kind (by decide)
  have b1 := hB.nq
  have b2 := hB.nx
  have b3 := hB.on
  have b4 := hB.qn
  have b5 := hB.se _ s hs
  have still : ∀ w', ¬ (kd = 1 ∧ s.op = true) → Tch (fun _ => False) w w' → PO f qb hb mb i q A k kd s true w' := fun w' hne t =>
    ⟨rfl, nq, m, L, q, A, F, K, σ, h.no t, hI, hK, hB.up, StQ.same hne (by rw [hk]; exact hs), fun h1 h2 => absurd ⟨h1, h2⟩ hne⟩
  rw [← hk, ← hkd]
  cases ho : s.op with
  | false =>
    rcases Nat.eq_zero_or_pos kd with h0 | h0
    · refine (does_begin h hki hwi (by rw [← hkd, h0]) hs ho (by omega) hB.now).mono ?_
      rintro x w' ⟨rfl, A', F', h'⟩
      rw [← hk] at h' hs
      exact ⟨_, rfl, rfl, nq, _, L, _, A', F', K, σ, h', hI.begin hs ho (by omega), hK, hB.set hs (by omega) (by show m.nx + 1 ≤ _; omega) (by show (m.on ++ [m.nx]).length ≤ _; rw [List.length_append]; exact Nat.le_refl _) ⟨Nat.zero_le _, Nat.zero_le _, by show m.on.length ≤ _; omega⟩, by rw [h0]; exact StQ.begin hs ho rfl, fun h1 h2 => by rw [ho] at h2; cases h2⟩
    · refine (does_shut h h0 hki hwi (by rw [← hkd]) hs ho).mono ?_
      rintro x w' ⟨rfl, t⟩
      exact ⟨_, rfl, still w' (fun e => by rw [ho] at e; cases e.2) t⟩
  | true =>
    obtain ⟨⟨t, ht⟩, _, _⟩ := hI.ses _ s hs ho
    have hx : s.x ≤ 1000000 := by
      have := (hI.wf.lo t ht.mem).2
      have := ht.x
      omega
    have hle : ∀ κ, κ < 6 → seesS s κ ≤ 1000 := fun κ hk6 => by
      rw [← foldS_all]; exact foldS_le s κ ((h.bd _ s hs).ba κ hk6) (fun v hv => ((h.bd _ s hs).wr v hv).2.2.2) _
    rcases (by omega : kd = 0 ∨ kd = 1 ∨ kd = 2 ∨ 2 < kd) with h0 | h0 | h0 | h0
    · refine (does_begun h hki hwi (by rw [← hkd, h0]) hs ho).mono ?_
      rintro x w' ⟨rfl, t⟩
      exact ⟨_, rfl, still w' (fun e => by omega) t⟩
    · refine does_commits h hki hwi (by rw [← hkd, h0]) hs ho (fun w2 t2 => ?_)
      rw [← hk] at hs ⊢
      refine (ends_commit (h.no t2) hI.wf hs ht hx (by omega) who key n).mono ?_
      rintro x w' ⟨rfl, h', hin⟩
      have hI' := hI.ends hs ho ht (.inl rfl) (qj q s 6).now (qj q s 6).wn (qj q s 6).n (by rw [qj_n]; rfl)
        (fun κ hκ => by
          rw [qj_now q s 6 (by omega) κ hκ]
          by_cases hw : wroteS s κ = true
          · rw [if_pos ⟨hκ, hw⟩, if_pos ⟨rfl, hw⟩]
          · rw [if_neg (fun e => hw e.2), if_neg (fun e => hw e.2)])
        (fun κ hκ => by
          rw [qj_wn q s 6 (by omega) κ hκ, qj_n]
          by_cases hw : wroteS s κ = true
          · rw [if_pos ⟨hκ, hw⟩, if_pos ⟨rfl, hw⟩]
          · rw [if_neg (fun e => hw e.2), if_neg (fun e => hw e.2)])
      exact ⟨_, rfl, rfl, nq, _, L, _, _, F, K, _, h', hI', hK, hB.commit hs hle (Nat.le_refl _) (fin_on m t.x 3), by rw [h0]; exact StQ.commit hs ho, fun _ _ => hin⟩
    · refine does_aborts h hki hwi (by rw [← hkd, h0]) hs ho (fun w2 t2 => ?_)
      rw [← hk] at hs ⊢
      refine (ends_abort (h.no t2) hI.wf hs ht hx who key n).mono ?_
      rintro x w' ⟨rfl, h'⟩
      have hI' := hI.ends hs ho ht (.inr rfl) q.now q.wn q.n (by rfl) (fun κ hκ => by rw [if_neg (fun e => by cases e.1)]) (fun κ hκ => by rw [if_neg (fun e => by cases e.1)])
      exact ⟨_, rfl, rfl, nq, _, L, _, _, F, K, _, h', hI', hK, hB.set hs (by omega) (by show m.nx ≤ _; omega) (by have := fin_on m t.x 4; omega) ⟨Nat.zero_le _, Nat.zero_le _, Nat.zero_le _⟩, StQ.set (by omega) hs (fun e => by cases e), fun h1 _ => by omega⟩
    · cases hpp : s.pp with
      | true =>
        refine (does_still h h0 hki hwi (by rw [← hkd]) hs ho hpp).mono ?_
        rintro x w' ⟨rfl, t⟩
        exact ⟨_, rfl, still w' (fun e => by omega) t⟩
      | false =>
        obtain ⟨i1, i2, i3, i4⟩ := inn_ok ht hpp
        rcases (by omega : kd = 3 ∨ kd = 4 ∨ kd = 5 ∨ kd = 6 ∨ kd = 7 ∨ kd = 8 ∨ kd = 9 ∨ kd = 10 ∨ kd = 11) with h0 | h0 | h0 | h0 | h0 | h0 | h0 | h0 | h0
        · refine does_part h hki hwi (by rw [← hkd, h0]) hs ho hpp (fun w2 t2 => ?_)
          rw [← hk] at hs ⊢
          rcases Nat.lt_or_ge s.ps.length 12 with hl | hl
          · refine (parts_part (h.no t2) hI.wf hs ht hpp hl (by omega) who key n).mono ?_
            rintro x w' ⟨rfl, A', F', h'⟩
            exact ⟨_, rfl, rfl, nq, _, L, _, A', F', K, σ, h', addS_inv hI hs ho ht hpp (by omega) (by rw [ht.ps, List.length_map]; omega), hK, hB.set hs (by omega) (by show m.nx + 1 ≤ _; omega) (by show m.on.length ≤ _; omega) ⟨by show s.ws.length ≤ _; omega, by show (s.ps ++ [_]).length ≤ 12; rw [List.length_append]; show s.ps.length + 1 ≤ 12; omega, by show s.on.length ≤ _; omega⟩, StQ.set (by omega) hs (fun e => ⟨ho, rfl⟩), fun h1 _ => by omega⟩
          · refine (parts_full (h.no t2) hs hl who key n).mono ?_
            rintro x w' ⟨rfl, t⟩
            exact ⟨_, rfl, still w' (fun e => by omega) (t2.trans' t)⟩
        · refine does_release h hki hwi (by rw [← hkd, h0]) hs ho hpp (fun w2 t2 => ?_)
          rw [← hk] at hs ⊢
          refine (parts_release (h.no t2) hI.wf hs ht hpp b5.2.1 hni).mono ?_
          rintro x w' ⟨b, rfl, rfl, ⟨F', h'⟩ | ⟨j, F', h'⟩⟩
          · exact ⟨_, rfl, rfl, nq, m, L, q, A, F', K, σ, h', hI, hK, hB.up, StQ.same (fun e => by omega) hs, fun h1 _ => by omega⟩
          · exact ⟨_, rfl, rfl, nq, _, L, _, A, F', K, σ, h', endS_inv hI hs ho ht j false, hK, hB.set hs (by omega) (by show m.nx ≤ _; omega) (by show m.on.length ≤ _; omega) ⟨by show s.ws.length ≤ _; omega, by show (psj _ _ _ _).length ≤ 12; rw [psj_len]; exact b5.2.1, by show s.on.length ≤ _; omega⟩, StQ.set (by omega) hs (fun e => ⟨ho, rfl⟩), fun h1 _ => by omega⟩
        · refine does_back h hki hwi (by rw [← hkd, h0]) hs ho hpp (fun w2 t2 => ?_)
          rw [← hk] at hs ⊢
          refine (parts_back (h.no t2) hI.wf hs ht hpp b5.2.1 hni).mono ?_
          rintro x w' ⟨b, rfl, rfl, ⟨F', h'⟩ | ⟨j, F', h'⟩⟩
          · exact ⟨_, rfl, rfl, nq, m, L, q, A, F', K, σ, h', hI, hK, hB.up, StQ.same (fun e => by omega) hs, fun h1 _ => by omega⟩
          · exact ⟨_, rfl, rfl, nq, _, L, _, A, F', K, σ, h', endS_inv hI hs ho ht j true, hK, hB.set hs (by omega) (by show m.nx ≤ _; omega) (by show m.on.length ≤ _; omega) ⟨by show s.ws.length ≤ _; omega, by show (psj _ _ _ _).length ≤ 12; rw [psj_len]; exact b5.2.1, by show s.on.length ≤ _; omega⟩, StQ.set (by omega) hs (fun e => ⟨ho, rfl⟩), fun h1 _ => by omega⟩
        · refine does_insert h hki hwi (by rw [← hkd, h0]) hs ho hpp (fun w2 t2 => ?_)
          rw [← hk] at hs ⊢
          cases hcf : confB q k s (pkN key 6) with
          | true =>
            refine (writes_insC (h.no t2) hI hK hs ho ht hpp (by omega) (by omega) (by omega) hke hni hcf).mono ?_
            rintro x w' ⟨b, rfl, rfl, L', h', hK'⟩
            exact ⟨_, rfl, rfl, nq + 3, m, L', q, A, F, K, σ, h', hI, hK', hB.upN, StQ.same (fun e => by omega) hs, fun h1 _ => by omega⟩
          | false =>
            by_cases hsn : seesS s (pkN key 6) = 0
            · refine (writes_ins (h.no t2) hI hK hs ho ht hpp (by omega) (by omega) (by omega) (by omega) hke hni hcf hsn).mono ?_
              rintro x w' ⟨b, rfl, rfl, L', A', F', h', hK'⟩
              exact ⟨_, rfl, rfl, nq + 3, m, L', _, A', F', _, σ, h', hI.write hs ho i1 i2 i3 (fun e => by rw [(confB_iff q hI.ln k s _).2 e] at hcf; cases hcf) false (pkN n 1000), hK', hB.set hs (by omega) (by omega) (by omega) ⟨by show (s.ws ++ [_]).length ≤ _; rw [List.length_append]; show s.ws.length + 1 ≤ _; omega, b5.2.1, by show s.on.length ≤ _; omega⟩, StQ.set (by omega) hs (fun e => ⟨ho, rfl⟩), fun h1 _ => by omega⟩
            · refine (writes_insS (h.no t2) hI hK hs ho ht hpp (by omega) (by omega) (by omega) hke hni hcf hsn).mono ?_
              rintro x w' ⟨b, rfl, rfl, L', h', hK'⟩
              exact ⟨_, rfl, rfl, nq + 3, m, L', q, A, F, K, σ, h', hI, hK', hB.upN, StQ.same (fun e => by omega) hs, fun h1 _ => by omega⟩
        · refine does_update h hki hwi (by rw [← hkd, h0]) hs ho hpp (fun w2 t2 => ?_)
          rw [← hk] at hs ⊢
          cases hcf : confB q k s (pkN key 6) with
          | true =>
            refine (writes_updC (h.no t2) hI hK hs ho ht hpp (by omega) (by omega) (by omega) hke hni hcf).mono ?_
            rintro x w' ⟨b, rfl, rfl, L', h', hK'⟩
            exact ⟨_, rfl, rfl, nq + 3, m, L', q, A, F, K, σ, h', hI, hK', hB.upN, StQ.same (fun e => by omega) hs, fun h1 _ => by omega⟩
          | false =>
            by_cases hsn : seesS s (pkN key 6) = 0
            · refine (writes_updS (h.no t2) hI hK hs ho ht hpp (by omega) (by omega) (by omega) hke hni hcf hsn).mono ?_
              rintro x w' ⟨b, rfl, rfl, L', h', hK'⟩
              exact ⟨_, rfl, rfl, nq + 3, m, L', q, A, F, K, σ, h', hI, hK', hB.upN, StQ.same (fun e => by omega) hs, fun h1 _ => by omega⟩
            · refine (writes_upd (h.no t2) hI hK hs ho ht hpp (by omega) (by omega) (by omega) (by omega) hke hni hcf hsn).mono ?_
              rintro x w' ⟨b, rfl, rfl, L', A', F', h', hK'⟩
              exact ⟨_, rfl, rfl, nq + 3, m, L', _, A', F', _, σ, h', hI.write hs ho i1 i2 i3 (fun e => by rw [(confB_iff q hI.ln k s _).2 e] at hcf; cases hcf) false (pkN n 1000), hK', hB.set hs (by omega) (by omega) (by omega) ⟨by show (s.ws ++ [_]).length ≤ _; rw [List.length_append]; show s.ws.length + 1 ≤ _; omega, b5.2.1, by show s.on.length ≤ _; omega⟩, StQ.set (by omega) hs (fun e => ⟨ho, rfl⟩), fun h1 _ => by omega⟩
        · refine does_delete h hki hwi (by rw [← hkd, h0]) hs ho hpp (fun w2 t2 => ?_)
          rw [← hk] at hs ⊢
          cases hcf : confB q k s (pkN key 6) with
          | true =>
            refine (writes_delC (h.no t2) hI hK hs ho ht hpp (by omega) (by omega) (by omega) hke hni hcf).mono ?_
            rintro x w' ⟨b, rfl, rfl, L', h', hK'⟩
            exact ⟨_, rfl, rfl, nq + 3, m, L', q, A, F, K, σ, h', hI, hK', hB.upN, StQ.same (fun e => by omega) hs, fun h1 _ => by omega⟩
          | false =>
            by_cases hsn : seesS s (pkN key 6) = 0
            · refine (writes_delS (h.no t2) hI hK hs ho ht hpp (by omega) (by omega) (by omega) hke hni hcf hsn).mono ?_
              rintro x w' ⟨b, rfl, rfl, L', h', hK'⟩
              exact ⟨_, rfl, rfl, nq + 3, m, L', q, A, F, K, σ, h', hI, hK', hB.upN, StQ.same (fun e => by omega) hs, fun h1 _ => by omega⟩
            · refine (writes_del (h.no t2) hI hK hs ho ht hpp (by omega) (by omega) (by omega) (by omega) hke hni hcf hsn).mono ?_
              rintro x w' ⟨b, rfl, rfl, L', A', F', h', hK'⟩
              exact ⟨_, rfl, rfl, nq + 3, m, L', _, A', F', _, σ, h', hI.write hs ho i1 i2 i3 (fun e => by rw [(confB_iff q hI.ln k s _).2 e] at hcf; cases hcf) true (pkN n 1000), hK', hB.set hs (by omega) (by omega) (by omega) ⟨by show (s.ws ++ [_]).length ≤ _; rw [List.length_append]; show s.ws.length + 1 ≤ _; omega, b5.2.1, by show s.on.length ≤ _; omega⟩, StQ.set (by omega) hs (fun e => ⟨ho, rfl⟩), fun h1 _ => by omega⟩
        · refine does_get h hki hwi (by rw [← hkd, h0]) hs ho hpp (fun w2 t2 => ?_)
          rw [← hk] at hs ⊢
          refine (reads_get (h.no t2) hI hK hs ho ht hpp (by omega) (by omega) (by omega) hke).mono ?_
          rintro x w' ⟨b, rfl, rfl, t⟩
          exact ⟨_, rfl, still w' (fun e => by omega) (t2.trans' t)⟩
        · refine does_scan h hki hwi (by rw [← hkd, h0]) hs ho hpp (fun w2 t2 => ?_)
          rw [← hk] at hs ⊢
          refine (R.reads_scan (h.no t2) hI hK hs ho ht hpp (by omega) (by omega) (by omega)).mono ?_
          rintro x w' ⟨b, rfl, rfl, t⟩
          exact ⟨_, rfl, still w' (fun e => by omega) (t2.trans' t)⟩
        · refine (does_prepare h hki hwi (by rw [← hkd, h0]) hs ho hpp hI.wf ht hx).mono ?_
          rintro x w' ⟨rfl, A', F', h'⟩
          rw [← hk] at h' hs
          exact ⟨_, rfl, rfl, nq, _, L, _, A', F', K, σ, h', prep_inv hI hs ho ht, hK, hB.set hs (by omega) (by show m.nx ≤ _; omega) (by show m.on.length ≤ _; omega) ⟨by show s.ws.length ≤ _; omega, b5.2.1, by show s.on.length ≤ _; omega⟩, StQ.set (by omega) hs (fun e => ⟨ho, rfl⟩), fun h1 _ => by omega⟩
end Go.Proofs.YtokgihmigkplaaaGreat.F
