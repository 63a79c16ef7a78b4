import Derived.Test.YteaagnlhkopgdaaGreatDoorCName
import Derived.Test.YteaagnlhkopgdaaGreatDoorOrdv
import Derived.Lib.Bytealg
import Derived.BigQuiet
import Derived.Test.YteaagnlhkopgdaaGreatDoorDS0
import Derived.Test.YteaagnlhkopgdaaGreatDoorRVl3
set_option maxHeartbeats 8000000
set_option maxRecDepth 100000
namespace Go.Proofs.YteaagnlhkopgdaaGreatDoor
open Go.RowKit
end Go.Proofs.YteaagnlhkopgdaaGreatDoor
namespace Go.Proofs.YteaagnlhkopgdaaGreatDoor
open Go.RowKit
def oc (a b : Int) : Int := Lib.compareInt a b
end Go.Proofs.YteaagnlhkopgdaaGreatDoor
namespace Go.Proofs.YteaagnlhkopgdaaGreatDoor
open Go.RowKit Go.Sort
theorem rsame_any (xs ys : List Val) (ao bo : Option Addr) (ca cb : Nat) (w : World) (ha : RowOf w ao xs) (hb : RowOf w bo ys) (h1 : xs.length ≤ 9223372036854775807) :
    Calls Tryz.prog 45 #[.slice ao xs.length ca, .slice bo ys.length cb] w fun x w' => EqOut xs ys w x w' := by
  by_cases hl : xs.length = ys.length
  · have HA : Hid (∀ m, RowOf (w.drewN m) ao xs) := fun m => ha.no ((Tch.refl _ w).drewN m)
    have HB : Hid (∀ m, RowOf (w.drewN m) bo ys) := fun m => hb.no ((Tch.refl _ w).drewN m)
    have HL : Hid (xs.length = ys.length) := hl
    obtain ⟨n, hn⟩ : ∃ n, n = xs.length := ⟨_, rfl⟩
    have hn2 : n = ys.length := by omega
    rw [← hn, ← hn2]
    have HN : Hid (n = xs.length ∧ n = ys.length) := ⟨hn, hn2⟩
    rw [← hn] at h1
    clear ha hb hl hn hn2
    go_enter Tryz.func45, Tryz.ntmps45
    go_wp2_with fail
    go_loopw [5] (fun i wr => ∃ (k m : Nat), i = .int .i64 k ∧ k ≤ n ∧ Hid (∀ j (h1 : j < xs.length) (h2 : j < ys.length), j < k → xs[j] = ys[j]) ∧ wr = w.drewN m) (fun i _ => n - (intOf i).toNat)
    case atStart => exact ⟨0, 0, rfl, by omega, fun j _ _ h => by omega, rfl⟩
    case round =>
      obtain ⟨k, m, rfl, hk, HE, hwr⟩ := hrel
      by_cases hlt : (k : Int) < n
      · have hA := HA.out m
        have hB := HB.out m
        rw [← hwr] at hA hB
        have hx : k < xs.length := by have := HN.out.1; omega
        have hy : k < ys.length := by have := HN.out.2; omega
        obtain ⟨ga, oa, rfl, hra⟩ := hA (by intro e; rw [e] at hx; simp at hx)
        obtain ⟨gb, ob, rfl, hrb⟩ := hB (by intro e; rw [e] at hy; simp at hy)
        obtain ⟨a0, a1, a2⟩ := hra k hx
        obtain ⟨b0, b1, b2⟩ := hrb k hy
        have HW : Hid (wr = w.drewN m) := hwr
        obtain ⟨u, hu⟩ : ∃ u, u = xs[k] := ⟨_, rfl⟩
        obtain ⟨v, hv⟩ : ∃ v, v = ys[k] := ⟨_, rfl⟩
        rw [← hu] at a0 a1 a2
        rw [← hv] at b0 b1 b2
        have HU : Hid (u = xs[k] ∧ v = ys[k]) := ⟨hu, hv⟩
        clear hA hB hra hrb hwr hu hv
        obtain ⟨d, hd1, hd⟩ := ne_val u v
        have HD : Hid (d = true ↔ u ≠ v) := hd1
        clear hd1
        cases d with
        | true =>
          go_wp2_with fail
          go_quiet (fail)
          go_wp2
          go_ret
          refine ⟨false, rfl, ⟨fun h => by simp at h, fun h => ?_⟩, m + nq, by rw [HW.out, World.drewN_drewN]⟩
          exact absurd (by rw [HU.out.1, HU.out.2]; subst h; rfl) (HD.out.1 (by trivial))
        | false =>
          have HE2 : Hid (∀ j (h1 : j < xs.length) (h2 : j < ys.length), j < k + 1 → xs[j] = ys[j]) := fun j h1 h2 hj => by
            rcases Nat.lt_or_ge j k with h | h
            · exact HE.out j h1 h2 h
            · obtain rfl : j = k := by omega
              rw [← HU.out.1, ← HU.out.2]
              exact Classical.byContradiction fun hne => by have := HD.out.2 hne; simp at this
          go_wp2_with fail
          go_quiet (fail)
          go_wp2
          go_roundw
          case rel => exact ⟨k + 1, m + nq, by go_num, by omega, HE2, by rw [HW.out, World.drewN_drewN]⟩
          case measure => simp [intOf]; omega
      · have HW : Hid (wr = w.drewN m) := hwr
        clear hwr
        go_wp2
        go_ret
        refine ⟨true, rfl, ⟨fun _ => ?_, fun _ => rfl⟩, m, HW.out⟩
        exact List.ext_getElem HL.out (fun j h1 h2 => HE.out j h1 h2 (by have := HN.out.1; omega))
  · have hl' : ((xs.length : Int) != ys.length) = true := by simp; omega
    clear ha hb
    go_enter Tryz.func45, Tryz.ntmps45
    go_wp2
    go_ret
    exact ⟨false, rfl, ⟨fun h => by simp at h, fun h => absurd (by rw [h]) hl⟩, 0, rfl⟩
end Go.Proofs.YteaagnlhkopgdaaGreatDoor
namespace Go.Proofs.YteaagnlhkopgdaaGreatDoor.C
open Go.RowKit Go Go.Sort
theorem rnumber_any (n : Int) (w : World) : Calls Tryz.prog 35 #[.int .i64 n] w fun x w' => x = .returned (.bool (decide (rtN n))) ∧ w' = w := by
  go_enter Tryz.func35, Tryz.ntmps35
  go_wp2
  all_goals (go_ret; refine ⟨vret_bool (bd ?_), rfl⟩; unfold rtN; simp; omega)
theorem rplace_any (n : Int) (w : World) : Calls Tryz.prog 36 #[.int .i64 n] w fun x w' => x = .returned (.bool (decide (rtP n))) ∧ w' = w := by
  go_enter Tryz.func36, Tryz.ntmps36
  go_wp2
  all_goals (go_ret; refine ⟨vret_bool (bd ?_), rfl⟩; unfold rtP; simp; omega)
theorem rsameM_eq (a b : Rc) (s u : Sk) (F G : Nat → Prop) (w : World) (h1 : RW w F a s) (h2 : RW w G b u) (hl : a.tb.cols.length ≤ 4398046511104) (E1 : a.k = b.k) (E2 : a.x = b.x) (E3 : a.l = b.l) (E4 : a.e = b.e) (E5 : a.t = b.t) : Calls Tryz.prog 23 #[rV a s, rV b u] w fun x w' => EqT (a = b) w x w' := by
  obtain ⟨w0, hw0⟩ : ∃ w0, w0 = (w.alloc (.cells #[.int .i64 a.k, .int .i64 a.x, .int .i64 a.l, .int .i64 a.e, .int .i64 a.t, .int .i64 a.tb.id, .int .i64 a.tb.ver, .string a.tb.nm, .slice s.co a.tb.cols.length s.cc, .int .i64 a.tb.key, .slice s.oo a.o.length s.oc, .slice s.no a.n.length s.nc] 28)).alloc (.cells #[.int .i64 b.k, .int .i64 b.x, .int .i64 b.l, .int .i64 b.e, .int .i64 b.t, .int .i64 b.tb.id, .int .i64 b.tb.ver, .string b.tb.nm, .slice u.co b.tb.cols.length u.cc, .int .i64 b.tb.key, .slice u.oo b.o.length u.oc, .slice u.no b.n.length u.nc] 28) := ⟨_, rfl⟩
  have t0 : Tch (fun _ => False) w w0 := by rw [hw0]; exact (Tch.alloc _ _ _).allocR _
  have bA : w0.heap[w.heap.size]? = some (.cells #[.int .i64 a.k, .int .i64 a.x, .int .i64 a.l, .int .i64 a.e, .int .i64 a.t, .int .i64 a.tb.id, .int .i64 a.tb.ver, .string a.tb.nm, .slice s.co a.tb.cols.length s.cc, .int .i64 a.tb.key, .slice s.oo a.o.length s.oc, .slice s.no a.n.length s.nc] 28 (0, 0)) := by
    rw [hw0]; exact ((Tch.alloc (fun _ => False) _ _).block _ (by simp) (fun h => h)).trans (heap_new w _)
  have bB : w0.heap[w.heap.size + 1]? = some (.cells #[.int .i64 b.k, .int .i64 b.x, .int .i64 b.l, .int .i64 b.e, .int .i64 b.t, .int .i64 b.tb.id, .int .i64 b.tb.ver, .string b.tb.nm, .slice u.co b.tb.cols.length u.cc, .int .i64 b.tb.key, .slice u.oo b.o.length u.oc, .slice u.no b.n.length u.nc] 28 (0, 0)) := by
    rw [hw0, ← World.size_alloc]; exact heap_new _ _
  have HK : Hid (∀ W, Tch (fun _ => False) w0 W → W.heap[w.heap.size]? = some (.cells #[.int .i64 a.k, .int .i64 a.x, .int .i64 a.l, .int .i64 a.e, .int .i64 a.t, .int .i64 a.tb.id, .int .i64 a.tb.ver, .string a.tb.nm, .slice s.co a.tb.cols.length s.cc, .int .i64 a.tb.key, .slice s.oo a.o.length s.oc, .slice s.no a.n.length s.nc] 28 (0, 0)) ∧ W.heap[w.heap.size + 1]? = some (.cells #[.int .i64 b.k, .int .i64 b.x, .int .i64 b.l, .int .i64 b.e, .int .i64 b.t, .int .i64 b.tb.id, .int .i64 b.tb.ver, .string b.tb.nm, .slice u.co b.tb.cols.length u.cc, .int .i64 b.tb.key, .slice u.oo b.o.length u.oc, .slice u.no b.n.length u.nc] 28 (0, 0))) := fun W t =>
    ⟨(t.block _ (blk_lt bA) (fun h => h)).trans bA, (t.block _ (blk_lt bB) (fun h => h)).trans bB⟩
  have HO : Hid (∀ W, Tch (fun _ => False) w W → Calls Tryz.prog 45 #[.slice s.oo a.o.length s.oc, .slice u.oo b.o.length u.oc] W fun x w' => EqT (a.o = b.o) W x w') := fun W t => eqT_of <| rsame_any a.o b.o s.oo u.oo s.oc u.oc W (h1.no t).o.row (h2.no t).o.row h1.ol
  have HN : Hid (∀ W, Tch (fun _ => False) w W → Calls Tryz.prog 45 #[.slice s.no a.n.length s.nc, .slice u.no b.n.length u.nc] W fun x w' => EqT (a.n = b.n) W x w') := fun W t => eqT_of <| rsame_any a.n b.n s.no u.no s.nc u.nc W (h1.no t).n.row (h2.no t).n.row h1.nl
  have HT : Hid (∀ W, Tch (fun _ => False) w W → Calls Tryz.prog 44 #[tA a.tb.id a.tb.ver a.tb.nm (.slice s.co a.tb.cols.length s.cc) a.tb.key, tA b.tb.id b.tb.ver b.tb.nm (.slice u.co b.tb.cols.length u.cc) b.tb.key] W fun x w' => EqT (a.tb = b.tb) W x w') := fun W t => rsameT_any a.tb b.tb s.co u.co s.cc u.cc W (h1.no t).tb.sl (h2.no t).tb.sl hl
  have HT0 : Hid (Tch (fun _ => False) w w0) := t0
  have HW0 : Hid (w0 = (w.alloc (.cells #[.int .i64 a.k, .int .i64 a.x, .int .i64 a.l, .int .i64 a.e, .int .i64 a.t, .int .i64 a.tb.id, .int .i64 a.tb.ver, .string a.tb.nm, .slice s.co a.tb.cols.length s.cc, .int .i64 a.tb.key, .slice s.oo a.o.length s.oc, .slice s.no a.n.length s.nc] 28)).alloc (.cells #[.int .i64 b.k, .int .i64 b.x, .int .i64 b.l, .int .i64 b.e, .int .i64 b.t, .int .i64 b.tb.id, .int .i64 b.tb.ver, .string b.tb.nm, .slice u.co b.tb.cols.length u.cc, .int .i64 b.tb.key, .slice u.oo b.o.length u.oc, .slice u.no b.n.length u.nc] 28)) := hw0
  clear h1 h2 hl bA bB t0 hw0
  have HE : Hid (a.k = b.k ∧ a.x = b.x ∧ a.l = b.l ∧ a.e = b.e ∧ a.t = b.t) := ⟨E1, E2, E3, E4, E5⟩
  clear E1 E2 E3 E4 E5
  go_enter Tryz.func23, Tryz.ntmps23
  go_wp2_with fail
  have qo := HT.out w0 HT0.out
  rw [HW0.out] at qo
  refine qo.mono ?_
  rintro x w1 ⟨d1, rfl, hd1, t1⟩
  rw [← HW0.out] at t1
  have D1 : Hid (d1 = true ↔ a.tb = b.tb) := hd1
  clear qo hd1
  have T1 : Tch (fun _ => False) w w1 := HT0.out.trans' t1
  obtain ⟨bA, bB⟩ := HK.out w1 t1
  have a10 := blk_cell bA 10
  have b10 := blk_cell bB 10
  simp only [List.getElem?_toArray, List.getElem?_cons_succ, List.getElem?_cons_zero] at a10 b10
  clear bA bB
  go_wp2_with fail
  refine (HO.out w1 T1).mono ?_
  rintro x w2 ⟨d2, rfl, hd2, t2⟩
  have D2 : Hid (d2 = true ↔ a.o = b.o) := hd2
  have T2 := T1.trans' t2
  have U2 := t1.trans' t2
  clear hd2 a10 b10 t2 t1 T1
  obtain ⟨bA, bB⟩ := HK.out w2 U2
  have a11 := blk_cell bA 11
  have b11 := blk_cell bB 11
  simp only [List.getElem?_toArray, List.getElem?_cons_succ, List.getElem?_cons_zero] at a11 b11
  clear bA bB
  go_wp2_with fail
  refine (HN.out w2 T2).mono ?_
  rintro x w3 ⟨d3, rfl, hd3, t3⟩
  have D3 : Hid (d3 = true ↔ a.n = b.n) := hd3
  have T3 := T2.trans' t3
  have U3 := U2.trans' t3
  clear hd3 t3 T2 U2 a11 b11
  obtain ⟨bA, bB⟩ := HK.out w3 U3
  have a0 := blk_cell bA 0
  have b0 := blk_cell bB 0
  have a1 := blk_cell bA 1
  have b1 := blk_cell bB 1
  have a2 := blk_cell bA 2
  have b2 := blk_cell bB 2
  have a3 := blk_cell bA 3
  have b3 := blk_cell bB 3
  have a4 := blk_cell bA 4
  have b4 := blk_cell bB 4
  simp only [List.getElem?_toArray, List.getElem?_cons_succ, List.getElem?_cons_zero] at a0 b0 a1 b1 a2 b2 a3 b3 a4 b4
  clear bA bB
  rw [HE.out.1] at a0
  rw [HE.out.2.1] at a1
  rw [HE.out.2.2.1] at a2
  rw [HE.out.2.2.2.1] at a3
  rw [HE.out.2.2.2.2] at a4
  have R : ∀ d : Bool, (d = true ↔ a = b) → EqT (a = b) w (.returned (.bool d)) w3 := fun d hd => ⟨d, rfl, hd, T3⟩
  have HR : Hid _ := R
  clear R
  have HI : Hid (a = b ↔ d1 = true ∧ d2 = true ∧ d3 = true) := ⟨fun e => ⟨D1.out.2 (by rw [e]), D2.out.2 (by rw [e]), D3.out.2 (by rw [e])⟩, fun ⟨e1, e2, e3⟩ => Rc.ext' ⟨HE.out.1, HE.out.2.1, HE.out.2.2.1, HE.out.2.2.2.1, HE.out.2.2.2.2, D1.out.1 e1, D2.out.1 e2, D3.out.1 e3⟩⟩
  clear T3 U3 D1 D2 D3
  cases d1 <;> cases d2 <;> cases d3
  all_goals
    go_wp2_with fail
    go_ret
    first
      | exact HR.out true ⟨fun _ => HI.out.2 (by simp), fun _ => rfl⟩
      | exact HR.out false ⟨fun h => (by cases h), fun h => (by have := HI.out.1 h; simp at this)⟩
theorem rsameM_ne (a b : Rc) (s u : Sk) (F G : Nat → Prop) (w : World) (h1 : RW w F a s) (h2 : RW w G b u) (hl : a.tb.cols.length ≤ 4398046511104) (hne : ¬ (a.k = b.k ∧ a.x = b.x ∧ a.l = b.l ∧ a.e = b.e ∧ a.t = b.t)) : Calls Tryz.prog 23 #[rV a s, rV b u] w fun x w' => EqT (a = b) w x w' := by
  obtain ⟨w0, hw0⟩ : ∃ w0, w0 = (w.alloc (.cells #[.int .i64 a.k, .int .i64 a.x, .int .i64 a.l, .int .i64 a.e, .int .i64 a.t, .int .i64 a.tb.id, .int .i64 a.tb.ver, .string a.tb.nm, .slice s.co a.tb.cols.length s.cc, .int .i64 a.tb.key, .slice s.oo a.o.length s.oc, .slice s.no a.n.length s.nc] 28)).alloc (.cells #[.int .i64 b.k, .int .i64 b.x, .int .i64 b.l, .int .i64 b.e, .int .i64 b.t, .int .i64 b.tb.id, .int .i64 b.tb.ver, .string b.tb.nm, .slice u.co b.tb.cols.length u.cc, .int .i64 b.tb.key, .slice u.oo b.o.length u.oc, .slice u.no b.n.length u.nc] 28) := ⟨_, rfl⟩
  have t0 : Tch (fun _ => False) w w0 := by rw [hw0]; exact (Tch.alloc _ _ _).allocR _
  have bA : w0.heap[w.heap.size]? = some (.cells #[.int .i64 a.k, .int .i64 a.x, .int .i64 a.l, .int .i64 a.e, .int .i64 a.t, .int .i64 a.tb.id, .int .i64 a.tb.ver, .string a.tb.nm, .slice s.co a.tb.cols.length s.cc, .int .i64 a.tb.key, .slice s.oo a.o.length s.oc, .slice s.no a.n.length s.nc] 28 (0, 0)) := by
    rw [hw0]; exact ((Tch.alloc (fun _ => False) _ _).block _ (by simp) (fun h => h)).trans (heap_new w _)
  have bB : w0.heap[w.heap.size + 1]? = some (.cells #[.int .i64 b.k, .int .i64 b.x, .int .i64 b.l, .int .i64 b.e, .int .i64 b.t, .int .i64 b.tb.id, .int .i64 b.tb.ver, .string b.tb.nm, .slice u.co b.tb.cols.length u.cc, .int .i64 b.tb.key, .slice u.oo b.o.length u.oc, .slice u.no b.n.length u.nc] 28 (0, 0)) := by
    rw [hw0, ← World.size_alloc]; exact heap_new _ _
  have HK : Hid (∀ W, Tch (fun _ => False) w0 W → W.heap[w.heap.size]? = some (.cells #[.int .i64 a.k, .int .i64 a.x, .int .i64 a.l, .int .i64 a.e, .int .i64 a.t, .int .i64 a.tb.id, .int .i64 a.tb.ver, .string a.tb.nm, .slice s.co a.tb.cols.length s.cc, .int .i64 a.tb.key, .slice s.oo a.o.length s.oc, .slice s.no a.n.length s.nc] 28 (0, 0)) ∧ W.heap[w.heap.size + 1]? = some (.cells #[.int .i64 b.k, .int .i64 b.x, .int .i64 b.l, .int .i64 b.e, .int .i64 b.t, .int .i64 b.tb.id, .int .i64 b.tb.ver, .string b.tb.nm, .slice u.co b.tb.cols.length u.cc, .int .i64 b.tb.key, .slice u.oo b.o.length u.oc, .slice u.no b.n.length u.nc] 28 (0, 0))) := fun W t =>
    ⟨(t.block _ (blk_lt bA) (fun h => h)).trans bA, (t.block _ (blk_lt bB) (fun h => h)).trans bB⟩
  have HO : Hid (∀ W, Tch (fun _ => False) w W → Calls Tryz.prog 45 #[.slice s.oo a.o.length s.oc, .slice u.oo b.o.length u.oc] W fun x w' => EqT (a.o = b.o) W x w') := fun W t => eqT_of <| rsame_any a.o b.o s.oo u.oo s.oc u.oc W (h1.no t).o.row (h2.no t).o.row h1.ol
  have HN : Hid (∀ W, Tch (fun _ => False) w W → Calls Tryz.prog 45 #[.slice s.no a.n.length s.nc, .slice u.no b.n.length u.nc] W fun x w' => EqT (a.n = b.n) W x w') := fun W t => eqT_of <| rsame_any a.n b.n s.no u.no s.nc u.nc W (h1.no t).n.row (h2.no t).n.row h1.nl
  have HT : Hid (∀ W, Tch (fun _ => False) w W → Calls Tryz.prog 44 #[tA a.tb.id a.tb.ver a.tb.nm (.slice s.co a.tb.cols.length s.cc) a.tb.key, tA b.tb.id b.tb.ver b.tb.nm (.slice u.co b.tb.cols.length u.cc) b.tb.key] W fun x w' => EqT (a.tb = b.tb) W x w') := fun W t => rsameT_any a.tb b.tb s.co u.co s.cc u.cc W (h1.no t).tb.sl (h2.no t).tb.sl hl
  have HT0 : Hid (Tch (fun _ => False) w w0) := t0
  have HW0 : Hid (w0 = (w.alloc (.cells #[.int .i64 a.k, .int .i64 a.x, .int .i64 a.l, .int .i64 a.e, .int .i64 a.t, .int .i64 a.tb.id, .int .i64 a.tb.ver, .string a.tb.nm, .slice s.co a.tb.cols.length s.cc, .int .i64 a.tb.key, .slice s.oo a.o.length s.oc, .slice s.no a.n.length s.nc] 28)).alloc (.cells #[.int .i64 b.k, .int .i64 b.x, .int .i64 b.l, .int .i64 b.e, .int .i64 b.t, .int .i64 b.tb.id, .int .i64 b.tb.ver, .string b.tb.nm, .slice u.co b.tb.cols.length u.cc, .int .i64 b.tb.key, .slice u.oo b.o.length u.oc, .slice u.no b.n.length u.nc] 28)) := hw0
  clear h1 h2 hl bA bB t0 hw0
  have HNE : Hid (¬ a = b) := fun e => hne (by rw [e]; exact ⟨rfl, rfl, rfl, rfl, rfl⟩)
  go_enter Tryz.func23, Tryz.ntmps23
  go_wp2_with fail
  have qo := HT.out w0 HT0.out
  rw [HW0.out] at qo
  refine qo.mono ?_
  rintro x w1 ⟨d1, rfl, hd1, t1⟩
  rw [← HW0.out] at t1
  have D1 : Hid (d1 = true ↔ a.tb = b.tb) := hd1
  clear qo hd1
  have T1 : Tch (fun _ => False) w w1 := HT0.out.trans' t1
  obtain ⟨bA, bB⟩ := HK.out w1 t1
  have a10 := blk_cell bA 10
  have b10 := blk_cell bB 10
  simp only [List.getElem?_toArray, List.getElem?_cons_succ, List.getElem?_cons_zero] at a10 b10
  clear bA bB
  go_wp2_with fail
  refine (HO.out w1 T1).mono ?_
  rintro x w2 ⟨d2, rfl, hd2, t2⟩
  have D2 : Hid (d2 = true ↔ a.o = b.o) := hd2
  have T2 := T1.trans' t2
  have U2 := t1.trans' t2
  clear hd2 a10 b10 t2 t1 T1
  obtain ⟨bA, bB⟩ := HK.out w2 U2
  have a11 := blk_cell bA 11
  have b11 := blk_cell bB 11
  simp only [List.getElem?_toArray, List.getElem?_cons_succ, List.getElem?_cons_zero] at a11 b11
  clear bA bB
  go_wp2_with fail
  refine (HN.out w2 T2).mono ?_
  rintro x w3 ⟨d3, rfl, hd3, t3⟩
  have D3 : Hid (d3 = true ↔ a.n = b.n) := hd3
  have T3 := T2.trans' t3
  have U3 := U2.trans' t3
  clear hd3 t3 T2 U2 a11 b11
  obtain ⟨bA, bB⟩ := HK.out w3 U3
  have a0 := blk_cell bA 0
  have b0 := blk_cell bB 0
  have a1 := blk_cell bA 1
  have b1 := blk_cell bB 1
  have a2 := blk_cell bA 2
  have b2 := blk_cell bB 2
  have a3 := blk_cell bA 3
  have b3 := blk_cell bB 3
  have a4 := blk_cell bA 4
  have b4 := blk_cell bB 4
  simp only [List.getElem?_toArray, List.getElem?_cons_succ, List.getElem?_cons_zero] at a0 b0 a1 b1 a2 b2 a3 b3 a4 b4
  clear bA bB
  clear U3
  by_cases e1 : a.k = b.k
  · rw [e1] at a0
    by_cases e2 : a.x = b.x
    · rw [e2] at a1
      by_cases e3 : a.l = b.l
      · rw [e3] at a2
        by_cases e4 : a.e = b.e
        · rw [e4] at a3
          by_cases e5 : a.t = b.t
          · exact absurd ⟨e1, e2, e3, e4, e5⟩ hne
          · have e5' := int_ne e5
            clear e1 e2 e3 e4 e5 hne
            go_wp2_with fail
            go_ret
            exact eqT_no HNE.out T3
        · have e4' := int_ne e4
          clear e1 e2 e3 e4 hne
          go_wp2_with fail
          go_ret
          exact eqT_no HNE.out T3
      · have e3' := int_ne e3
        clear e1 e2 e3 hne
        go_wp2_with fail
        go_ret
        exact eqT_no HNE.out T3
    · have e2' := int_ne e2
      clear e1 e2 hne
      go_wp2_with fail
      go_ret
      exact eqT_no HNE.out T3
  · have e1' := int_ne e1
    clear e1 hne
    go_wp2_with fail
    go_ret
    exact eqT_no HNE.out T3
theorem rsameM_any (a b : Rc) (s u : Sk) (F G : Nat → Prop) (w : World) (h1 : RW w F a s) (h2 : RW w G b u) (hl : a.tb.cols.length ≤ 4398046511104) : Calls Tryz.prog 23 #[rV a s, rV b u] w fun x w' => EqT (a = b) w x w' := by
  by_cases h : a.k = b.k ∧ a.x = b.x ∧ a.l = b.l ∧ a.e = b.e ∧ a.t = b.t
  · exact rsameM_eq a b s u F G w h1 h2 hl h.1 h.2.1 h.2.2.1 h.2.2.2.1 h.2.2.2.2
  · exact rsameM_ne a b s u F G w h1 h2 hl h
end Go.Proofs.YteaagnlhkopgdaaGreatDoor.C
namespace Go.Proofs.YteaagnlhkopgdaaGreatDoor.C
open Go.RowKit Go Go.Sort
theorem bare_1 (r : Rc) (s : Sk) (w : World) (hk : r.k = 1) : Calls Tryz.prog 33 #[rV r s] w fun x w' => x = .returned (rV (cutC 1 r) (cutS 1 s)) ∧ Tch (fun _ => False) w w' := by
  obtain ⟨k, rx, rl, re, rt, rb, ro, rn⟩ := r
  simp only at hk
  subst hk
  go_enter Tryz.func33, Tryz.ntmps33
  go_wp2_with fail
  have hrs : Tryz.f33.results = #[.cell 2 28] := by kernel_rfl
  refine bodyPost_ret (v := rV (cutC 1 ⟨1, rx, rl, re, rt, rb, ro, rn⟩) (cutS 1 s)) (by simp only [results, hrs]; go_simp; (repeat' apply And.intro) <;> rfl) rfl ⟨rfl, ?_⟩
  exact ((Tch.alloc _ _ _).allocR _).allocR _
theorem bare_2 (r : Rc) (s : Sk) (w : World) (hk : r.k = 2) : Calls Tryz.prog 33 #[rV r s] w fun x w' => x = .returned (rV (cutC 2 r) (cutS 2 s)) ∧ Tch (fun _ => False) w w' := by
  obtain ⟨k, rx, rl, re, rt, rb, ro, rn⟩ := r
  simp only at hk
  subst hk
  go_enter Tryz.func33, Tryz.ntmps33
  go_wp2_with fail
  have hrs : Tryz.f33.results = #[.cell 2 28] := by kernel_rfl
  refine bodyPost_ret (v := rV (cutC 2 ⟨2, rx, rl, re, rt, rb, ro, rn⟩) (cutS 2 s)) (by simp only [results, hrs]; go_simp; (repeat' apply And.intro) <;> rfl) rfl ⟨rfl, ?_⟩
  exact ((Tch.alloc _ _ _).allocR _).allocR _
theorem bare_3 (r : Rc) (s : Sk) (w : World) (hk : r.k = 3) : Calls Tryz.prog 33 #[rV r s] w fun x w' => x = .returned (rV (cutC 3 r) (cutS 3 s)) ∧ Tch (fun _ => False) w w' := by
  obtain ⟨k, rx, rl, re, rt, rb, ro, rn⟩ := r
  simp only at hk
  subst hk
  go_enter Tryz.func33, Tryz.ntmps33
  go_wp2_with fail
  have hrs : Tryz.f33.results = #[.cell 2 28] := by kernel_rfl
  refine bodyPost_ret (v := rV (cutC 3 ⟨3, rx, rl, re, rt, rb, ro, rn⟩) (cutS 3 s)) (by simp only [results, hrs]; go_simp; (repeat' apply And.intro) <;> rfl) rfl ⟨rfl, ?_⟩
  exact ((Tch.alloc _ _ _).allocR _).allocR _
theorem bare_4 (r : Rc) (s : Sk) (w : World) (hk : r.k = 4) : Calls Tryz.prog 33 #[rV r s] w fun x w' => x = .returned (rV (cutC 4 r) (cutS 4 s)) ∧ Tch (fun _ => False) w w' := by
  obtain ⟨k, rx, rl, re, rt, rb, ro, rn⟩ := r
  simp only at hk
  subst hk
  go_enter Tryz.func33, Tryz.ntmps33
  go_wp2_with fail
  have hrs : Tryz.f33.results = #[.cell 2 28] := by kernel_rfl
  refine bodyPost_ret (v := rV (cutC 4 ⟨4, rx, rl, re, rt, rb, ro, rn⟩) (cutS 4 s)) (by simp only [results, hrs]; go_simp; (repeat' apply And.intro) <;> rfl) rfl ⟨rfl, ?_⟩
  exact ((Tch.alloc _ _ _).allocR _).allocR _
theorem bare_5 (r : Rc) (s : Sk) (w : World) (hk : r.k = 5) : Calls Tryz.prog 33 #[rV r s] w fun x w' => x = .returned (rV (cutC 5 r) (cutS 5 s)) ∧ Tch (fun _ => False) w w' := by
  obtain ⟨k, rx, rl, re, rt, rb, ro, rn⟩ := r
  simp only at hk
  subst hk
  go_enter Tryz.func33, Tryz.ntmps33
  go_wp2_with fail
  have hrs : Tryz.f33.results = #[.cell 2 28] := by kernel_rfl
  refine bodyPost_ret (v := rV (cutC 5 ⟨5, rx, rl, re, rt, rb, ro, rn⟩) (cutS 5 s)) (by simp only [results, hrs]; go_simp; (repeat' apply And.intro) <;> rfl) rfl ⟨rfl, ?_⟩
  exact ((Tch.alloc _ _ _).allocR _).allocR _
theorem bare_6 (r : Rc) (s : Sk) (w : World) (hk : r.k = 6) : Calls Tryz.prog 33 #[rV r s] w fun x w' => x = .returned (rV (cutC 6 r) (cutS 6 s)) ∧ Tch (fun _ => False) w w' := by
  obtain ⟨k, rx, rl, re, rt, rb, ro, rn⟩ := r
  simp only at hk
  subst hk
  go_enter Tryz.func33, Tryz.ntmps33
  go_wp2_with fail
  have hrs : Tryz.f33.results = #[.cell 2 28] := by kernel_rfl
  refine bodyPost_ret (v := rV (cutC 6 ⟨6, rx, rl, re, rt, rb, ro, rn⟩) (cutS 6 s)) (by simp only [results, hrs]; go_simp; (repeat' apply And.intro) <;> rfl) rfl ⟨rfl, ?_⟩
  exact ((Tch.alloc _ _ _).allocR _).allocR _
theorem bare_7 (r : Rc) (s : Sk) (w : World) (hk : r.k = 7) : Calls Tryz.prog 33 #[rV r s] w fun x w' => x = .returned (rV (cutC 7 r) (cutS 7 s)) ∧ Tch (fun _ => False) w w' := by
  obtain ⟨k, rx, rl, re, rt, rb, ro, rn⟩ := r
  simp only at hk
  subst hk
  go_enter Tryz.func33, Tryz.ntmps33
  go_wp2_with fail
  have hrs : Tryz.f33.results = #[.cell 2 28] := by kernel_rfl
  refine bodyPost_ret (v := rV (cutC 7 ⟨7, rx, rl, re, rt, rb, ro, rn⟩) (cutS 7 s)) (by simp only [results, hrs]; go_simp; (repeat' apply And.intro) <;> rfl) rfl ⟨rfl, ?_⟩
  exact ((Tch.alloc _ _ _).allocR _).allocR _
theorem bare_8 (r : Rc) (s : Sk) (w : World) (hk : r.k = 8) : Calls Tryz.prog 33 #[rV r s] w fun x w' => x = .returned (rV (cutC 8 r) (cutS 8 s)) ∧ Tch (fun _ => False) w w' := by
  obtain ⟨k, rx, rl, re, rt, rb, ro, rn⟩ := r
  simp only at hk
  subst hk
  go_enter Tryz.func33, Tryz.ntmps33
  go_wp2_with fail
  have hrs : Tryz.f33.results = #[.cell 2 28] := by kernel_rfl
  refine bodyPost_ret (v := rV (cutC 8 ⟨8, rx, rl, re, rt, rb, ro, rn⟩) (cutS 8 s)) (by simp only [results, hrs]; go_simp; (repeat' apply And.intro) <;> rfl) rfl ⟨rfl, ?_⟩
  exact ((Tch.alloc _ _ _).allocR _).allocR _
theorem bare_9 (r : Rc) (s : Sk) (w : World) (hk : r.k = 9) : Calls Tryz.prog 33 #[rV r s] w fun x w' => x = .returned (rV (cutC 8 r) (cutS 8 s)) ∧ Tch (fun _ => False) w w' := by
  obtain ⟨k, rx, rl, re, rt, rb, ro, rn⟩ := r
  simp only at hk
  subst hk
  go_enter Tryz.func33, Tryz.ntmps33
  go_wp2_with fail
  have hrs : Tryz.f33.results = #[.cell 2 28] := by kernel_rfl
  refine bodyPost_ret (v := rV (cutC 8 ⟨9, rx, rl, re, rt, rb, ro, rn⟩) (cutS 8 s)) (by simp only [results, hrs]; go_simp; (repeat' apply And.intro) <;> rfl) rfl ⟨rfl, ?_⟩
  exact ((Tch.alloc _ _ _).allocR _).allocR _
theorem bare_no (r : Rc) (s : Sk) (w : World) (hk : ¬ (1 ≤ r.k ∧ r.k ≤ 9)) : Calls Tryz.prog 33 #[rV r s] w fun x w' => x = .returned (rV (rc0 r.k) sk0) ∧ Tch (fun _ => False) w w' := by
  have e1 : (r.k == 1) = false := int_ne (by omega)
  have e2 : (r.k == 2) = false := int_ne (by omega)
  have e3 : (r.k == 3) = false := int_ne (by omega)
  have e4 : (r.k == 4) = false := int_ne (by omega)
  have e5 : (r.k == 5) = false := int_ne (by omega)
  have e6 : (r.k == 6) = false := int_ne (by omega)
  have e7 : (r.k == 7) = false := int_ne (by omega)
  have e8 : (r.k == 8) = false := int_ne (by omega)
  have e9 : (r.k == 9) = false := int_ne (by omega)
  clear hk
  go_enter Tryz.func33, Tryz.ntmps33
  go_wp2_with fail
  have hrs : Tryz.f33.results = #[.cell 2 28] := by kernel_rfl
  refine bodyPost_ret (v := rV (rc0 r.k) sk0) (by simp only [results, hrs]; go_simp; (repeat' apply And.intro) <;> rfl) rfl ⟨rfl, ?_⟩
  exact ((Tch.alloc _ _ _).allocR _).allocR _
theorem bare_any (r : Rc) (s : Sk) (w : World) : Calls Tryz.prog 33 #[rV r s] w fun x w' => x = .returned (rV (cutC (cls r.k) r) (cutS (cls r.k) s)) ∧ Tch (fun _ => False) w w' := by
  by_cases hk : 1 ≤ r.k ∧ r.k ≤ 9
  · have h15 : r.k = 1 ∨ r.k = 2 ∨ r.k = 3 ∨ r.k = 4 ∨ r.k = 5 ∨ r.k = 6 ∨ r.k = 7 ∨ r.k = 8 ∨ r.k = 9 := by omega
    rcases h15 with h | h | h | h | h | h | h | h | h
    · have e : cls r.k = 1 := by rw [h]; rfl
      rw [e]; exact bare_1 r s w h
    · have e : cls r.k = 2 := by rw [h]; rfl
      rw [e]; exact bare_2 r s w h
    · have e : cls r.k = 3 := by rw [h]; rfl
      rw [e]; exact bare_3 r s w h
    · have e : cls r.k = 4 := by rw [h]; rfl
      rw [e]; exact bare_4 r s w h
    · have e : cls r.k = 5 := by rw [h]; rfl
      rw [e]; exact bare_5 r s w h
    · have e : cls r.k = 6 := by rw [h]; rfl
      rw [e]; exact bare_6 r s w h
    · have e : cls r.k = 7 := by rw [h]; rfl
      rw [e]; exact bare_7 r s w h
    · have e : cls r.k = 8 := by rw [h]; rfl
      rw [e]; exact bare_8 r s w h
    · have e : cls r.k = 8 := by rw [h]; rfl
      rw [e]; exact bare_9 r s w h
  · rw [cls_no _ hk]; exact bare_no r s w hk
end Go.Proofs.YteaagnlhkopgdaaGreatDoor.C
