import Derived.Test.YtjiblajnfnmjnaaGreatDoorLE4
import Derived.Deep.CutBlock
import Derived.Deep.DeepCutAuto
import Derived.BigQuiet
import Derived.Test.YtjiblajnfnmjnaaGreatDoorRV5
import Derived.Test.YtjiblajnfnmjnaaGreatDoorVLift
set_option maxHeartbeats 8000000
set_option maxRecDepth 100000
namespace Go.Proofs.YtjiblajnfnmjnaaGreatDoor.C
open Go.RowKit Go Go.Sort
theorem take_get {α : Type} {l m : List α} {k j : Nat} (h : l.take k = m) (hj : j < m.length) : l[j]? = m[j]? := by
  have hk : j < k := by rw [← h, List.length_take] at hj; omega
  rw [← h, List.getElem?_take_of_lt hk]
theorem arr_get {cur : Array Value} {m : List Value} {k j : Nat} {u : Value} (h : cur.toList.take k = m) (hu : m[j]? = some u) : cur[j]? = some u := by
  obtain ⟨hj, _⟩ := List.getElem?_eq_some_iff.1 hu
  rw [← Array.getElem?_toList, take_get h hj]; exact hu
theorem MR.mark {W : World} {base g cap n : Nat} {l : List Val} (h : MR W base l (.slice (some ⟨g, 0, none⟩) n cap)) : n = l.length ∧ n + 1 ≤ cap ∧ W.cell? ⟨g, n * 3, none⟩ = some (.int .i64 (-7)) := by
  obtain ⟨g', cap', cur, e, h1, h2, h3, h4⟩ := h
  simp only [Value.slice.injEq, Option.some.injEq, Addr.mk.injEq, and_true] at e
  obtain ⟨rfl, rfl, rfl⟩ := e
  refine ⟨rfl, h2, ?_⟩
  rw [blk_cell h3]
  refine arr_get h4 ?_
  have e1 : vcl (l ++ [mkV]) = vcl l ++ vcl [mkV] := by unfold vcl; simp [f3]
  rw [e1, List.getElem?_append_right (by rw [vcl_len]; exact Nat.le_refl _), vcl_len]
  simp; rfl
theorem ML.mark {W : World} {base g cap n : Nat} {l : List Col} (h : ML W base l (.slice (some ⟨g, 0, none⟩) n cap)) : n = l.length ∧ n + 1 ≤ cap ∧ W.cell? ⟨g, n * 3 + 1, none⟩ = some (.int .i64 (-7)) := by
  obtain ⟨g', cap', cur, e, h1, h2, h3, h4⟩ := h
  simp only [Value.slice.injEq, Option.some.injEq, Addr.mk.injEq, and_true] at e
  obtain ⟨rfl, rfl, rfl⟩ := e
  refine ⟨rfl, h2, ?_⟩
  rw [blk_cell h3]
  refine arr_get h4 ?_
  rw [ccl_snoc, List.getElem?_append_right (by rw [ccl_len]; omega), ccl_len]
  simp; rfl
theorem LTab.mark {W : World} {base g cap n : Nat} {P : List (Tbl × Value)} (h : LTab W base P (.slice (some ⟨g, 0, none⟩) n cap)) : n = P.length ∧ n + 1 ≤ cap ∧ W.cell? ⟨g, n * 5, none⟩ = some (.int .i64 (-7)) ∧ ∀ k (hk : k < P.length), W.cell? ⟨g, k * 5 + 3, none⟩ = some P[k].2 := by
  rcases h with ⟨_, e⟩ | ⟨g', cap', cur, e, h1, h2, h3, h4⟩
  · simp at e
  simp only [Value.slice.injEq, Option.some.injEq, Addr.mk.injEq, and_true] at e
  obtain ⟨rfl, rfl, rfl⟩ := e
  refine ⟨rfl, h2, ?_, fun k hk => ?_⟩
  · rw [blk_cell h3]
    refine arr_get h4 ?_
    rw [tcl_append, List.getElem?_append_right (by rw [tcl_len]; exact Nat.le_refl _), tcl_len]
    simp; rfl
  · rw [blk_cell h3]
    refine arr_get h4 ?_
    rw [tcl_get _ k 3 (by simp; omega) (by omega), List.getElem_append_left hk]
    rfl
theorem marks_any (r : Rc) (s : Sk) (base : Nat) (w : World) (h : LW w base r s) (hsz : SZ r) : Calls Tryz.prog 20 #[rV r s] w fun x w' => x = .returned (.bool true) ∧ Tch (fun _ => False) w w' := by
  obtain ⟨w1, hw1⟩ : ∃ w1, w1 = w.alloc (.cells (boxR r (.slice s.oo r.o.length s.oc) (.slice s.no r.n.length s.nc) (.slice s.co r.tb.cols.length s.cc) (.slice s.to s.P.length s.tc)) 37) := ⟨_, rfl⟩
  have b1 : w1.heap[w.heap.size]? = some (.cells (boxR r (.slice s.oo r.o.length s.oc) (.slice s.no r.n.length s.nc) (.slice s.co r.tb.cols.length s.cc) (.slice s.to s.P.length s.tc)) 37 (0, 0)) := by rw [hw1]; exact heap_new w _
  have t1 : Tch (fun _ => False) w w1 := by rw [hw1]; exact Tch.alloc _ _ _
  have HK : Hid (∀ W, Tch (fun _ => False) w1 W → W.cell? ⟨w.heap.size, 4, none⟩ = some (.slice s.oo r.o.length s.oc) ∧ W.cell? ⟨w.heap.size, 5, none⟩ = some (.slice s.no r.n.length s.nc) ∧ W.cell? ⟨w.heap.size, 11, none⟩ = some (.slice s.co r.tb.cols.length s.cc) ∧ W.cell? ⟨w.heap.size, 13, none⟩ = some (.slice s.to s.P.length s.tc)) := fun W t => by
    have b := (t.block _ (blk_lt b1) (fun h => h)).trans b1
    exact ⟨blk_cell b 4, blk_cell b 5, blk_cell b 11, blk_cell b 13⟩
  have HL : Hid (∀ W, Tch (fun _ => False) w1 W → LRow W base r.o (.slice s.oo r.o.length s.oc) ∧ LRow W base r.n (.slice s.no r.n.length s.nc) ∧ LCol W base r.tb.cols (.slice s.co r.tb.cols.length s.cc)) := fun W t => ⟨h.o.tch (Nat.le_refl _) (t1.trans' t) (fun _ _ h => h), h.n.tch (Nat.le_refl _) (t1.trans' t) (fun _ _ h => h), h.c.tch (Nat.le_refl _) (t1.trans' t) (fun _ _ h => h)⟩
  have HTB : Hid (∀ W, Tch (fun _ => False) w1 W → LTab W base s.P (.slice s.to s.P.length s.tc) ∧ ∀ i (hi : i < s.P.length), LCol W base s.P[i].1.cols s.P[i].2) := fun W t => by
    refine ⟨?_, fun i hi => (h.p i hi).tch (Nat.le_refl _) (t1.trans' t) (fun _ _ h => h)⟩
    rcases h.t with e | ⟨g, cap, cur, e, h1, h2, h3, h4⟩
    · exact Or.inl e
    · exact Or.inr ⟨g, cap, cur, e, h1, h2, ((t1.trans' t).block g (blk_lt h3) (fun h => h)).trans h3, h4⟩
  have HW1 : Hid _ := hw1
  have HT1 : Hid (Tch (fun _ => False) w w1) := t1
  have HSZ : Hid (SZ r) := hsz
  have HPE : Hid (s.P.map Prod.fst = r.tbs) := h.eq
  clear hw1 b1 t1 h hsz
  unfold rV rA
  go_enter Tryz.func20, Tryz.ntmps20
  go_upto_if 8 with fail
  rw [← HW1.out]
  generalize Value.agg #[.int .i64 r.k, .int .i64 r.x, .int .i64 r.p, .int .i64 r.t, .slice s.oo r.o.length s.oc, .slice s.no r.n.length s.nc, .string r.nm, .int .i64 r.org, .int .i64 r.tb.id, .int .i64 r.tb.ver, .string r.tb.nm, .slice s.co r.tb.cols.length s.cc, .int .i64 r.tb.key, .slice s.to s.P.length s.tc] = V0
  obtain ⟨yy, -⟩ := HK.out w1 (Tch.refl _ _)
  go_cut [3] from 6 to 25 (fun ok wx => ok = .bool true ∧ Hid (Tch (fun _ => False) w1 wx))
  case first =>
    have HO := (HL.out w1 (Tch.refl _ _)).1
    obtain ⟨n, hn⟩ : ∃ n, n = r.o.length := ⟨_, rfl⟩
    have hnn : (n : Int) ≤ 4398046511104 := by have := HSZ.out.o; omega
    rw [← hn] at yy HO ⊢
    rcases hoo : s.oo with _ | ad
    · go_wp2_with fail
      go_meet
      case rel => exact ⟨rfl, Tch.refl _ _⟩
    · rw [hoo] at yy HO
      rcases HO with ⟨_, e⟩ | hm
      · simp at e
      · obtain ⟨g, cap, e⟩ : ∃ g cap, Value.slice (some ad) n s.oc = .slice (some ⟨g, 0, none⟩) n cap := by
          obtain ⟨g, cap, cur, e, _⟩ := hm
          exact ⟨g, cap, by rw [e, hn]⟩
        simp only [Value.slice.injEq, Option.some.injEq, true_and] at e
        obtain ⟨rfl, hc⟩ := e
        obtain ⟨-, hcap, hmk⟩ := hm.mark
        have hcap' : (n : Int) + 1 ≤ s.oc := by omega
        clear hm hn hoo
        go_wp2_with fail
        go_quiet (fail)
        go_wp2_with fail
        go_meet
        case rel => exact ⟨rfl, (Tch.refl _ _).drewN _⟩
  case rest =>
    obtain ⟨rfl, HC1⟩ := hcut
    clear yy
    obtain ⟨-, yy, -⟩ := HK.out wc HC1.out
    go_upto_if 28 with fail
    go_cut [3] from 26 to 45 (fun ok wx => ok = .bool true ∧ Hid (Tch (fun _ => False) w1 wx))
    case first =>
      have HO := (HL.out wc HC1.out).2.1
      obtain ⟨n, hn⟩ : ∃ n, n = r.n.length := ⟨_, rfl⟩
      have hnn : (n : Int) ≤ 4398046511104 := by have := HSZ.out.n; omega
      rw [← hn] at yy HO ⊢
      rcases hoo : s.no with _ | ad
      · go_wp2_with fail
        go_meet
        case rel => exact ⟨rfl, HC1.out⟩
      · rw [hoo] at yy HO
        rcases HO with ⟨_, e⟩ | hm
        · simp at e
        · obtain ⟨g, cap, e⟩ : ∃ g cap, Value.slice (some ad) n s.nc = .slice (some ⟨g, 0, none⟩) n cap := by
            obtain ⟨g, cap, cur, e, _⟩ := hm
            exact ⟨g, cap, by rw [e, hn]⟩
          simp only [Value.slice.injEq, Option.some.injEq, true_and] at e
          obtain ⟨rfl, hc⟩ := e
          obtain ⟨-, hcap, hmk⟩ := hm.mark
          have hcap' : (n : Int) + 1 ≤ s.nc := by omega
          clear hm hn hoo
          go_wp2_with fail
          go_quiet (fail)
          go_wp2_with fail
          go_meet
          case rel => exact ⟨rfl, (HC1.out).drewN _⟩
    case rest =>
      obtain ⟨rfl, HC2⟩ := hcut
      clear yy
      obtain ⟨-, -, yy, -⟩ := HK.out wc HC2.out
      go_upto_if 49 with fail
      go_cut [3] from 46 to 69 (fun ok wx => ok = .bool true ∧ Hid (Tch (fun _ => False) w1 wx))
      case first =>
        have HO := (HL.out wc HC2.out).2.2
        obtain ⟨n, hn⟩ : ∃ n, n = r.tb.cols.length := ⟨_, rfl⟩
        have hnn : (n : Int) ≤ 4398046511104 := by have := HSZ.out.c; omega
        rw [← hn] at yy HO ⊢
        rcases hoo : s.co with _ | ad
        · go_wp2_with fail
          go_meet
          case rel => exact ⟨rfl, HC2.out⟩
        · rw [hoo] at yy HO
          rcases HO with ⟨_, e⟩ | hm
          · simp at e
          · obtain ⟨g, cap, e⟩ : ∃ g cap, Value.slice (some ad) n s.cc = .slice (some ⟨g, 0, none⟩) n cap := by
              obtain ⟨g, cap, cur, e, _⟩ := hm
              exact ⟨g, cap, by rw [e, hn]⟩
            simp only [Value.slice.injEq, Option.some.injEq, true_and] at e
            obtain ⟨rfl, hc⟩ := e
            obtain ⟨-, hcap, hmk⟩ := hm.mark
            have hcap' : (n : Int) + 1 ≤ s.cc := by omega
            clear hm hn hoo
            go_wp2_with fail
            go_quiet (fail)
            go_wp2_with fail
            go_meet
            case rel => exact ⟨rfl, (HC2.out).drewN _⟩
      case rest =>
        obtain ⟨rfl, HC3⟩ := hcut
        clear yy
        obtain ⟨-, -, -, yy⟩ := HK.out wc HC3.out
        have HO := (HTB.out wc HC3.out).1
        obtain ⟨n, hn⟩ : ∃ n, n = s.P.length := ⟨_, rfl⟩
        have hnn : (n : Int) ≤ 4398046511104 := by
          have h1 := HSZ.out.t
          have h2 : r.tbs.length = s.P.length := by rw [← HPE.out, List.length_map]
          omega
        rw [← hn] at yy HO
        have HT3 : Hid (Tch (fun _ => False) w wc) := HT1.out.trans' HC3.out
        have HN : Hid (n = s.P.length) := hn
        clear hn
        rcases hoo : s.to with _ | ad
        · rw [hoo] at yy
          clear hoo HO
          go_wp2_with fail
          go_ret
          exact ⟨rfl, HT3.out⟩
        · rw [hoo] at yy HO
          rcases HO with ⟨_, e⟩ | hm
          · simp at e
          obtain ⟨g, cap, e⟩ : ∃ g cap, Value.slice (some ad) n s.tc = .slice (some ⟨g, 0, none⟩) n cap := by
            obtain ⟨g, cap, cur, e, _⟩ := hm
            exact ⟨g, cap, by rw [e, HN.out]⟩
          simp only [Value.slice.injEq, Option.some.injEq, true_and] at e
          obtain ⟨rfl, hc⟩ := e
          obtain ⟨-, hcap, hmk, -⟩ := LTab.mark (Or.inr hm)
          have hcap' : (n : Int) + 1 ≤ s.tc := by omega
          have HOO : Hid (s.to = some ⟨g, 0, none⟩) := hoo
          clear hm hoo
          go_wp2_with fail
          go_quiet (fail)
          go_wp2_with fail
          clear yy hmk
          go_loopw [3, 4] (fun ok iv wr => ∃ k : Nat, ok = .bool true ∧ iv = .int .i64 k ∧ k ≤ n ∧ Hid (Tch (fun _ => False) w1 wr)) (fun _ iv _ => n - (intOf iv).toNat)
          case atStart => exact ⟨0, rfl, rfl, Nat.zero_le _, HC3.out.drewN _⟩
          case round =>
            obtain ⟨k, rfl, rfl, hk, HTr⟩ := hrel
            obtain ⟨-, -, -, yy⟩ := HK.out wr HTr.out
            rw [HOO.out, ← HN.out] at yy
            by_cases hlt : (k : Int) < n
            · have hkP : k < s.P.length := by have := HN.out; omega
              have HO := (HTB.out wr HTr.out).1
              rw [HOO.out] at HO
              obtain ⟨-, -, -, hat⟩ := HO.mark
              have c3 := hat k hkP
              have HCk := (HTB.out wr HTr.out).2 k hkP
              obtain ⟨V, hV⟩ : ∃ V, V = s.P[k].2 := ⟨_, rfl⟩
              obtain ⟨cl, hcl⟩ : ∃ cl, cl = s.P[k].1.cols := ⟨_, rfl⟩
              rw [← hV] at c3 HCk
              rw [← hcl] at HCk
              have hcn : (cl.length : Int) ≤ 4398046511104 := by
                have h1 := HSZ.out.p s.P[k].1 (by rw [← HPE.out]; exact List.mem_map_of_mem (List.getElem_mem hkP))
                rw [← hcl] at h1
                omega
              clear hat HO hV hcl
              rcases HCk with ⟨_, rfl⟩ | hm
              · go_wp2_with fail
                go_roundw
                case rel => exact ⟨k + 1, rfl, by go_num, by omega, HTr⟩
                case measure => simp [intOf]; omega
              · obtain ⟨g', cap', cur, rfl, -⟩ := id hm
                obtain ⟨-, hcap2, hmk⟩ := hm.mark
                have hcap3 : (cl.length : Int) + 1 ≤ cap' := by omega
                clear hm cur
                go_wp2_with fail
                exact ⟨⟨k + 1, rfl, by go_num, by omega, HTr⟩, by simp [intOf]; omega⟩
            · clear hk
              go_wp2_with fail
              go_ret
              exact ⟨rfl, HT1.out.trans' HTr.out⟩
theorem lsameTabG (t : Tbl) (ao bo : Option Addr) (ac bc : Nat) (w : World) (hA : SL w ao (ccl t.cols)) (hB : SL w bo (ccl t.cols)) (hl : t.cols.length ≤ 4398046511104) :
    Calls Tryz.prog 38 #[tA t.id t.ver t.nm (.slice ao t.cols.length ac) t.key, tA t.id t.ver t.nm (.slice bo t.cols.length bc) t.key] w fun x w' => x = .returned (.bool true) ∧ Tch (fun _ => False) w w' := by
  obtain ⟨n, hn⟩ : ∃ n, n = t.cols.length := ⟨_, rfl⟩
  obtain ⟨N, hN⟩ : ∃ N, N = w.heap.size := ⟨_, rfl⟩
  obtain ⟨w0, hw0⟩ : ∃ w0, w0 = (w.alloc (.cells #[.int .i64 t.id, .int .i64 t.ver, .string t.nm, .slice ao n ac, .int .i64 t.key] 29)).alloc (.cells #[.int .i64 t.id, .int .i64 t.ver, .string t.nm, .slice bo n bc, .int .i64 t.key] 29) := ⟨_, rfl⟩
  have t0 : Tch (fun _ => False) w w0 := by rw [hw0]; exact (Tch.alloc _ _ _).allocR _
  have hX : w0.heap[N]? = some (.cells #[.int .i64 t.id, .int .i64 t.ver, .string t.nm, .slice ao n ac, .int .i64 t.key] 29 (0, 0)) := by
    rw [hw0, hN]; exact (Tch.alloc (fun _ => False) _ _).block _ (by simp) (fun h => h) |>.trans (alloc_new _ _)
  have hY : w0.heap[N + 1]? = some (.cells #[.int .i64 t.id, .int .i64 t.ver, .string t.nm, .slice bo n bc, .int .i64 t.key] 29 (0, 0)) := by
    rw [hw0, hN, ← World.size_alloc]; exact alloc_new _ _
  have HB : Hid (∀ W, Tch (fun _ => False) w0 W → W.cell? ⟨N, 3, none⟩ = some (.slice ao n ac) ∧ W.cell? ⟨N + 1, 3, none⟩ = some (.slice bo n bc) ∧ SL W ao (ccl t.cols) ∧ SL W bo (ccl t.cols)) := fun W tW => by
    have h1 : W.heap[N]? = _ := (tW.block N (blk_lt hX) (fun h => h)).trans hX
    have h2 : W.heap[N + 1]? = _ := (tW.block (N + 1) (blk_lt hY) (fun h => h)).trans hY
    exact ⟨by rw [blk_cell h1]; rfl, by rw [blk_cell h2]; rfl, hA.no (t0.trans' tW), hB.no (t0.trans' tW)⟩
  have HT0 : Hid (Tch (fun _ => False) w w0) := t0
  have Hw0 : Hid _ := hw0
  have HN : Hid (N = w.heap.size) := hN
  have Hn : Hid (n = t.cols.length) := hn
  have hn8 : n ≤ 4398046511104 := by omega
  rw [← hn]
  clear hA hB hw0 hN hX hY t0 hn
  go_enter Tryz.func38, Tryz.ntmps38
  go_wp2_with fail
  have hw0 := Hw0.out
  rw [← hw0]
  rw [← HN.out]
  clear hw0
  go_loopw [5] (fun i wr => ∃ k : Nat, i = .int .i64 k ∧ k ≤ n ∧ Hid (Tch (fun _ => False) w0 wr)) (fun i _ => n - (intOf i).toNat)
  case atStart => exact ⟨0, rfl, by omega, Tch.refl _ _⟩
  case round =>
    obtain ⟨k, rfl, hk, HT⟩ := hrel
    obtain ⟨wV, hwV⟩ : ∃ wV, wV = wr := ⟨_, rfl⟩
    subst hwV
    obtain ⟨b3, b4, s1, s2⟩ := HB.out wV HT.out
    by_cases hlt : (k : Int) < n
    · have hkl : k < t.cols.length := by have := Hn.out; omega
      obtain ⟨ga, oa, rfl, ha⟩ := s1.col hkl
      obtain ⟨gb, ob, rfl, hb⟩ := s2.col hkl
      obtain ⟨c0, c1, c2⟩ := ha.col k hkl
      obtain ⟨d0, d1, d2⟩ := hb.col k hkl
      obtain ⟨x, hx⟩ : ∃ x, x = t.cols[k] := ⟨_, rfl⟩
      rw [← hx] at c0 c1 c2 d0 d1 d2
      obtain ⟨dd, hdd, hnd⟩ := ne_col x x
      obtain rfl : dd = false := by cases dd with
        | false => rfl
        | true => exact absurd rfl (hdd.1 rfl)
      have HTQ : Hid (∀ nq, Tch (fun _ => False) w0 (wV.drewN nq)) := fun nq => HT.out.drewN _
      clear hdd ha hb hx s1 s2 hkl
      go_wp2_with fail
      go_quiet (fail)
      clear c0 c1 c2 d0 d1 d2 hnd b3 b4
      have HTq := HTQ.out nq
      go_wp2_with fail
      go_roundw
      case rel => exact ⟨k + 1, by go_num, by omega, HTq⟩
      case measure => simp [intOf]; omega
    · go_wp2_with fail
      go_ret
      exact ⟨rfl, HT0.out.trans' HT.out⟩
theorem lsameRowG (xs : List Val) (ao bo : Option Addr) (ca cb : Nat) (w : World) (ha : RowOf w ao xs) (hb : RowOf w bo xs) (h1 : xs.length ≤ 9223372036854775807) :
    Calls Tryz.prog 39 #[.slice ao xs.length ca, .slice bo xs.length cb] w fun x w' => x = .returned (.bool true) ∧ Tch (fun _ => False) w w' := by
  have HA : Hid (∀ W, Tch (fun _ => False) w W → RowOf W ao xs) := fun W t => ha.no t
  have HB : Hid (∀ W, Tch (fun _ => False) w W → RowOf W bo xs) := fun W t => hb.no t
  obtain ⟨n, hn⟩ : ∃ n, n = xs.length := ⟨_, rfl⟩
  rw [← hn] at h1 ⊢
  have HN : Hid (n = xs.length) := hn
  clear ha hb hn
  go_enter Tryz.func39, Tryz.ntmps39
  go_wp2_with fail
  go_loopw [5] (fun i wr => ∃ (k : Nat), i = .int .i64 k ∧ k ≤ n ∧ Hid (Tch (fun _ => False) w wr)) (fun i _ => n - (intOf i).toNat)
  case atStart => exact ⟨0, rfl, by omega, Tch.refl _ _⟩
  case round =>
    obtain ⟨k, rfl, hk, HT⟩ := hrel
    obtain ⟨wV, hwV⟩ : ∃ wV, wV = wr := ⟨_, rfl⟩
    subst hwV
    by_cases hlt : (k : Int) < n
    · have hx : k < xs.length := by have := HN.out; omega
      have hne : xs ≠ [] := by intro e; rw [e] at hx; simp at hx
      obtain ⟨ga, oa, rfl, hra⟩ := HA.out wV HT.out hne
      obtain ⟨gb, ob, rfl, hrb⟩ := HB.out wV HT.out hne
      obtain ⟨a0, a1, a2⟩ := hra k hx
      obtain ⟨b0, b1, b2⟩ := hrb k hx
      obtain ⟨u, hu⟩ : ∃ u, u = xs[k] := ⟨_, rfl⟩
      rw [← hu] at a0 a1 a2 b0 b1 b2
      obtain ⟨dd, hdd, hnd⟩ := ne_val u u
      obtain rfl : dd = false := by cases dd with
        | false => rfl
        | true => exact absurd rfl (hdd.1 rfl)
      have HTQ : Hid (∀ nq, Tch (fun _ => False) w (wV.drewN nq)) := fun nq => HT.out.drewN _
      clear hra hrb hu hdd hne
      go_wp2_with fail
      go_quiet (fail)
      clear a0 a1 a2 b0 b1 b2 hnd
      have HTq := HTQ.out nq
      go_wp2_with fail
      go_roundw
      case rel => exact ⟨k + 1, by go_num, by omega, HTq⟩
      case measure => simp [intOf]; omega
    · go_wp2_with fail
      go_ret
      exact ⟨rfl, HT.out⟩
theorem lsameG (r : Rc) (s u : Sk) (F G : Nat → Prop) (w : World) (h1 : RW w F r s) (h2 : RW w G r u) (h8 : r.tb.cols.length ≤ 4398046511104) (h16 : r.tbs.length ≤ 4398046511104) (hp8 : ∀ t ∈ r.tbs, t.cols.length ≤ 4398046511104) :
    Calls Tryz.prog 15 #[rV r s, rV r u] w fun x w' => x = .returned (.bool true) ∧ Tch (fun _ => False) w w' := by
  obtain ⟨n, hn⟩ : ∃ n, n = s.P.length := ⟨_, rfl⟩
  have hnr : n = r.tbs.length := by rw [hn, ← h1.eq, List.length_map]
  have hnu : n = u.P.length := by rw [hnr, ← h2.eq, List.length_map]
  have hn16 : n ≤ 4398046511104 := by omega
  obtain ⟨w0, hw0⟩ : ∃ w0, w0 = (w.alloc (.cells #[.int .i64 r.k, .int .i64 r.x, .int .i64 r.p, .int .i64 r.t, .slice s.oo r.o.length s.oc, .slice s.no r.n.length s.nc, .string r.nm, .int .i64 r.org, .int .i64 r.tb.id, .int .i64 r.tb.ver, .string r.tb.nm, .slice s.co r.tb.cols.length s.cc, .int .i64 r.tb.key, .slice s.to n s.tc] 37)).alloc (.cells #[.int .i64 r.k, .int .i64 r.x, .int .i64 r.p, .int .i64 r.t, .slice u.oo r.o.length u.oc, .slice u.no r.n.length u.nc, .string r.nm, .int .i64 r.org, .int .i64 r.tb.id, .int .i64 r.tb.ver, .string r.tb.nm, .slice u.co r.tb.cols.length u.cc, .int .i64 r.tb.key, .slice u.to n u.tc] 37) := ⟨_, rfl⟩
  have t0 : Tch (fun _ => False) w w0 := by rw [hw0]; exact (Tch.alloc _ _ _).allocR _
  have bA : w0.heap[w.heap.size]? = some (.cells #[.int .i64 r.k, .int .i64 r.x, .int .i64 r.p, .int .i64 r.t, .slice s.oo r.o.length s.oc, .slice s.no r.n.length s.nc, .string r.nm, .int .i64 r.org, .int .i64 r.tb.id, .int .i64 r.tb.ver, .string r.tb.nm, .slice s.co r.tb.cols.length s.cc, .int .i64 r.tb.key, .slice s.to n s.tc] 37 (0, 0)) := by
    rw [hw0]; exact ((Tch.alloc (fun _ => False) _ _).block _ (by simp) (fun h => h)).trans (heap_new w _)
  have bB : w0.heap[w.heap.size + 1]? = some (.cells #[.int .i64 r.k, .int .i64 r.x, .int .i64 r.p, .int .i64 r.t, .slice u.oo r.o.length u.oc, .slice u.no r.n.length u.nc, .string r.nm, .int .i64 r.org, .int .i64 r.tb.id, .int .i64 r.tb.ver, .string r.tb.nm, .slice u.co r.tb.cols.length u.cc, .int .i64 r.tb.key, .slice u.to n u.tc] 37 (0, 0)) := by
    rw [hw0, ← World.size_alloc]; exact heap_new _ _
  have HK : Hid (∀ W, Tch (fun _ => False) w0 W → W.heap[w.heap.size]? = some (.cells #[.int .i64 r.k, .int .i64 r.x, .int .i64 r.p, .int .i64 r.t, .slice s.oo r.o.length s.oc, .slice s.no r.n.length s.nc, .string r.nm, .int .i64 r.org, .int .i64 r.tb.id, .int .i64 r.tb.ver, .string r.tb.nm, .slice s.co r.tb.cols.length s.cc, .int .i64 r.tb.key, .slice s.to n s.tc] 37 (0, 0)) ∧ W.heap[w.heap.size + 1]? = some (.cells #[.int .i64 r.k, .int .i64 r.x, .int .i64 r.p, .int .i64 r.t, .slice u.oo r.o.length u.oc, .slice u.no r.n.length u.nc, .string r.nm, .int .i64 r.org, .int .i64 r.tb.id, .int .i64 r.tb.ver, .string r.tb.nm, .slice u.co r.tb.cols.length u.cc, .int .i64 r.tb.key, .slice u.to n u.tc] 37 (0, 0))) := fun W t =>
    ⟨(t.block _ (blk_lt bA) (fun h => h)).trans bA, (t.block _ (blk_lt bB) (fun h => h)).trans bB⟩
  have HTL : Hid (∀ W, Tch (fun _ => False) w W → TL W F s.to s.P ∧ TL W G u.to u.P) := fun W t => ⟨(h1.no t).tbs, (h2.no t).tbs⟩
  have HO : Hid (∀ W, Tch (fun _ => False) w W → Calls Tryz.prog 39 #[.slice s.oo r.o.length s.oc, .slice u.oo r.o.length u.oc] W fun x w' => x = .returned (.bool true) ∧ Tch (fun _ => False) W w') := fun W t => lsameRowG r.o s.oo u.oo s.oc u.oc W (h1.no t).o.row (h2.no t).o.row h1.ol
  have HN : Hid (∀ W, Tch (fun _ => False) w W → Calls Tryz.prog 39 #[.slice s.no r.n.length s.nc, .slice u.no r.n.length u.nc] W fun x w' => x = .returned (.bool true) ∧ Tch (fun _ => False) W w') := fun W t => lsameRowG r.n s.no u.no s.nc u.nc W (h1.no t).n.row (h2.no t).n.row h1.nl
  have HT : Hid (∀ W, Tch (fun _ => False) w W → Calls Tryz.prog 38 #[tA r.tb.id r.tb.ver r.tb.nm (.slice s.co r.tb.cols.length s.cc) r.tb.key, tA r.tb.id r.tb.ver r.tb.nm (.slice u.co r.tb.cols.length u.cc) r.tb.key] W fun x w' => x = .returned (.bool true) ∧ Tch (fun _ => False) W w') := fun W t => lsameTabG r.tb s.co u.co s.cc u.cc W (h1.no t).tb.sl (h2.no t).tb.sl h8
  have HPQ : Hid (∀ k (hs : k < s.P.length) (hu : k < u.P.length), s.P[k].1 = u.P[k].1 ∧ s.P[k].1.cols.length ≤ 4398046511104) := fun k hs hu => by
    have e1 : (s.P.map Prod.fst)[k]? = r.tbs[k]? := by rw [h1.eq]
    have e2 : (u.P.map Prod.fst)[k]? = r.tbs[k]? := by rw [h2.eq]
    have hk : k < r.tbs.length := by rw [← h1.eq, List.length_map]; exact hs
    rw [List.getElem?_map, List.getElem?_eq_getElem hs, List.getElem?_eq_getElem hk] at e1
    rw [List.getElem?_map, List.getElem?_eq_getElem hu, List.getElem?_eq_getElem hk] at e2
    have e1' : s.P[k].1 = r.tbs[k] := by simpa using e1
    have e2' : u.P[k].1 = r.tbs[k] := by simpa using e2
    exact ⟨e1'.trans e2'.symm, by rw [e1']; exact hp8 _ (List.getElem_mem hk)⟩
  have HNN : Hid (n = s.P.length ∧ n = u.P.length) := ⟨hn, hnu⟩
  have HT0 : Hid (Tch (fun _ => False) w w0) := t0
  have HW0 : Hid (w0 = (w.alloc (.cells #[.int .i64 r.k, .int .i64 r.x, .int .i64 r.p, .int .i64 r.t, .slice s.oo r.o.length s.oc, .slice s.no r.n.length s.nc, .string r.nm, .int .i64 r.org, .int .i64 r.tb.id, .int .i64 r.tb.ver, .string r.tb.nm, .slice s.co r.tb.cols.length s.cc, .int .i64 r.tb.key, .slice s.to n s.tc] 37)).alloc (.cells #[.int .i64 r.k, .int .i64 r.x, .int .i64 r.p, .int .i64 r.t, .slice u.oo r.o.length u.oc, .slice u.no r.n.length u.nc, .string r.nm, .int .i64 r.org, .int .i64 r.tb.id, .int .i64 r.tb.ver, .string r.tb.nm, .slice u.co r.tb.cols.length u.cc, .int .i64 r.tb.key, .slice u.to n u.tc] 37)) := hw0
  rw [rV, rV, ← hn, ← hnu]
  clear h1 h2 bA bB t0 hw0 hn hnr hnu h8 h16 hp8
  go_enter Tryz.func15, Tryz.ntmps15
  go_wp2_with fail
  have hw0 := HW0.out
  rw [← hw0]
  clear hw0
  go_loopw [5] (fun i wr => ∃ k : Nat, i = .int .i64 k ∧ k ≤ n ∧ Hid (Tch (fun _ => False) w0 wr)) (fun i _ => n - (intOf i).toNat)
  case atStart => exact ⟨0, rfl, by omega, Tch.refl _ _⟩
  case round =>
    obtain ⟨k, rfl, hk, HTr⟩ := hrel
    obtain ⟨wV, hwV⟩ : ∃ wV, wV = wr := ⟨_, rfl⟩
    subst hwV
    obtain ⟨bA, bB⟩ := HK.out wV HTr.out
    have HTw : Hid (Tch (fun _ => False) w wV) := HT0.out.trans' HTr.out
    by_cases hlt : (k : Int) < n
    · have hks : k < s.P.length := by have := HNN.out.1; omega
      have hku : k < u.P.length := by have := HNN.out.2; omega
      obtain ⟨hA, hB⟩ := HTL.out wV HTw.out
      obtain ⟨ga, oa, ea, a0, a1, a2, a3, a4⟩ := hA.at k hks
      obtain ⟨gb, ob, eb, b0, b1, b2, b3, b4⟩ := hB.at k hku
      obtain ⟨co, cc, hc⟩ := hA.col k hks
      obtain ⟨do', dc, hd⟩ := hB.col k hku
      obtain ⟨p, hp⟩ : ∃ p, p = s.P[k] := ⟨_, rfl⟩
      obtain ⟨q, hq⟩ : ∃ q, q = u.P[k] := ⟨_, rfl⟩
      obtain ⟨hpq, hp8⟩ := HPQ.out k hks hku
      rw [← hp] at a0 a1 a2 a3 a4 hc hpq hp8
      rw [← hq] at b0 b1 b2 b3 b4 hd hpq
      rw [hc.eq] at a3
      rw [hd.eq] at b3
      have hcs := hc.sl
      have hds := hd.sl
      rw [← hpq] at b0 b1 b2 b3 b4 hds
      have cS : ∀ d os, Calls Tryz.prog 38 #[tA p.1.id p.1.ver p.1.nm (.slice co p.1.cols.length cc) p.1.key, tA p.1.id p.1.ver p.1.nm (.slice do' p.1.cols.length dc) p.1.key] (grow (redrawn wV d) os) fun e w'' => e = .returned (.bool true) ∧ ∃ p : Regrown, w'' = grow (redrawn wV p.d) p.os := regrown_calls (fun W t => lsameTabG p.1 co do' cc dc W (hcs.no t) (hds.no t) hp8)
      have x13 : wV.cell? ⟨w.heap.size, 13, none⟩ = some (.slice s.to n s.tc) := blk_cell bA 13
      have y13 : wV.cell? ⟨w.heap.size + 1, 13, none⟩ = some (.slice u.to n u.tc) := blk_cell bB 13
      rw [ea] at x13
      rw [eb] at y13
      have k0 := cell_regrown a0; have k1 := cell_regrown a1; have k2 := cell_regrown a2; have k3 := cell_regrown a3; have k4 := cell_regrown a4
      have l0 := cell_regrown b0; have l1 := cell_regrown b1; have l2 := cell_regrown b2; have l3 := cell_regrown b3; have l4 := cell_regrown b4
      have k13 := cell_regrown x13; have l13 := cell_regrown y13
      clear hA hB hc hd hp hq hpq hcs hds bA bB hp8 ea eb
      go_wp2_with fail
      refine wp_region_quiet_below (by kernel_rfl) (by kernel_rfl) ?_
      repeat (quiet_step ((go_at_call 38; exact cS _ _)))
      refine wpQuiet_nil ?_
      rintro w2 ⟨p', rfl⟩
      have HTq : Hid (Tch (fun _ => False) w0 (grow (redrawn wV p'.d) p'.os)) := HTr.out.trans' (Tch.regrown wV p'.d p'.os)
      obtain ⟨W2, hW2⟩ : ∃ W2, W2 = grow (redrawn wV p'.d) p'.os := ⟨_, rfl⟩
      rw [← hW2] at HTq ⊢
      clear hW2 a0 a1 a2 a3 a4 b0 b1 b2 b3 b4 k0 k1 k2 k3 k4 l0 l1 l2 l3 l4 k13 l13 x13 y13 cS
      go_wp2_with fail
      go_roundw
      case rel => exact ⟨k + 1, by go_num, by omega, HTq⟩
      case measure => simp [intOf]; omega
    · have x13 : wV.cell? ⟨w.heap.size, 13, none⟩ = some (.slice s.to n s.tc) := blk_cell bA 13
      have x4 : wV.cell? ⟨w.heap.size, 4, none⟩ = some (.slice s.oo r.o.length s.oc) := blk_cell bA 4
      have y4 : wV.cell? ⟨w.heap.size + 1, 4, none⟩ = some (.slice u.oo r.o.length u.oc) := blk_cell bB 4
      clear bA bB
      go_wp2_with fail
      refine (HO.out wV HTw.out).mono ?_
      rintro x w1 ⟨rfl, t1⟩
      have U1 := HTr.out.trans' t1
      have T1 := HTw.out.trans' t1
      obtain ⟨bA, bB⟩ := HK.out w1 U1
      have x5 : w1.cell? ⟨w.heap.size, 5, none⟩ = some (.slice s.no r.n.length s.nc) := blk_cell bA 5
      have y5 : w1.cell? ⟨w.heap.size + 1, 5, none⟩ = some (.slice u.no r.n.length u.nc) := blk_cell bB 5
      clear bA bB x4 y4 x13 t1
      go_wp2_with fail
      refine (HN.out w1 T1).mono ?_
      rintro x w2 ⟨rfl, t2⟩
      have U2 := U1.trans' t2
      have T2 := T1.trans' t2
      obtain ⟨bA, bB⟩ := HK.out w2 U2
      have x8 : w2.cell? ⟨w.heap.size, 8, none⟩ = some (.int .i64 r.tb.id) := blk_cell bA 8
      have y8 : w2.cell? ⟨w.heap.size + 1, 8, none⟩ = some (.int .i64 r.tb.id) := blk_cell bB 8
      have x9 : w2.cell? ⟨w.heap.size, 9, none⟩ = some (.int .i64 r.tb.ver) := blk_cell bA 9
      have y9 : w2.cell? ⟨w.heap.size + 1, 9, none⟩ = some (.int .i64 r.tb.ver) := blk_cell bB 9
      have x10 : w2.cell? ⟨w.heap.size, 10, none⟩ = some (.string r.tb.nm) := blk_cell bA 10
      have y10 : w2.cell? ⟨w.heap.size + 1, 10, none⟩ = some (.string r.tb.nm) := blk_cell bB 10
      have x11 : w2.cell? ⟨w.heap.size, 11, none⟩ = some (.slice s.co r.tb.cols.length s.cc) := blk_cell bA 11
      have y11 : w2.cell? ⟨w.heap.size + 1, 11, none⟩ = some (.slice u.co r.tb.cols.length u.cc) := blk_cell bB 11
      have x12 : w2.cell? ⟨w.heap.size, 12, none⟩ = some (.int .i64 r.tb.key) := blk_cell bA 12
      have y12 : w2.cell? ⟨w.heap.size + 1, 12, none⟩ = some (.int .i64 r.tb.key) := blk_cell bB 12
      clear bA bB x5 y5 t2
      go_wp2_with fail
      refine (HT.out w2 T2).mono ?_
      rintro x w3 ⟨rfl, t3⟩
      have T3 := T2.trans' t3
      clear x8 y8 x9 y9 x10 y10 x11 y11 x12 y12 t3
      go_wp2_with fail
      go_ret
      exact ⟨rfl, T3⟩
end Go.Proofs.YtjiblajnfnmjnaaGreatDoor.C
namespace Go.Proofs.YtjiblajnfnmjnaaGreatDoor
def qt (l : List UInt8) : List UInt8 := 39 :: (escs l ++ [39])
theorem qtd_qt (s : ByteArray) : qtd s = qt s.data.toList := rfl
end Go.Proofs.YtjiblajnfnmjnaaGreatDoor
