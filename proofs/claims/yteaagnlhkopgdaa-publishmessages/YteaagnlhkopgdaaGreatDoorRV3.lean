import Derived.Test.YteaagnlhkopgdaaGreatDoorRS0
set_option maxHeartbeats 8000000
set_option maxRecDepth 100000
namespace Go.Proofs.YteaagnlhkopgdaaGreatDoor.C
open Go.RowKit
abbrev rA (k x l e t id ver : Int) (tn : ByteArray) (cs : Value) (key : Int) (o n : Value) : Value := .agg #[.int .i64 k, .int .i64 x, .int .i64 l, .int .i64 e, .int .i64 t, .int .i64 id, .int .i64 ver, .string tn, cs, .int .i64 key, o, n]
structure Sk where
  oo : Option Addr
  oc : Nat
  no : Option Addr
  nc : Nat
  co : Option Addr
  cc : Nat
def sk0 : Sk := ⟨none, 0, none, 0, none, 0⟩
abbrev rV (r : Rc) (s : Sk) : Value := rA r.k r.x r.l r.e r.t r.tb.id r.tb.ver r.tb.nm (.slice s.co r.tb.cols.length s.cc) r.tb.key (.slice s.oo r.o.length s.oc) (.slice s.no r.n.length s.nc)
structure RW (W : World) (F : Nat → Prop) (r : Rc) (s : Sk) : Prop where
  o : SL W s.oo (vcl r.o)
  n : SL W s.no (vcl r.n)
  tb : CK W F (r.tb, .slice s.co r.tb.cols.length s.cc) s.co s.cc
  onf : r.o ≠ [] → ∀ g o, s.oo = some ⟨g, o, none⟩ → ¬ F g
  nnf : r.n ≠ [] → ∀ g o, s.no = some ⟨g, o, none⟩ → ¬ F g
  oi : ∀ v ∈ r.o, v.i64
  ni : ∀ v ∈ r.n, v.i64
  ol : r.o.length ≤ 9223372036854775807
  nl : r.n.length ≤ 9223372036854775807
  cl : r.tb.cols.length ≤ 9223372036854775807
theorem RW.tch {S F : Nat → Prop} {W W' : World} {r : Rc} {s : Sk} (h : RW W F r s) (t : Tch S W W') (hS : ∀ i, i < W.heap.size → S i → F i) : RW W' F r s := by
  refine ⟨fun hc => ?_, fun hc => ?_, h.tb.tch t hS, h.onf, h.nnf, h.oi, h.ni, h.ol, h.nl, h.cl⟩
  · obtain ⟨g, o, e, ha⟩ := h.o hc
    have hne : r.o ≠ [] := fun e0 => hc (by rw [e0]; rfl)
    exact ⟨g, o, e, ha.tch t (fun _ hs => h.onf hne g o e (hS g (ha.lt hc) hs))⟩
  · obtain ⟨g, o, e, ha⟩ := h.n hc
    have hne : r.n ≠ [] := fun e0 => hc (by rw [e0]; rfl)
    exact ⟨g, o, e, ha.tch t (fun _ hs => h.nnf hne g o e (hS g (ha.lt hc) hs))⟩
theorem RW.no {F : Nat → Prop} {W W' : World} {r : Rc} {s : Sk} (h : RW W F r s) (t : Tch (fun _ => False) W W') : RW W' F r s := h.tch t (fun _ _ h => h.elim)
def bV (c : Nat) (r : Rc) (s : Sk) : Value := match c with
  | 1 => .iface 71 (.agg #[.int .i64 r.x, .int .i64 r.l])
  | 2 => .iface 73 (.agg #[.int .i64 r.tb.id, .int .i64 r.tb.ver, .string r.tb.nm, .slice s.co r.tb.cols.length s.cc, .int .i64 r.tb.key])
  | 3 => .iface 75 (.agg #[.int .i64 r.t, .slice s.no r.n.length s.nc])
  | 4 => .iface 77 (.agg #[.int .i64 r.t, .slice s.oo r.o.length s.oc, .slice s.no r.n.length s.nc])
  | 5 => .iface 78 (.agg #[.int .i64 r.t, .slice s.oo r.o.length s.oc])
  | 6 => .iface 80 (.agg #[.int .i64 r.t])
  | 7 => .iface 82 (.agg #[.int .i64 r.x, .int .i64 r.l, .int .i64 r.e])
  | 8 => .iface 84 (.agg #[.int .i64 r.k, .int .i64 r.l])
  | _ => .nilIface
def cutS (c : Nat) (s : Sk) : Sk := match c with
  | 2 => { sk0 with co := s.co, cc := s.cc }
  | 3 => { sk0 with no := s.no, nc := s.nc }
  | 4 => { sk0 with oo := s.oo, oc := s.oc, no := s.no, nc := s.nc }
  | 5 => { sk0 with oo := s.oo, oc := s.oc }
  | _ => sk0
theorem messageOf_1 (r : Rc) (s : Sk) (w : World) (hk : r.k = 1) : Calls Tryz.prog 14 #[rV r s] w fun x w' => x = .returned (bV 1 r s) ∧ Tch (fun _ => False) w w' := by
  rw [rV, hk]
  go_enter Tryz.func14, Tryz.ntmps14
  go_wp2
  go_ret
  exact ⟨rfl, Tch.alloc _ _ _⟩
theorem messageOf_2 (r : Rc) (s : Sk) (w : World) (hk : r.k = 2) : Calls Tryz.prog 14 #[rV r s] w fun x w' => x = .returned (bV 2 r s) ∧ Tch (fun _ => False) w w' := by
  rw [rV, hk]
  go_enter Tryz.func14, Tryz.ntmps14
  go_wp2
  go_ret
  exact ⟨rfl, Tch.alloc _ _ _⟩
theorem messageOf_3 (r : Rc) (s : Sk) (w : World) (hk : r.k = 3) : Calls Tryz.prog 14 #[rV r s] w fun x w' => x = .returned (bV 3 r s) ∧ Tch (fun _ => False) w w' := by
  rw [rV, hk]
  go_enter Tryz.func14, Tryz.ntmps14
  go_wp2
  go_ret
  exact ⟨rfl, Tch.alloc _ _ _⟩
theorem messageOf_4 (r : Rc) (s : Sk) (w : World) (hk : r.k = 4) : Calls Tryz.prog 14 #[rV r s] w fun x w' => x = .returned (bV 4 r s) ∧ Tch (fun _ => False) w w' := by
  rw [rV, hk]
  go_enter Tryz.func14, Tryz.ntmps14
  go_wp2
  go_ret
  exact ⟨rfl, Tch.alloc _ _ _⟩
theorem messageOf_5 (r : Rc) (s : Sk) (w : World) (hk : r.k = 5) : Calls Tryz.prog 14 #[rV r s] w fun x w' => x = .returned (bV 5 r s) ∧ Tch (fun _ => False) w w' := by
  rw [rV, hk]
  go_enter Tryz.func14, Tryz.ntmps14
  go_wp2
  go_ret
  exact ⟨rfl, Tch.alloc _ _ _⟩
theorem messageOf_6 (r : Rc) (s : Sk) (w : World) (hk : r.k = 6) : Calls Tryz.prog 14 #[rV r s] w fun x w' => x = .returned (bV 6 r s) ∧ Tch (fun _ => False) w w' := by
  rw [rV, hk]
  go_enter Tryz.func14, Tryz.ntmps14
  go_wp2
  go_ret
  exact ⟨rfl, Tch.alloc _ _ _⟩
theorem messageOf_7 (r : Rc) (s : Sk) (w : World) (hk : r.k = 7) : Calls Tryz.prog 14 #[rV r s] w fun x w' => x = .returned (bV 7 r s) ∧ Tch (fun _ => False) w w' := by
  rw [rV, hk]
  go_enter Tryz.func14, Tryz.ntmps14
  go_wp2
  go_ret
  exact ⟨rfl, Tch.alloc _ _ _⟩
theorem messageOf_8 (r : Rc) (s : Sk) (w : World) (hk : r.k = 8) : Calls Tryz.prog 14 #[rV r s] w fun x w' => x = .returned (bV 8 r s) ∧ Tch (fun _ => False) w w' := by
  unfold bV; rw [rV, hk]
  go_enter Tryz.func14, Tryz.ntmps14
  go_wp2
  go_ret
  exact ⟨rfl, Tch.alloc _ _ _⟩
theorem messageOf_9 (r : Rc) (s : Sk) (w : World) (hk : r.k = 9) : Calls Tryz.prog 14 #[rV r s] w fun x w' => x = .returned (bV 8 r s) ∧ Tch (fun _ => False) w w' := by
  unfold bV; rw [rV, hk]
  go_enter Tryz.func14, Tryz.ntmps14
  go_wp2
  go_ret
  exact ⟨rfl, Tch.alloc _ _ _⟩
theorem messageOf_no (r : Rc) (s : Sk) (w : World) (hk : ¬ (1 ≤ r.k ∧ r.k ≤ 9)) : Calls Tryz.prog 14 #[rV r s] w fun x w' => x = .returned .nilIface ∧ Tch (fun _ => False) w w' := by
  have e1 : (r.k == 1) = false := int_ne (by omega)
  have e2 : (r.k == 2) = false := int_ne (by omega)
  have e3 : (r.k == 3) = false := int_ne (by omega)
  have e4 : (r.k == 4) = false := int_ne (by omega)
  have e5 : (r.k == 5) = false := int_ne (by omega)
  have e6 : (r.k == 6) = false := int_ne (by omega)
  have e7 : (r.k == 7) = false := int_ne (by omega)
  have e8 : (r.k == 8) = false := int_ne (by omega)
  have e9 : (r.k == 9) = false := int_ne (by omega)
  clear hk
  go_enter Tryz.func14, Tryz.ntmps14
  go_wp2
  go_ret
  exact ⟨rfl, Tch.alloc _ _ _⟩
theorem cls_no (k : Int) (hk : ¬ (1 ≤ k ∧ k ≤ 9)) : cls k = 0 := by
  rcases cls_rng k with h | h
  · exact h
  · exact absurd ⟨h.1, h.2.1⟩ hk
theorem messageOf_any (r : Rc) (s : Sk) (w : World) : Calls Tryz.prog 14 #[rV r s] w fun x w' => x = .returned (bV (cls r.k) r s) ∧ Tch (fun _ => False) w w' := by
  by_cases hk : 1 ≤ r.k ∧ r.k ≤ 9
  · have h15 : r.k = 1 ∨ r.k = 2 ∨ r.k = 3 ∨ r.k = 4 ∨ r.k = 5 ∨ r.k = 6 ∨ r.k = 7 ∨ r.k = 8 ∨ r.k = 9 := by omega
    rcases h15 with h | h | h | h | h | h | h | h | h
    · have e : cls r.k = 1 := by rw [h]; rfl
      rw [e]; exact messageOf_1 r s w h
    · have e : cls r.k = 2 := by rw [h]; rfl
      rw [e]; exact messageOf_2 r s w h
    · have e : cls r.k = 3 := by rw [h]; rfl
      rw [e]; exact messageOf_3 r s w h
    · have e : cls r.k = 4 := by rw [h]; rfl
      rw [e]; exact messageOf_4 r s w h
    · have e : cls r.k = 5 := by rw [h]; rfl
      rw [e]; exact messageOf_5 r s w h
    · have e : cls r.k = 6 := by rw [h]; rfl
      rw [e]; exact messageOf_6 r s w h
    · have e : cls r.k = 7 := by rw [h]; rfl
      rw [e]; exact messageOf_7 r s w h
    · have e : cls r.k = 8 := by rw [h]; rfl
      rw [e]; exact messageOf_8 r s w h
    · have e : cls r.k = 8 := by rw [h]; rfl
      rw [e]; exact messageOf_9 r s w h
  · rw [cls_no _ hk]; exact messageOf_no r s w hk
end Go.Proofs.YteaagnlhkopgdaaGreatDoor.C
namespace Go.Proofs.YteaagnlhkopgdaaGreatDoor.C
open Go.RowKit
theorem Rc.ext' {a b : Rc} (h : a.k = b.k ∧ a.x = b.x ∧ a.l = b.l ∧ a.e = b.e ∧ a.t = b.t ∧ a.tb = b.tb ∧ a.o = b.o ∧ a.n = b.n) : a = b := by
  obtain ⟨a1, a2, a3, a4, a5, a6, a7, a8⟩ := a
  obtain ⟨b1, b2, b3, b4, b5, b6, b7, b8⟩ := b
  simp at h
  simp [h]
theorem eqT_of {P : Program} {f : FuncId} {ar : Array Value} {xs ys : List Val} {W : World} (h : Calls P f ar W fun x w' => EqOut xs ys W x w') : Calls P f ar W fun x w' => EqT (xs = ys) W x w' := h.mono (fun _ _ ⟨b, h1, h2, m, h3⟩ => ⟨b, h1, h2, by rw [h3]; exact (Tch.refl _ _).drewN m⟩)
theorem same_r (a b : Rc) (s u : Sk) (F G : Nat → Prop) (w : World) (h1 : RW w F a s) (h2 : RW w G b u) : Calls Tryz.prog 15 #[rV a s, rV b u] w fun x w' => EqT (a = b) w x w' := by
  obtain ⟨w0, hw0⟩ : ∃ w0, w0 = (w.alloc (.cells #[.int .i64 a.k, .int .i64 a.x, .int .i64 a.l, .int .i64 a.e, .int .i64 a.t, .int .i64 a.tb.id, .int .i64 a.tb.ver, .string a.tb.nm, .slice s.co a.tb.cols.length s.cc, .int .i64 a.tb.key, .slice s.oo a.o.length s.oc, .slice s.no a.n.length s.nc] 28)).alloc (.cells #[.int .i64 b.k, .int .i64 b.x, .int .i64 b.l, .int .i64 b.e, .int .i64 b.t, .int .i64 b.tb.id, .int .i64 b.tb.ver, .string b.tb.nm, .slice u.co b.tb.cols.length u.cc, .int .i64 b.tb.key, .slice u.oo b.o.length u.oc, .slice u.no b.n.length u.nc] 28) := ⟨_, rfl⟩
  have t0 : Tch (fun _ => False) w w0 := by rw [hw0]; exact (Tch.alloc _ _ _).allocR _
  have bA : w0.heap[w.heap.size]? = some (.cells #[.int .i64 a.k, .int .i64 a.x, .int .i64 a.l, .int .i64 a.e, .int .i64 a.t, .int .i64 a.tb.id, .int .i64 a.tb.ver, .string a.tb.nm, .slice s.co a.tb.cols.length s.cc, .int .i64 a.tb.key, .slice s.oo a.o.length s.oc, .slice s.no a.n.length s.nc] 28 (0, 0)) := by
    rw [hw0]; exact ((Tch.alloc (fun _ => False) _ _).block _ (by simp) (fun h => h)).trans (heap_new w _)
  have bB : w0.heap[w.heap.size + 1]? = some (.cells #[.int .i64 b.k, .int .i64 b.x, .int .i64 b.l, .int .i64 b.e, .int .i64 b.t, .int .i64 b.tb.id, .int .i64 b.tb.ver, .string b.tb.nm, .slice u.co b.tb.cols.length u.cc, .int .i64 b.tb.key, .slice u.oo b.o.length u.oc, .slice u.no b.n.length u.nc] 28 (0, 0)) := by
    rw [hw0, ← World.size_alloc]; exact heap_new _ _
  have HK : Hid (∀ W, Tch (fun _ => False) w0 W → W.heap[w.heap.size]? = some (.cells #[.int .i64 a.k, .int .i64 a.x, .int .i64 a.l, .int .i64 a.e, .int .i64 a.t, .int .i64 a.tb.id, .int .i64 a.tb.ver, .string a.tb.nm, .slice s.co a.tb.cols.length s.cc, .int .i64 a.tb.key, .slice s.oo a.o.length s.oc, .slice s.no a.n.length s.nc] 28 (0, 0)) ∧ W.heap[w.heap.size + 1]? = some (.cells #[.int .i64 b.k, .int .i64 b.x, .int .i64 b.l, .int .i64 b.e, .int .i64 b.t, .int .i64 b.tb.id, .int .i64 b.tb.ver, .string b.tb.nm, .slice u.co b.tb.cols.length u.cc, .int .i64 b.tb.key, .slice u.oo b.o.length u.oc, .slice u.no b.n.length u.nc] 28 (0, 0))) := fun W t =>
    ⟨(t.block _ (blk_lt bA) (fun h => h)).trans bA, (t.block _ (blk_lt bB) (fun h => h)).trans bB⟩
  have HO : Hid (∀ W, Tch (fun _ => False) w W → Calls Tryz.prog 29 #[.slice s.oo a.o.length s.oc, .slice u.oo b.o.length u.oc] W fun x w' => EqT (a.o = b.o) W x w') := fun W t => eqT_of <| same_any a.o b.o s.oo u.oo s.oc u.oc W (h1.no t).o.row (h2.no t).o.row h1.ol
  have HN : Hid (∀ W, Tch (fun _ => False) w W → Calls Tryz.prog 29 #[.slice s.no a.n.length s.nc, .slice u.no b.n.length u.nc] W fun x w' => EqT (a.n = b.n) W x w') := fun W t => eqT_of <| same_any a.n b.n s.no u.no s.nc u.nc W (h1.no t).n.row (h2.no t).n.row h1.nl
  have HT : Hid (∀ W, Tch (fun _ => False) w W → Calls Tryz.prog 28 #[tA a.tb.id a.tb.ver a.tb.nm (.slice s.co a.tb.cols.length s.cc) a.tb.key, tA b.tb.id b.tb.ver b.tb.nm (.slice u.co b.tb.cols.length u.cc) b.tb.key] W fun x w' => EqT (a.tb = b.tb) W x w') := fun W t => sameTab_any a.tb b.tb s.co u.co s.cc u.cc W (h1.no t).tb.sl (h2.no t).tb.sl h1.cl
  have HT0 : Hid (Tch (fun _ => False) w w0) := t0
  have HW0 : Hid (w0 = (w.alloc (.cells #[.int .i64 a.k, .int .i64 a.x, .int .i64 a.l, .int .i64 a.e, .int .i64 a.t, .int .i64 a.tb.id, .int .i64 a.tb.ver, .string a.tb.nm, .slice s.co a.tb.cols.length s.cc, .int .i64 a.tb.key, .slice s.oo a.o.length s.oc, .slice s.no a.n.length s.nc] 28)).alloc (.cells #[.int .i64 b.k, .int .i64 b.x, .int .i64 b.l, .int .i64 b.e, .int .i64 b.t, .int .i64 b.tb.id, .int .i64 b.tb.ver, .string b.tb.nm, .slice u.co b.tb.cols.length u.cc, .int .i64 b.tb.key, .slice u.oo b.o.length u.oc, .slice u.no b.n.length u.nc] 28)) := hw0
  clear h1 h2 bA bB t0 hw0
  by_cases e1 : a.k = b.k
  · have e1' := int_eq' e1
    have E1 : Hid (a.k = b.k) := e1
    clear e1
    by_cases e2 : a.x = b.x
    · have e2' := int_eq' e2
      have E2 : Hid (a.x = b.x) := e2
      clear e2
      by_cases e3 : a.l = b.l
      · have e3' := int_eq' e3
        have E3 : Hid (a.l = b.l) := e3
        clear e3
        by_cases e4 : a.e = b.e
        · have e4' := int_eq' e4
          have E4 : Hid (a.e = b.e) := e4
          clear e4
          by_cases e5 : a.t = b.t
          · have e5' := int_eq' e5
            have E5 : Hid (a.t = b.t) := e5
            clear e5
            go_enter Tryz.func15, Tryz.ntmps15
            go_wp2_with fail
            have qo := HT.out w0 HT0.out
            rw [HW0.out] at qo
            refine qo.mono ?_
            rintro x w1 ⟨d1, rfl, hd1, t1⟩
            rw [← HW0.out] at t1
            have D1 : Hid (d1 = true ↔ a.tb = b.tb) := hd1
            clear qo hd1
            have T1 : Tch (fun _ => False) w w1 := HT0.out.trans' t1
            cases d1
            · go_wp2_with fail
              go_ret
              exact eqT_no (fun e => by have := D1.out.2 (by rw [e]); simp at this) T1
            · skip
              obtain ⟨bA, bB⟩ := HK.out w1 t1
              have a10 := blk_cell bA 10
              have b10 := blk_cell bB 10
              simp only [List.getElem?_toArray, List.getElem?_cons_succ, List.getElem?_cons_zero] at a10 b10
              clear bA bB
              go_wp2_with fail
              refine (HO.out w1 T1).mono ?_
              rintro x w2 ⟨d2, rfl, hd2, t2⟩
              have D2 : Hid (d2 = true ↔ a.o = b.o) := hd2
              have T2 := T1.trans' t2
              have U2 := t1.trans' t2
              clear hd2 a10 b10 t2 t1 T1
              cases d2
              · go_wp2_with fail
                go_ret
                exact eqT_no (fun e => by have := D2.out.2 (by rw [e]); simp at this) T2
              · skip
                obtain ⟨bA, bB⟩ := HK.out w2 U2
                have a11 := blk_cell bA 11
                have b11 := blk_cell bB 11
                simp only [List.getElem?_toArray, List.getElem?_cons_succ, List.getElem?_cons_zero] at a11 b11
                clear bA bB
                go_wp2_with fail
                refine (HN.out w2 T2).mono ?_
                rintro x w3 ⟨d3, rfl, hd3, t3⟩
                have D3 : Hid (d3 = true ↔ a.n = b.n) := hd3
                have T3 := T2.trans' t3
                clear hd3 t3 T2 U2 a11 b11
                cases d3
                · go_wp2_with fail
                  go_ret
                  exact eqT_no (fun e => by have := D3.out.2 (by rw [e]); simp at this) T3
                · go_wp2_with fail
                  go_ret
                  exact ⟨true, rfl, ⟨fun _ => Rc.ext' ⟨E1.out, E2.out, E3.out, E4.out, E5.out, D1.out.1 (by trivial), D2.out.1 (by trivial), D3.out.1 (by trivial)⟩, fun _ => rfl⟩, T3⟩
          · have e5' := int_ne e5
            go_enter Tryz.func15, Tryz.ntmps15
            go_wp2_with fail
            go_ret
            exact eqT_no (fun e => e5 (by rw [e])) (by have h := HT0.out; rw [HW0.out] at h; exact h)
        · have e4' := int_ne e4
          go_enter Tryz.func15, Tryz.ntmps15
          go_wp2_with fail
          go_ret
          exact eqT_no (fun e => e4 (by rw [e])) (by have h := HT0.out; rw [HW0.out] at h; exact h)
      · have e3' := int_ne e3
        go_enter Tryz.func15, Tryz.ntmps15
        go_wp2_with fail
        go_ret
        exact eqT_no (fun e => e3 (by rw [e])) (by have h := HT0.out; rw [HW0.out] at h; exact h)
    · have e2' := int_ne e2
      go_enter Tryz.func15, Tryz.ntmps15
      go_wp2_with fail
      go_ret
      exact eqT_no (fun e => e2 (by rw [e])) (by have h := HT0.out; rw [HW0.out] at h; exact h)
  · have e1' := int_ne e1
    go_enter Tryz.func15, Tryz.ntmps15
    go_wp2_with fail
    go_ret
    exact eqT_no (fun e => e1 (by rw [e])) (by have h := HT0.out; rw [HW0.out] at h; exact h)
end Go.Proofs.YteaagnlhkopgdaaGreatDoor.C
namespace Go.Proofs.YteaagnlhkopgdaaGreatDoor.C
open Go.RowKit
theorem rowL_len (vs : List Val) : (rowL vs).length ≤ 1700 := by
  have h1 := encR_len vs
  unfold rowL textL
  have h2 := fol_dg_len (⟨(encR vs).1.toArray⟩ : ByteArray).size
  have h3 : (⟨(encR vs).1.toArray⟩ : ByteArray).data.toList.length = (encR vs).1.length := by simp
  rw [List.length_append]; omega
theorem wt_ge {b : Nat} {w : World} {i : Nat} (h : WT b w i) : b ≤ i := by
  rcases h with h | ⟨h, _⟩ <;> omega
theorem lay_1 (b : Nat) (bs : List UInt8) (r : Rc) (s : Sk) (w : World) (h : WS w b bs 0) (hg : HE w) (hgb : 0 < b) (hw : RW w (fun i => b ≤ i) r s) (hr : rightC 1 r) (hlen : bs.length + 100000 ≤ 140737488355328) :
    Calls Tryz.prog 107 #[.agg #[.int .i64 r.x, .int .i64 r.l], .pointer (some ⟨b, 0, none⟩)] w fun x w' => x = .returned (.tuple #[]) ∧ WS w' b (bs ++ bodyL 1 r) 0 ∧ Tch (WT b w) w w' := by
  obtain ⟨g1, g2⟩ : rtN r.x ∧ rtP r.l := hr
  unfold rtN at g1
  unfold rtP at g2
  have hlt := h.lt
  obtain ⟨w0, hw0⟩ : ∃ w0, w0 = w.alloc (.cells #[.int .i64 r.x, .int .i64 r.l] 71) := ⟨_, rfl⟩
  have t0 : Tch (fun _ => False) w w0 := by rw [hw0]; exact Tch.alloc _ _ _
  have b0 : w0.heap[w.heap.size]? = some (.cells #[.int .i64 r.x, .int .i64 r.l] 71 (0, 0)) := by rw [hw0]; exact heap_new w _
  have HK : Hid (∀ W, Tch (WT b w0) w0 W → (W.cell? ⟨w.heap.size, 0, none⟩ = some (.int .i64 r.x) ∧ W.cell? ⟨w.heap.size, 1, none⟩ = some (.int .i64 r.l)) ∧ RW W (fun i => b ≤ i) r s ∧ HE W) := fun W t => by
    have hb := wt_keep t b0 (by decide) (by omega)
    exact ⟨⟨blk_cell hb 0, blk_cell hb 1⟩, (hw.no t0).tch t (fun i _ h => wt_ge h), (hg.tch t0 (fun h => h)).tch t (fun h => by have := wt_ge h; omega)⟩
  have h0 : WS w0 b bs 0 := h.tch t0 (fun _ _ _ h => h)
  have HT0 : Hid (Tch (fun _ => False) w w0) := t0
  have HW0 : Hid (w0 = w.alloc (.cells #[.int .i64 r.x, .int .i64 r.l] 71)) := hw0
  obtain ⟨-, hR0, hE0⟩ := HK.out w0 (Tch.refl _ _)
  have HR0 : Hid _ := hR0
  have HE0 : Hid _ := hE0
  clear h hg hw t0 b0 hw0 hR0 hE0
  try clear hr
  go_enter Tryz.func107, Tryz.ntmps107
  go_wp2_with fail
  have q1 := wvar_ok b _ r.x w0 h0 (by omega) (by omega) (by first | omega | (simp only [List.length_append]; omega))
  rw [HW0.out] at q1
  refine q1.mono ?_
  rintro x w1 ⟨rfl, h1, t1⟩
  rw [← HW0.out] at t1
  clear q1 h0
  have T1 := t1
  have l1 := fol_dg_len r.x.toNat
  obtain ⟨⟨y0, y1⟩, hR1, hE1⟩ := HK.out w1 T1
  have HR1 : Hid _ := hR1
  have HE1 : Hid _ := hE1
  clear hR1 hE1 t1
  go_wp2_with fail
  refine (wvar_ok b _ r.l w1 h1 (by omega) (by omega) (by first | omega | (simp only [List.length_append]; omega))).mono ?_
  rintro x w2 ⟨rfl, h2, t2⟩
  have T2 := wt_trans T1 t2
  clear y0 y1 h1 T1
  have l2 := fol_dg_len r.l.toNat
  go_wp2_with fail
  go_end0
  refine ⟨rfl, ?_, wt_new HT0.out T2⟩
  unfold bodyL
  simpa only [List.append_assoc] using h2
theorem lay_2 (b : Nat) (bs : List UInt8) (r : Rc) (s : Sk) (w : World) (h : WS w b bs 0) (hg : HE w) (hgb : 0 < b) (hw : RW w (fun i => b ≤ i) r s) (hr : rightC 2 r) (hlen : bs.length + 100000 ≤ 140737488355328) :
    Calls Tryz.prog 118 #[.agg #[.int .i64 r.tb.id, .int .i64 r.tb.ver, .string r.tb.nm, .slice s.co r.tb.cols.length s.cc, .int .i64 r.tb.key], .pointer (some ⟨b, 0, none⟩)] w fun x w' => x = .returned (.tuple #[]) ∧ WS w' b (bs ++ bodyL 2 r) 0 ∧ Tch (WT b w) w w' := by
  have g2 : rightE r.tb = 0 := hr
  have HRT : Hid (RT r.tb) := right_rt g2
  have HNF : Hid (∀ g o, s.co = some ⟨g, o, none⟩ → g < b) := fun g o e => by
    have hne : r.tb.cols ≠ [] := fun e0 => by have h1 := HRT.out.len; rw [e0] at h1; simp at h1
    have := (hw.tb.nf hne g o e).1
    omega
  clear g2
  have hlt := h.lt
  obtain ⟨w0, hw0⟩ : ∃ w0, w0 = w.alloc (.cells #[.int .i64 r.tb.id, .int .i64 r.tb.ver, .string r.tb.nm, .slice s.co r.tb.cols.length s.cc, .int .i64 r.tb.key] 73) := ⟨_, rfl⟩
  have t0 : Tch (fun _ => False) w w0 := by rw [hw0]; exact Tch.alloc _ _ _
  have b0 : w0.heap[w.heap.size]? = some (.cells #[.int .i64 r.tb.id, .int .i64 r.tb.ver, .string r.tb.nm, .slice s.co r.tb.cols.length s.cc, .int .i64 r.tb.key] 73 (0, 0)) := by rw [hw0]; exact heap_new w _
  have HK : Hid (∀ W, Tch (WT b w0) w0 W → (W.cell? ⟨w.heap.size, 0, none⟩ = some (.int .i64 r.tb.id) ∧ W.cell? ⟨w.heap.size, 1, none⟩ = some (.int .i64 r.tb.ver) ∧ W.cell? ⟨w.heap.size, 2, none⟩ = some (.string r.tb.nm) ∧ W.cell? ⟨w.heap.size, 3, none⟩ = some (.slice s.co r.tb.cols.length s.cc) ∧ W.cell? ⟨w.heap.size, 4, none⟩ = some (.int .i64 r.tb.key)) ∧ RW W (fun i => b ≤ i) r s ∧ HE W) := fun W t => by
    have hb := wt_keep t b0 (by decide) (by omega)
    exact ⟨⟨blk_cell hb 0, blk_cell hb 1, blk_cell hb 2, blk_cell hb 3, blk_cell hb 4⟩, (hw.no t0).tch t (fun i _ h => wt_ge h), (hg.tch t0 (fun h => h)).tch t (fun h => by have := wt_ge h; omega)⟩
  have h0 : WS w0 b bs 0 := h.tch t0 (fun _ _ _ h => h)
  have HT0 : Hid (Tch (fun _ => False) w w0) := t0
  have HW0 : Hid (w0 = w.alloc (.cells #[.int .i64 r.tb.id, .int .i64 r.tb.ver, .string r.tb.nm, .slice s.co r.tb.cols.length s.cc, .int .i64 r.tb.key] 73)) := hw0
  obtain ⟨-, hR0, hE0⟩ := HK.out w0 (Tch.refl _ _)
  have HR0 : Hid _ := hR0
  have HE0 : Hid _ := hE0
  clear h hg hw t0 b0 hw0 hR0 hE0
  try clear hr
  go_enter Tryz.func118, Tryz.ntmps118
  go_wp2_with fail
  have q1 := layTable_any b _ r.tb s.co s.cc w0 h0 HRT.out HR0.out.tb.sl (HNF.out) (by first | omega | (simp only [List.length_append]; omega))
  rw [HW0.out] at q1
  refine q1.mono ?_
  rintro x w1 ⟨rfl, h1, t1⟩
  rw [← HW0.out] at t1
  clear q1 h0
  have T1 := t1
  go_wp2_with fail
  go_end0
  refine ⟨rfl, ?_, wt_new HT0.out T1⟩
  unfold bodyL
  simpa only [List.append_assoc] using h1
theorem lay_3 (b : Nat) (bs : List UInt8) (r : Rc) (s : Sk) (w : World) (h : WS w b bs 0) (hg : HE w) (hgb : 0 < b) (hw : RW w (fun i => b ≤ i) r s) (hr : rightC 3 r) (hlen : bs.length + 100000 ≤ 140737488355328) :
    Calls Tryz.prog 142 #[.agg #[.int .i64 r.t, .slice s.no r.n.length s.nc], .pointer (some ⟨b, 0, none⟩)] w fun x w' => x = .returned (.tuple #[]) ∧ WS w' b (bs ++ bodyL 3 r) 0 ∧ Tch (WT b w) w w' := by
  obtain ⟨g1, -⟩ : rtN r.t ∧ rtRow r.n := hr
  unfold rtN at g1
  have hlt := h.lt
  obtain ⟨w0, hw0⟩ : ∃ w0, w0 = w.alloc (.cells #[.int .i64 r.t, .slice s.no r.n.length s.nc] 75) := ⟨_, rfl⟩
  have t0 : Tch (fun _ => False) w w0 := by rw [hw0]; exact Tch.alloc _ _ _
  have b0 : w0.heap[w.heap.size]? = some (.cells #[.int .i64 r.t, .slice s.no r.n.length s.nc] 75 (0, 0)) := by rw [hw0]; exact heap_new w _
  have HK : Hid (∀ W, Tch (WT b w0) w0 W → (W.cell? ⟨w.heap.size, 0, none⟩ = some (.int .i64 r.t) ∧ W.cell? ⟨w.heap.size, 1, none⟩ = some (.slice s.no r.n.length s.nc)) ∧ RW W (fun i => b ≤ i) r s ∧ HE W) := fun W t => by
    have hb := wt_keep t b0 (by decide) (by omega)
    exact ⟨⟨blk_cell hb 0, blk_cell hb 1⟩, (hw.no t0).tch t (fun i _ h => wt_ge h), (hg.tch t0 (fun h => h)).tch t (fun h => by have := wt_ge h; omega)⟩
  have h0 : WS w0 b bs 0 := h.tch t0 (fun _ _ _ h => h)
  have HT0 : Hid (Tch (fun _ => False) w w0) := t0
  have HW0 : Hid (w0 = w.alloc (.cells #[.int .i64 r.t, .slice s.no r.n.length s.nc] 75)) := hw0
  obtain ⟨-, hR0, hE0⟩ := HK.out w0 (Tch.refl _ _)
  have HR0 : Hid _ := hR0
  have HE0 : Hid _ := hE0
  clear h hg hw t0 b0 hw0 hR0 hE0
  try clear hr
  go_enter Tryz.func142, Tryz.ntmps142
  go_wp2_with fail
  have q1 := wvar_ok b _ r.t w0 h0 (by omega) (by omega) (by first | omega | (simp only [List.length_append]; omega))
  rw [HW0.out] at q1
  refine q1.mono ?_
  rintro x w1 ⟨rfl, h1, t1⟩
  rw [← HW0.out] at t1
  clear q1 h0
  have T1 := t1
  have l1 := fol_dg_len r.t.toNat
  obtain ⟨⟨y0, y1⟩, hR1, hE1⟩ := HK.out w1 T1
  have HR1 : Hid _ := hR1
  have HE1 : Hid _ := hE1
  clear hR1 hE1 t1
  go_wp2_with fail
  refine (layRow_any b _ r.n s.no s.nc w1 h1 HE1.out HR1.out.n HR1.out.ni HR1.out.nl (by first | omega | (simp only [List.length_append]; omega))).mono ?_
  rintro x w2 ⟨rfl, h2, t2⟩
  have T2 := wt_trans T1 t2
  clear y0 y1 h1 T1
  have l2 := rowL_len r.n
  go_wp2_with fail
  go_end0
  refine ⟨rfl, ?_, wt_new HT0.out T2⟩
  unfold bodyL
  simpa only [List.append_assoc] using h2
theorem lay_4 (b : Nat) (bs : List UInt8) (r : Rc) (s : Sk) (w : World) (h : WS w b bs 0) (hg : HE w) (hgb : 0 < b) (hw : RW w (fun i => b ≤ i) r s) (hr : rightC 4 r) (hlen : bs.length + 100000 ≤ 140737488355328) :
    Calls Tryz.prog 160 #[.agg #[.int .i64 r.t, .slice s.oo r.o.length s.oc, .slice s.no r.n.length s.nc], .pointer (some ⟨b, 0, none⟩)] w fun x w' => x = .returned (.tuple #[]) ∧ WS w' b (bs ++ bodyL 4 r) 0 ∧ Tch (WT b w) w w' := by
  obtain ⟨g1, -⟩ : rtN r.t ∧ rtRow r.o ∧ rtRow r.n := hr
  unfold rtN at g1
  have hlt := h.lt
  obtain ⟨w0, hw0⟩ : ∃ w0, w0 = w.alloc (.cells #[.int .i64 r.t, .slice s.oo r.o.length s.oc, .slice s.no r.n.length s.nc] 77) := ⟨_, rfl⟩
  have t0 : Tch (fun _ => False) w w0 := by rw [hw0]; exact Tch.alloc _ _ _
  have b0 : w0.heap[w.heap.size]? = some (.cells #[.int .i64 r.t, .slice s.oo r.o.length s.oc, .slice s.no r.n.length s.nc] 77 (0, 0)) := by rw [hw0]; exact heap_new w _
  have HK : Hid (∀ W, Tch (WT b w0) w0 W → (W.cell? ⟨w.heap.size, 0, none⟩ = some (.int .i64 r.t) ∧ W.cell? ⟨w.heap.size, 1, none⟩ = some (.slice s.oo r.o.length s.oc) ∧ W.cell? ⟨w.heap.size, 2, none⟩ = some (.slice s.no r.n.length s.nc)) ∧ RW W (fun i => b ≤ i) r s ∧ HE W) := fun W t => by
    have hb := wt_keep t b0 (by decide) (by omega)
    exact ⟨⟨blk_cell hb 0, blk_cell hb 1, blk_cell hb 2⟩, (hw.no t0).tch t (fun i _ h => wt_ge h), (hg.tch t0 (fun h => h)).tch t (fun h => by have := wt_ge h; omega)⟩
  have h0 : WS w0 b bs 0 := h.tch t0 (fun _ _ _ h => h)
  have HT0 : Hid (Tch (fun _ => False) w w0) := t0
  have HW0 : Hid (w0 = w.alloc (.cells #[.int .i64 r.t, .slice s.oo r.o.length s.oc, .slice s.no r.n.length s.nc] 77)) := hw0
  obtain ⟨-, hR0, hE0⟩ := HK.out w0 (Tch.refl _ _)
  have HR0 : Hid _ := hR0
  have HE0 : Hid _ := hE0
  clear h hg hw t0 b0 hw0 hR0 hE0
  try clear hr
  go_enter Tryz.func160, Tryz.ntmps160
  go_wp2_with fail
  have q1 := wvar_ok b _ r.t w0 h0 (by omega) (by omega) (by first | omega | (simp only [List.length_append]; omega))
  rw [HW0.out] at q1
  refine q1.mono ?_
  rintro x w1 ⟨rfl, h1, t1⟩
  rw [← HW0.out] at t1
  clear q1 h0
  have T1 := t1
  have l1 := fol_dg_len r.t.toNat
  obtain ⟨⟨y0, y1, y2⟩, hR1, hE1⟩ := HK.out w1 T1
  have HR1 : Hid _ := hR1
  have HE1 : Hid _ := hE1
  clear hR1 hE1 t1
  go_wp2_with fail
  refine (layRow_any b _ r.o s.oo s.oc w1 h1 HE1.out HR1.out.o HR1.out.oi HR1.out.ol (by first | omega | (simp only [List.length_append]; omega))).mono ?_
  rintro x w2 ⟨rfl, h2, t2⟩
  have T2 := wt_trans T1 t2
  clear y0 y1 y2 h1 T1
  have l2 := rowL_len r.o
  obtain ⟨⟨y0, y1, y2⟩, hR2, hE2⟩ := HK.out w2 T2
  have HR2 : Hid _ := hR2
  have HE2 : Hid _ := hE2
  clear hR2 hE2 t2
  go_wp2_with fail
  refine (layRow_any b _ r.n s.no s.nc w2 h2 HE2.out HR2.out.n HR2.out.ni HR2.out.nl (by first | omega | (simp only [List.length_append]; omega))).mono ?_
  rintro x w3 ⟨rfl, h3, t3⟩
  have T3 := wt_trans T2 t3
  clear y0 y1 y2 h2 T2
  have l3 := rowL_len r.n
  go_wp2_with fail
  go_end0
  refine ⟨rfl, ?_, wt_new HT0.out T3⟩
  unfold bodyL
  simpa only [List.append_assoc] using h3
theorem lay_5 (b : Nat) (bs : List UInt8) (r : Rc) (s : Sk) (w : World) (h : WS w b bs 0) (hg : HE w) (hgb : 0 < b) (hw : RW w (fun i => b ≤ i) r s) (hr : rightC 5 r) (hlen : bs.length + 100000 ≤ 140737488355328) :
    Calls Tryz.prog 164 #[.agg #[.int .i64 r.t, .slice s.oo r.o.length s.oc], .pointer (some ⟨b, 0, none⟩)] w fun x w' => x = .returned (.tuple #[]) ∧ WS w' b (bs ++ bodyL 5 r) 0 ∧ Tch (WT b w) w w' := by
  obtain ⟨g1, -⟩ : rtN r.t ∧ rtRow r.o := hr
  unfold rtN at g1
  have hlt := h.lt
  obtain ⟨w0, hw0⟩ : ∃ w0, w0 = w.alloc (.cells #[.int .i64 r.t, .slice s.oo r.o.length s.oc] 78) := ⟨_, rfl⟩
  have t0 : Tch (fun _ => False) w w0 := by rw [hw0]; exact Tch.alloc _ _ _
  have b0 : w0.heap[w.heap.size]? = some (.cells #[.int .i64 r.t, .slice s.oo r.o.length s.oc] 78 (0, 0)) := by rw [hw0]; exact heap_new w _
  have HK : Hid (∀ W, Tch (WT b w0) w0 W → (W.cell? ⟨w.heap.size, 0, none⟩ = some (.int .i64 r.t) ∧ W.cell? ⟨w.heap.size, 1, none⟩ = some (.slice s.oo r.o.length s.oc)) ∧ RW W (fun i => b ≤ i) r s ∧ HE W) := fun W t => by
    have hb := wt_keep t b0 (by decide) (by omega)
    exact ⟨⟨blk_cell hb 0, blk_cell hb 1⟩, (hw.no t0).tch t (fun i _ h => wt_ge h), (hg.tch t0 (fun h => h)).tch t (fun h => by have := wt_ge h; omega)⟩
  have h0 : WS w0 b bs 0 := h.tch t0 (fun _ _ _ h => h)
  have HT0 : Hid (Tch (fun _ => False) w w0) := t0
  have HW0 : Hid (w0 = w.alloc (.cells #[.int .i64 r.t, .slice s.oo r.o.length s.oc] 78)) := hw0
  obtain ⟨-, hR0, hE0⟩ := HK.out w0 (Tch.refl _ _)
  have HR0 : Hid _ := hR0
  have HE0 : Hid _ := hE0
  clear h hg hw t0 b0 hw0 hR0 hE0
  try clear hr
  go_enter Tryz.func164, Tryz.ntmps164
  go_wp2_with fail
  have q1 := wvar_ok b _ r.t w0 h0 (by omega) (by omega) (by first | omega | (simp only [List.length_append]; omega))
  rw [HW0.out] at q1
  refine q1.mono ?_
  rintro x w1 ⟨rfl, h1, t1⟩
  rw [← HW0.out] at t1
  clear q1 h0
  have T1 := t1
  have l1 := fol_dg_len r.t.toNat
  obtain ⟨⟨y0, y1⟩, hR1, hE1⟩ := HK.out w1 T1
  have HR1 : Hid _ := hR1
  have HE1 : Hid _ := hE1
  clear hR1 hE1 t1
  go_wp2_with fail
  refine (layRow_any b _ r.o s.oo s.oc w1 h1 HE1.out HR1.out.o HR1.out.oi HR1.out.ol (by first | omega | (simp only [List.length_append]; omega))).mono ?_
  rintro x w2 ⟨rfl, h2, t2⟩
  have T2 := wt_trans T1 t2
  clear y0 y1 h1 T1
  have l2 := rowL_len r.o
  go_wp2_with fail
  go_end0
  refine ⟨rfl, ?_, wt_new HT0.out T2⟩
  unfold bodyL
  simpa only [List.append_assoc] using h2
theorem lay_6 (b : Nat) (bs : List UInt8) (r : Rc) (s : Sk) (w : World) (h : WS w b bs 0) (hg : HE w) (hgb : 0 < b) (hw : RW w (fun i => b ≤ i) r s) (hr : rightC 6 r) (hlen : bs.length + 100000 ≤ 140737488355328) :
    Calls Tryz.prog 168 #[.agg #[.int .i64 r.t], .pointer (some ⟨b, 0, none⟩)] w fun x w' => x = .returned (.tuple #[]) ∧ WS w' b (bs ++ bodyL 6 r) 0 ∧ Tch (WT b w) w w' := by
  have g1 : rtN r.t := hr
  unfold rtN at g1
  have hlt := h.lt
  obtain ⟨w0, hw0⟩ : ∃ w0, w0 = w.alloc (.cells #[.int .i64 r.t] 80) := ⟨_, rfl⟩
  have t0 : Tch (fun _ => False) w w0 := by rw [hw0]; exact Tch.alloc _ _ _
  have b0 : w0.heap[w.heap.size]? = some (.cells #[.int .i64 r.t] 80 (0, 0)) := by rw [hw0]; exact heap_new w _
  have HK : Hid (∀ W, Tch (WT b w0) w0 W → (W.cell? ⟨w.heap.size, 0, none⟩ = some (.int .i64 r.t)) ∧ RW W (fun i => b ≤ i) r s ∧ HE W) := fun W t => by
    have hb := wt_keep t b0 (by decide) (by omega)
    exact ⟨blk_cell hb 0, (hw.no t0).tch t (fun i _ h => wt_ge h), (hg.tch t0 (fun h => h)).tch t (fun h => by have := wt_ge h; omega)⟩
  have h0 : WS w0 b bs 0 := h.tch t0 (fun _ _ _ h => h)
  have HT0 : Hid (Tch (fun _ => False) w w0) := t0
  have HW0 : Hid (w0 = w.alloc (.cells #[.int .i64 r.t] 80)) := hw0
  obtain ⟨-, hR0, hE0⟩ := HK.out w0 (Tch.refl _ _)
  have HR0 : Hid _ := hR0
  have HE0 : Hid _ := hE0
  clear h hg hw t0 b0 hw0 hR0 hE0
  try clear hr
  go_enter Tryz.func168, Tryz.ntmps168
  go_wp2_with fail
  have q1 := wvar_ok b _ r.t w0 h0 (by omega) (by omega) (by first | omega | (simp only [List.length_append]; omega))
  rw [HW0.out] at q1
  refine q1.mono ?_
  rintro x w1 ⟨rfl, h1, t1⟩
  rw [← HW0.out] at t1
  clear q1 h0
  have T1 := t1
  have l1 := fol_dg_len r.t.toNat
  go_wp2_with fail
  go_end0
  refine ⟨rfl, ?_, wt_new HT0.out T1⟩
  unfold bodyL
  simpa only [List.append_assoc] using h1
theorem lay_7 (b : Nat) (bs : List UInt8) (r : Rc) (s : Sk) (w : World) (h : WS w b bs 0) (hg : HE w) (hgb : 0 < b) (hw : RW w (fun i => b ≤ i) r s) (hr : rightC 7 r) (hlen : bs.length + 100000 ≤ 140737488355328) :
    Calls Tryz.prog 172 #[.agg #[.int .i64 r.x, .int .i64 r.l, .int .i64 r.e], .pointer (some ⟨b, 0, none⟩)] w fun x w' => x = .returned (.tuple #[]) ∧ WS w' b (bs ++ bodyL 7 r) 0 ∧ Tch (WT b w) w w' := by
  obtain ⟨⟨g1, g2⟩, g3, -⟩ : (rtN r.x ∧ rtP r.l) ∧ rtP r.e ∧ r.l < r.e := hr
  unfold rtN at g1
  unfold rtP at g2 g3
  have hlt := h.lt
  obtain ⟨w0, hw0⟩ : ∃ w0, w0 = w.alloc (.cells #[.int .i64 r.x, .int .i64 r.l, .int .i64 r.e] 82) := ⟨_, rfl⟩
  have t0 : Tch (fun _ => False) w w0 := by rw [hw0]; exact Tch.alloc _ _ _
  have b0 : w0.heap[w.heap.size]? = some (.cells #[.int .i64 r.x, .int .i64 r.l, .int .i64 r.e] 82 (0, 0)) := by rw [hw0]; exact heap_new w _
  have HK : Hid (∀ W, Tch (WT b w0) w0 W → (W.cell? ⟨w.heap.size, 0, none⟩ = some (.int .i64 r.x) ∧ W.cell? ⟨w.heap.size, 1, none⟩ = some (.int .i64 r.l) ∧ W.cell? ⟨w.heap.size, 2, none⟩ = some (.int .i64 r.e)) ∧ RW W (fun i => b ≤ i) r s ∧ HE W) := fun W t => by
    have hb := wt_keep t b0 (by decide) (by omega)
    exact ⟨⟨blk_cell hb 0, blk_cell hb 1, blk_cell hb 2⟩, (hw.no t0).tch t (fun i _ h => wt_ge h), (hg.tch t0 (fun h => h)).tch t (fun h => by have := wt_ge h; omega)⟩
  have h0 : WS w0 b bs 0 := h.tch t0 (fun _ _ _ h => h)
  have HT0 : Hid (Tch (fun _ => False) w w0) := t0
  have HW0 : Hid (w0 = w.alloc (.cells #[.int .i64 r.x, .int .i64 r.l, .int .i64 r.e] 82)) := hw0
  obtain ⟨-, hR0, hE0⟩ := HK.out w0 (Tch.refl _ _)
  have HR0 : Hid _ := hR0
  have HE0 : Hid _ := hE0
  clear h hg hw t0 b0 hw0 hR0 hE0
  try clear hr
  go_enter Tryz.func172, Tryz.ntmps172
  go_wp2_with fail
  have q1 := wvar_ok b _ r.x w0 h0 (by omega) (by omega) (by first | omega | (simp only [List.length_append]; omega))
  rw [HW0.out] at q1
  refine q1.mono ?_
  rintro x w1 ⟨rfl, h1, t1⟩
  rw [← HW0.out] at t1
  clear q1 h0
  have T1 := t1
  have l1 := fol_dg_len r.x.toNat
  obtain ⟨⟨y0, y1, y2⟩, hR1, hE1⟩ := HK.out w1 T1
  have HR1 : Hid _ := hR1
  have HE1 : Hid _ := hE1
  clear hR1 hE1 t1
  go_wp2_with fail
  refine (wvar_ok b _ r.l w1 h1 (by omega) (by omega) (by first | omega | (simp only [List.length_append]; omega))).mono ?_
  rintro x w2 ⟨rfl, h2, t2⟩
  have T2 := wt_trans T1 t2
  clear y0 y1 y2 h1 T1
  have l2 := fol_dg_len r.l.toNat
  obtain ⟨⟨y0, y1, y2⟩, hR2, hE2⟩ := HK.out w2 T2
  have HR2 : Hid _ := hR2
  have HE2 : Hid _ := hE2
  clear hR2 hE2 t2
  go_wp2_with fail
  refine (wvar_ok b _ r.e w2 h2 (by omega) (by omega) (by first | omega | (simp only [List.length_append]; omega))).mono ?_
  rintro x w3 ⟨rfl, h3, t3⟩
  have T3 := wt_trans T2 t3
  clear y0 y1 y2 h2 T2
  have l3 := fol_dg_len r.e.toNat
  go_wp2_with fail
  go_end0
  refine ⟨rfl, ?_, wt_new HT0.out T3⟩
  unfold bodyL
  simpa only [List.append_assoc] using h3
theorem lay_8 (b : Nat) (bs : List UInt8) (r : Rc) (s : Sk) (w : World) (h : WS w b bs 0) (hg : HE w) (hgb : 0 < b) (hw : RW w (fun i => b ≤ i) r s) (hr : rightC 8 r) (hlen : bs.length + 100000 ≤ 140737488355328) :
    Calls Tryz.prog 176 #[.agg #[.int .i64 r.k, .int .i64 r.l], .pointer (some ⟨b, 0, none⟩)] w fun x w' => x = .returned (.tuple #[]) ∧ WS w' b (bs ++ bodyL 8 r) 0 ∧ Tch (WT b w) w w' := by
  have g1 : rtP r.l := hr
  unfold rtP at g1
  have hlt := h.lt
  obtain ⟨w0, hw0⟩ : ∃ w0, w0 = w.alloc (.cells #[.int .i64 r.k, .int .i64 r.l] 84) := ⟨_, rfl⟩
  have t0 : Tch (fun _ => False) w w0 := by rw [hw0]; exact Tch.alloc _ _ _
  have b0 : w0.heap[w.heap.size]? = some (.cells #[.int .i64 r.k, .int .i64 r.l] 84 (0, 0)) := by rw [hw0]; exact heap_new w _
  have HK : Hid (∀ W, Tch (WT b w0) w0 W → (W.cell? ⟨w.heap.size, 0, none⟩ = some (.int .i64 r.k) ∧ W.cell? ⟨w.heap.size, 1, none⟩ = some (.int .i64 r.l)) ∧ RW W (fun i => b ≤ i) r s ∧ HE W) := fun W t => by
    have hb := wt_keep t b0 (by decide) (by omega)
    exact ⟨⟨blk_cell hb 0, blk_cell hb 1⟩, (hw.no t0).tch t (fun i _ h => wt_ge h), (hg.tch t0 (fun h => h)).tch t (fun h => by have := wt_ge h; omega)⟩
  have h0 : WS w0 b bs 0 := h.tch t0 (fun _ _ _ h => h)
  have HT0 : Hid (Tch (fun _ => False) w w0) := t0
  have HW0 : Hid (w0 = w.alloc (.cells #[.int .i64 r.k, .int .i64 r.l] 84)) := hw0
  obtain ⟨-, hR0, hE0⟩ := HK.out w0 (Tch.refl _ _)
  have HR0 : Hid _ := hR0
  have HE0 : Hid _ := hE0
  clear h hg hw t0 b0 hw0 hR0 hE0
  try clear hr
  go_enter Tryz.func176, Tryz.ntmps176
  go_wp2_with fail
  have q1 := wvar_ok b _ r.l w0 h0 (by omega) (by omega) (by first | omega | (simp only [List.length_append]; omega))
  rw [HW0.out] at q1
  refine q1.mono ?_
  rintro x w1 ⟨rfl, h1, t1⟩
  rw [← HW0.out] at t1
  clear q1 h0
  have T1 := t1
  have l1 := fol_dg_len r.l.toNat
  go_wp2_with fail
  go_end0
  refine ⟨rfl, ?_, wt_new HT0.out T1⟩
  unfold bodyL
  simpa only [List.append_assoc] using h1
end Go.Proofs.YteaagnlhkopgdaaGreatDoor.C
