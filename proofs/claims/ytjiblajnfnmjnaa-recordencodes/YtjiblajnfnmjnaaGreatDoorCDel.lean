import Derived.Test.YtjiblajnfnmjnaaGreatDoorRS0
import Derived.Test.YtjiblajnfnmjnaaGreatDoorCChg
import Derived.Deep.RegionLaw
set_option maxHeartbeats 8000000
set_option maxRecDepth 100000
namespace Go.Proofs.YtjiblajnfnmjnaaGreatDoor.C
open Go.RowKit
theorem TL.no {W W' : World} {F : Nat → Prop} {to : Option Addr} {P : List (Tbl × Value)} (h : TL W F to P) (t : Tch (fun _ => False) W W') : TL W' F to P := h.tch t (fun _ _ h => h.elim)
theorem eqTabs_any (P Q : List (Tbl × Value)) (po qo : Option Addr) (pc qc : Nat) (F G : Nat → Prop) (w : World) (hP : TL w F po P) (hQ : TL w G qo Q) (h1 : P.length ≤ 9223372036854775807) (h2 : ∀ i (hi : i < P.length), P[i].1.cols.length ≤ 9223372036854775807) :
    Calls Tryz.prog 104 #[.slice po P.length pc, .slice qo Q.length qc, .func (.func 103) #[] #[]] w fun x w' => EqT (P.map Prod.fst = Q.map Prod.fst) w x w' := by
  have HML : Hid (P.map Prod.fst = Q.map Prod.fst → P.length = Q.length) := fun h => by have := congrArg List.length h; simpa using this
  by_cases hl : P.length = Q.length
  · have HA : Hid (∀ W, Tch (fun _ => False) w W → TL W F po P) := fun W t => hP.no t
    have HB : Hid (∀ W, Tch (fun _ => False) w W → TL W G qo Q) := fun W t => hQ.no t
    have H2 : Hid _ := h2
    have HL : Hid (P.length = Q.length) := hl
    obtain ⟨n, hn⟩ : ∃ n, n = P.length := ⟨_, rfl⟩
    have hn2 : n = Q.length := by omega
    rw [← hn, ← hn2]
    have HN : Hid (n = P.length ∧ n = Q.length) := ⟨hn, hn2⟩
    rw [← hn] at h1
    clear hP hQ hl hn hn2 h2
    go_enter Tryz.func104, Tryz.ntmps104
    go_wp2_with fail
    go_loopw [17] (fun i wr => ∃ (k : Nat), i = .int .i64 k ∧ k ≤ n ∧ Hid (∀ j (h1 : j < P.length) (h2 : j < Q.length), j < k → P[j].1 = Q[j].1) ∧ Hid (Tch (fun _ => False) w wr)) (fun i _ => n - (intOf i).toNat)
    case atStart => exact ⟨0, rfl, by omega, fun j _ _ h => by omega, Tch.refl _ _⟩
    case round =>
      obtain ⟨k, rfl, hk, HE, HT⟩ := hrel
      by_cases hlt : (k : Int) < n
      · have hA := HA.out wr HT.out
        have hB := HB.out wr HT.out
        have hx : k < P.length := by have := HN.out.1; omega
        have hy : k < Q.length := by have := HN.out.2; omega
        obtain ⟨ga, oa, rfl, a0, a1, a2, a3, a4⟩ := hA.at k hx
        obtain ⟨gb, ob, rfl, b0, b1, b2, b3, b4⟩ := hB.at k hy
        obtain ⟨co, cc, hc⟩ := hA.col k hx
        obtain ⟨do', dc, hd⟩ := hB.col k hy
        have h2k := H2.out k hx
        obtain ⟨p, hp⟩ : ∃ p, p = P[k] := ⟨_, rfl⟩
        obtain ⟨q, hq⟩ : ∃ q, q = Q[k] := ⟨_, rfl⟩
        rw [← hp] at a0 a1 a2 a3 a4 hc h2k
        rw [← hq] at b0 b1 b2 b3 b4 hd
        rw [hc.eq] at a3
        rw [hd.eq] at b3
        have HU : Hid (p = P[k] ∧ q = Q[k]) := ⟨hp, hq⟩
        have HS : Hid (∀ W, Tch (fun _ => False) wr W → Calls Tryz.prog 103 #[tA p.1.id p.1.ver p.1.nm (.slice co p.1.cols.length cc) p.1.key, tA q.1.id q.1.ver q.1.nm (.slice do' q.1.cols.length dc) q.1.key] W fun x w' => EqT (p.1 = q.1) W x w') := fun W t => sameTab_any p.1 q.1 co do' cc dc W (hc.sl.no t) (hd.sl.no t) h2k
        have T2 : ∀ o1 o2, Tch (fun _ => False) wr ((wr.alloc o1).alloc o2) := fun o1 o2 => (Tch.alloc _ _ _).allocR _
        have HT2 : Hid _ := T2
        have x0 := ((Tch.alloc (fun _ => False) wr (.cells #[.int .i64 p.1.id, .int .i64 p.1.ver, .string p.1.nm, .slice co p.1.cols.length cc, .int .i64 p.1.key] 29)).cell (p := ⟨gb, ob + k * 5, none⟩) (cell_lt b0) (fun h => h)).trans b0
        have x1 := ((Tch.alloc (fun _ => False) wr (.cells #[.int .i64 p.1.id, .int .i64 p.1.ver, .string p.1.nm, .slice co p.1.cols.length cc, .int .i64 p.1.key] 29)).cell (p := ⟨gb, ob + k * 5 + 1, none⟩) (cell_lt b1) (fun h => h)).trans b1
        have x2 := ((Tch.alloc (fun _ => False) wr (.cells #[.int .i64 p.1.id, .int .i64 p.1.ver, .string p.1.nm, .slice co p.1.cols.length cc, .int .i64 p.1.key] 29)).cell (p := ⟨gb, ob + k * 5 + 2, none⟩) (cell_lt b2) (fun h => h)).trans b2
        have x3 := ((Tch.alloc (fun _ => False) wr (.cells #[.int .i64 p.1.id, .int .i64 p.1.ver, .string p.1.nm, .slice co p.1.cols.length cc, .int .i64 p.1.key] 29)).cell (p := ⟨gb, ob + k * 5 + 3, none⟩) (cell_lt b3) (fun h => h)).trans b3
        have x4 := ((Tch.alloc (fun _ => False) wr (.cells #[.int .i64 p.1.id, .int .i64 p.1.ver, .string p.1.nm, .slice co p.1.cols.length cc, .int .i64 p.1.key] 29)).cell (p := ⟨gb, ob + k * 5 + 4, none⟩) (cell_lt b4) (fun h => h)).trans b4
        clear hA hB hc hd hp hq T2 h2k
        go_wp2_with fail
        refine (HS.out _ (HT2.out _ _)).mono ?_
        rintro x w1 ⟨d, rfl, hd, t1⟩
        have HD : Hid (d = true ↔ p.1 = q.1) := hd
        have HT1 : Hid (Tch (fun _ => False) w w1) := (HT.out.trans' (HT2.out _ _)).trans' t1
        clear hd t1 a0 a1 a2 a3 a4 b0 b1 b2 b3 b4 x0 x1 x2 x3 x4
        cases d
        · go_wp2_with fail
          go_ret
          refine eqT_no (fun e => ?_) HT1.out
          have h3 : (P.map Prod.fst)[k]? = (Q.map Prod.fst)[k]? := by rw [e]
          rw [List.getElem?_map, List.getElem?_map, List.getElem?_eq_getElem hx, List.getElem?_eq_getElem hy] at h3
          have h4 := HD.out.2 (by rw [HU.out.1, HU.out.2]; simpa using h3)
          simp at h4
        · have HE2 : Hid (∀ j (h1 : j < P.length) (h2 : j < Q.length), j < k + 1 → P[j].1 = Q[j].1) := fun j h1 h2 hj => by
            rcases Nat.lt_or_ge j k with h | h
            · exact HE.out j h1 h2 h
            · obtain rfl : j = k := by omega
              rw [← HU.out.1, ← HU.out.2]
              exact HD.out.1 (by trivial)
          go_wp2_with fail
          go_roundw
          case rel => exact ⟨k + 1, by go_num, by omega, HE2, HT1⟩
          case measure => simp [intOf]; omega
      · go_wp2_with fail
        go_ret
        refine ⟨true, rfl, ⟨fun _ => ?_, fun _ => rfl⟩, HT.out⟩
        refine List.ext_getElem (by simpa using HL.out) (fun j h1 h2 => ?_)
        rw [List.getElem_map, List.getElem_map]
        rw [List.length_map] at h1 h2
        exact HE.out j h1 h2 (by have := HN.out.1; omega)
  · have hl' : ((P.length : Int) != Q.length) = true := by simp; omega
    clear hP hQ
    go_enter Tryz.func104, Tryz.ntmps104
    go_wp2_with fail
    go_ret
    exact eqT_no (fun h => hl (HML.out h)) (Tch.refl _ _)
abbrev rA (k x p t : Int) (o n : Value) (nm : ByteArray) (org id ver : Int) (tn : ByteArray) (cs : Value) (key : Int) (ts : Value) : Value := .agg #[.int .i64 k, .int .i64 x, .int .i64 p, .int .i64 t, o, n, .string nm, .int .i64 org, .int .i64 id, .int .i64 ver, .string tn, cs, .int .i64 key, ts]
structure Sk where
  oo : Option Addr
  oc : Nat
  no : Option Addr
  nc : Nat
  co : Option Addr
  cc : Nat
  P : List (Tbl × Value)
  to : Option Addr
  tc : Nat
def sk0 : Sk := ⟨none, 0, none, 0, none, 0, [], none, 0⟩
abbrev rV (r : Rc) (s : Sk) : Value := rA r.k r.x r.p r.t (.slice s.oo r.o.length s.oc) (.slice s.no r.n.length s.nc) r.nm r.org r.tb.id r.tb.ver r.tb.nm (.slice s.co r.tb.cols.length s.cc) r.tb.key (.slice s.to s.P.length s.tc)
structure RW (W : World) (F : Nat → Prop) (r : Rc) (s : Sk) : Prop where
  o : SL W s.oo (vcl r.o)
  n : SL W s.no (vcl r.n)
  tb : CK W F (r.tb, .slice s.co r.tb.cols.length s.cc) s.co s.cc
  tbs : TL W F s.to s.P
  eq : s.P.map Prod.fst = r.tbs
  onf : r.o ≠ [] → ∀ g o, s.oo = some ⟨g, o, none⟩ → ¬ F g
  nnf : r.n ≠ [] → ∀ g o, s.no = some ⟨g, o, none⟩ → ¬ F g
  oi : ∀ v ∈ r.o, v.i64
  ni : ∀ v ∈ r.n, v.i64
  ol : r.o.length ≤ 9223372036854775807
  nl : r.n.length ≤ 9223372036854775807
  cl : r.tb.cols.length ≤ 9223372036854775807
  tl : s.P.length ≤ 9223372036854775807
  pl : ∀ i (hi : i < s.P.length), s.P[i].1.cols.length ≤ 9223372036854775807
theorem RW.tch {S F : Nat → Prop} {W W' : World} {r : Rc} {s : Sk} (h : RW W F r s) (t : Tch S W W') (hS : ∀ i, i < W.heap.size → S i → F i) : RW W' F r s := by
  refine ⟨fun hc => ?_, fun hc => ?_, h.tb.tch t hS, h.tbs.tch t hS, h.eq, h.onf, h.nnf, h.oi, h.ni, h.ol, h.nl, h.cl, h.tl, h.pl⟩
  · obtain ⟨g, o, e, ha⟩ := h.o hc
    have hne : r.o ≠ [] := fun e0 => hc (by rw [e0]; rfl)
    exact ⟨g, o, e, ha.tch t (fun _ hs => h.onf hne g o e (hS g (ha.lt hc) hs))⟩
  · obtain ⟨g, o, e, ha⟩ := h.n hc
    have hne : r.n ≠ [] := fun e0 => hc (by rw [e0]; rfl)
    exact ⟨g, o, e, ha.tch t (fun _ hs => h.nnf hne g o e (hS g (ha.lt hc) hs))⟩
theorem RW.no {F : Nat → Prop} {W W' : World} {r : Rc} {s : Sk} (h : RW W F r s) (t : Tch (fun _ => False) W W') : RW W' F r s := h.tch t (fun _ _ h => h.elim)
def bV (c : Nat) (r : Rc) (s : Sk) : Value := match c with
  | 1 => .iface 128 (.agg #[.int .i64 r.x])
  | 2 => .iface 130 (.agg #[.int .i64 r.x, .int .i64 r.p])
  | 3 => .iface 132 (.agg #[.int .i64 r.x, .int .i64 r.t, .slice s.no r.n.length s.nc])
  | 4 => .iface 134 (.agg #[.int .i64 r.x, .int .i64 r.t, .slice s.oo r.o.length s.oc, .slice s.no r.n.length s.nc])
  | 5 => .iface 135 (.agg #[.int .i64 r.x, .int .i64 r.t, .slice s.oo r.o.length s.oc])
  | 6 => .iface 137 (.agg #[.int .i64 r.x, .string r.nm, .int .i64 r.org])
  | 7 => .iface 139 (.agg #[.int .i64 r.x, .string r.nm])
  | 8 => .iface 141 (.agg #[.int .i64 r.x, .int .i64 r.tb.id, .int .i64 r.tb.ver, .string r.tb.nm, .slice s.co r.tb.cols.length s.cc, .int .i64 r.tb.key])
  | 9 => .iface 143 (.agg #[.int .i64 r.x, .int .i64 r.t])
  | 10 => .iface 145 (.agg #[.int .i64 r.x, .int .i64 r.t, .slice s.to s.P.length s.tc])
  | _ => .nilIface
def cutS (c : Nat) (s : Sk) : Sk := match c with
  | 3 => { sk0 with no := s.no, nc := s.nc }
  | 4 => { sk0 with oo := s.oo, oc := s.oc, no := s.no, nc := s.nc }
  | 5 => { sk0 with oo := s.oo, oc := s.oc }
  | 8 => { sk0 with co := s.co, cc := s.cc }
  | 10 => { sk0 with P := s.P, to := s.to, tc := s.tc }
  | _ => sk0
theorem bodyOf_1 (r : Rc) (s : Sk) (w : World) (hk : r.k = 1) : Calls Tryz.prog 36 #[rV r s] w fun x w' => x = .returned (bV 1 r s) ∧ Tch (fun _ => False) w w' := by
  rw [rV, hk]
  go_enter Tryz.func36, Tryz.ntmps36
  go_wp2
  go_ret
  exact ⟨rfl, Tch.alloc _ _ _⟩
theorem bodyOf_2 (r : Rc) (s : Sk) (w : World) (hk : r.k = 2) : Calls Tryz.prog 36 #[rV r s] w fun x w' => x = .returned (bV 2 r s) ∧ Tch (fun _ => False) w w' := by
  rw [rV, hk]
  go_enter Tryz.func36, Tryz.ntmps36
  go_wp2
  go_ret
  exact ⟨rfl, Tch.alloc _ _ _⟩
theorem bodyOf_3 (r : Rc) (s : Sk) (w : World) (hk : r.k = 3) : Calls Tryz.prog 36 #[rV r s] w fun x w' => x = .returned (bV 3 r s) ∧ Tch (fun _ => False) w w' := by
  rw [rV, hk]
  go_enter Tryz.func36, Tryz.ntmps36
  go_wp2
  go_ret
  exact ⟨rfl, Tch.alloc _ _ _⟩
theorem bodyOf_4 (r : Rc) (s : Sk) (w : World) (hk : r.k = 4) : Calls Tryz.prog 36 #[rV r s] w fun x w' => x = .returned (bV 4 r s) ∧ Tch (fun _ => False) w w' := by
  rw [rV, hk]
  go_enter Tryz.func36, Tryz.ntmps36
  go_wp2
  go_ret
  exact ⟨rfl, Tch.alloc _ _ _⟩
theorem bodyOf_5 (r : Rc) (s : Sk) (w : World) (hk : r.k = 5) : Calls Tryz.prog 36 #[rV r s] w fun x w' => x = .returned (bV 5 r s) ∧ Tch (fun _ => False) w w' := by
  rw [rV, hk]
  go_enter Tryz.func36, Tryz.ntmps36
  go_wp2
  go_ret
  exact ⟨rfl, Tch.alloc _ _ _⟩
theorem bodyOf_6 (r : Rc) (s : Sk) (w : World) (hk : r.k = 6) : Calls Tryz.prog 36 #[rV r s] w fun x w' => x = .returned (bV 1 r s) ∧ Tch (fun _ => False) w w' := by
  rw [rV, hk]
  go_enter Tryz.func36, Tryz.ntmps36
  go_wp2
  go_ret
  exact ⟨rfl, Tch.alloc _ _ _⟩
theorem bodyOf_7 (r : Rc) (s : Sk) (w : World) (hk : r.k = 7) : Calls Tryz.prog 36 #[rV r s] w fun x w' => x = .returned (bV 1 r s) ∧ Tch (fun _ => False) w w' := by
  rw [rV, hk]
  go_enter Tryz.func36, Tryz.ntmps36
  go_wp2
  go_ret
  exact ⟨rfl, Tch.alloc _ _ _⟩
theorem bodyOf_8 (r : Rc) (s : Sk) (w : World) (hk : r.k = 8) : Calls Tryz.prog 36 #[rV r s] w fun x w' => x = .returned (bV 6 r s) ∧ Tch (fun _ => False) w w' := by
  rw [rV, hk]
  go_enter Tryz.func36, Tryz.ntmps36
  go_wp2
  go_ret
  exact ⟨rfl, Tch.alloc _ _ _⟩
theorem bodyOf_9 (r : Rc) (s : Sk) (w : World) (hk : r.k = 9) : Calls Tryz.prog 36 #[rV r s] w fun x w' => x = .returned (bV 1 r s) ∧ Tch (fun _ => False) w w' := by
  rw [rV, hk]
  go_enter Tryz.func36, Tryz.ntmps36
  go_wp2
  go_ret
  exact ⟨rfl, Tch.alloc _ _ _⟩
theorem bodyOf_10 (r : Rc) (s : Sk) (w : World) (hk : r.k = 10) : Calls Tryz.prog 36 #[rV r s] w fun x w' => x = .returned (bV 7 r s) ∧ Tch (fun _ => False) w w' := by
  rw [rV, hk]
  go_enter Tryz.func36, Tryz.ntmps36
  go_wp2
  go_ret
  exact ⟨rfl, Tch.alloc _ _ _⟩
theorem bodyOf_11 (r : Rc) (s : Sk) (w : World) (hk : r.k = 11) : Calls Tryz.prog 36 #[rV r s] w fun x w' => x = .returned (bV 8 r s) ∧ Tch (fun _ => False) w w' := by
  rw [rV, hk]
  go_enter Tryz.func36, Tryz.ntmps36
  go_wp2
  go_ret
  exact ⟨rfl, Tch.alloc _ _ _⟩
theorem bodyOf_12 (r : Rc) (s : Sk) (w : World) (hk : r.k = 12) : Calls Tryz.prog 36 #[rV r s] w fun x w' => x = .returned (bV 9 r s) ∧ Tch (fun _ => False) w w' := by
  rw [rV, hk]
  go_enter Tryz.func36, Tryz.ntmps36
  go_wp2
  go_ret
  exact ⟨rfl, Tch.alloc _ _ _⟩
theorem bodyOf_13 (r : Rc) (s : Sk) (w : World) (hk : r.k = 13) : Calls Tryz.prog 36 #[rV r s] w fun x w' => x = .returned (bV 8 r s) ∧ Tch (fun _ => False) w w' := by
  rw [rV, hk]
  go_enter Tryz.func36, Tryz.ntmps36
  go_wp2
  go_ret
  exact ⟨rfl, Tch.alloc _ _ _⟩
theorem bodyOf_14 (r : Rc) (s : Sk) (w : World) (hk : r.k = 14) : Calls Tryz.prog 36 #[rV r s] w fun x w' => x = .returned (bV 9 r s) ∧ Tch (fun _ => False) w w' := by
  rw [rV, hk]
  go_enter Tryz.func36, Tryz.ntmps36
  go_wp2
  go_ret
  exact ⟨rfl, Tch.alloc _ _ _⟩
theorem bodyOf_15 (r : Rc) (s : Sk) (w : World) (hk : r.k = 15) : Calls Tryz.prog 36 #[rV r s] w fun x w' => x = .returned (bV 10 r s) ∧ Tch (fun _ => False) w w' := by
  rw [rV, hk]
  go_enter Tryz.func36, Tryz.ntmps36
  go_wp2
  go_ret
  exact ⟨rfl, Tch.alloc _ _ _⟩
theorem bodyOf_no (r : Rc) (s : Sk) (w : World) (hk : ¬ (1 ≤ r.k ∧ r.k ≤ 15)) : Calls Tryz.prog 36 #[rV r s] w fun x w' => x = .returned .nilIface ∧ Tch (fun _ => False) w w' := by
  have e1 : (r.k == 1) = false := int_ne (by omega)
  have e2 : (r.k == 2) = false := int_ne (by omega)
  have e3 : (r.k == 3) = false := int_ne (by omega)
  have e4 : (r.k == 4) = false := int_ne (by omega)
  have e5 : (r.k == 5) = false := int_ne (by omega)
  have e6 : (r.k == 6) = false := int_ne (by omega)
  have e7 : (r.k == 7) = false := int_ne (by omega)
  have e8 : (r.k == 8) = false := int_ne (by omega)
  have e9 : (r.k == 9) = false := int_ne (by omega)
  have e10 : (r.k == 10) = false := int_ne (by omega)
  have e11 : (r.k == 11) = false := int_ne (by omega)
  have e12 : (r.k == 12) = false := int_ne (by omega)
  have e13 : (r.k == 13) = false := int_ne (by omega)
  have e14 : (r.k == 14) = false := int_ne (by omega)
  have e15 : (r.k == 15) = false := int_ne (by omega)
  clear hk
  go_enter Tryz.func36, Tryz.ntmps36
  go_wp2
  go_ret
  exact ⟨rfl, Tch.alloc _ _ _⟩
theorem cls_no (k : Int) (hk : ¬ (1 ≤ k ∧ k ≤ 15)) : cls k = 0 := by
  rcases cls_rng k with h | h
  · exact h
  · exact absurd ⟨h.1, h.2.1⟩ hk
theorem bodyOf_any (r : Rc) (s : Sk) (w : World) : Calls Tryz.prog 36 #[rV r s] w fun x w' => x = .returned (bV (cls r.k) r s) ∧ Tch (fun _ => False) w w' := by
  by_cases hk : 1 ≤ r.k ∧ r.k ≤ 15
  · have h15 : r.k = 1 ∨ r.k = 2 ∨ r.k = 3 ∨ r.k = 4 ∨ r.k = 5 ∨ r.k = 6 ∨ r.k = 7 ∨ r.k = 8 ∨ r.k = 9 ∨ r.k = 10 ∨ r.k = 11 ∨ r.k = 12 ∨ r.k = 13 ∨ r.k = 14 ∨ r.k = 15 := by omega
    rcases h15 with h | h | h | h | h | h | h | h | h | h | h | h | h | h | h
    · have e : cls r.k = 1 := by rw [h]; rfl
      rw [e]; exact bodyOf_1 r s w h
    · have e : cls r.k = 2 := by rw [h]; rfl
      rw [e]; exact bodyOf_2 r s w h
    · have e : cls r.k = 3 := by rw [h]; rfl
      rw [e]; exact bodyOf_3 r s w h
    · have e : cls r.k = 4 := by rw [h]; rfl
      rw [e]; exact bodyOf_4 r s w h
    · have e : cls r.k = 5 := by rw [h]; rfl
      rw [e]; exact bodyOf_5 r s w h
    · have e : cls r.k = 1 := by rw [h]; rfl
      rw [e]; exact bodyOf_6 r s w h
    · have e : cls r.k = 1 := by rw [h]; rfl
      rw [e]; exact bodyOf_7 r s w h
    · have e : cls r.k = 6 := by rw [h]; rfl
      rw [e]; exact bodyOf_8 r s w h
    · have e : cls r.k = 1 := by rw [h]; rfl
      rw [e]; exact bodyOf_9 r s w h
    · have e : cls r.k = 7 := by rw [h]; rfl
      rw [e]; exact bodyOf_10 r s w h
    · have e : cls r.k = 8 := by rw [h]; rfl
      rw [e]; exact bodyOf_11 r s w h
    · have e : cls r.k = 9 := by rw [h]; rfl
      rw [e]; exact bodyOf_12 r s w h
    · have e : cls r.k = 8 := by rw [h]; rfl
      rw [e]; exact bodyOf_13 r s w h
    · have e : cls r.k = 9 := by rw [h]; rfl
      rw [e]; exact bodyOf_14 r s w h
    · have e : cls r.k = 10 := by rw [h]; rfl
      rw [e]; exact bodyOf_15 r s w h
  · rw [cls_no _ hk]; exact bodyOf_no r s w hk
theorem Rc.ext' {a b : Rc} (h : a.k = b.k ∧ a.x = b.x ∧ a.p = b.p ∧ a.t = b.t ∧ a.o = b.o ∧ a.n = b.n ∧ a.nm = b.nm ∧ a.org = b.org ∧ a.tb = b.tb ∧ a.tbs = b.tbs) : a = b := by
  obtain ⟨a1, a2, a3, a4, a5, a6, a7, a8, a9, a10⟩ := a
  obtain ⟨b1, b2, b3, b4, b5, b6, b7, b8, b9, b10⟩ := b
  simp at h
  simp [h]
theorem eqT_of {P : Program} {f : FuncId} {ar : Array Value} {xs ys : List Val} {W : World} (h : Calls P f ar W fun x w' => EqOut xs ys W x w') : Calls P f ar W fun x w' => EqT (xs = ys) W x w' := h.mono (fun _ _ ⟨b, h1, h2, m, h3⟩ => ⟨b, h1, h2, by rw [h3]; exact (Tch.refl _ _).drewN m⟩)
theorem same_r (a b : Rc) (s u : Sk) (F G : Nat → Prop) (w : World) (h1 : RW w F a s) (h2 : RW w G b u) : Calls Tryz.prog 66 #[rV a s, rV b u] w fun x w' => EqT (a = b) w x w' := by
  obtain ⟨w0, hw0⟩ : ∃ w0, w0 = (w.alloc (.cells #[.int .i64 a.k, .int .i64 a.x, .int .i64 a.p, .int .i64 a.t, .slice s.oo a.o.length s.oc, .slice s.no a.n.length s.nc, .string a.nm, .int .i64 a.org, .int .i64 a.tb.id, .int .i64 a.tb.ver, .string a.tb.nm, .slice s.co a.tb.cols.length s.cc, .int .i64 a.tb.key, .slice s.to s.P.length s.tc] 37)).alloc (.cells #[.int .i64 b.k, .int .i64 b.x, .int .i64 b.p, .int .i64 b.t, .slice u.oo b.o.length u.oc, .slice u.no b.n.length u.nc, .string b.nm, .int .i64 b.org, .int .i64 b.tb.id, .int .i64 b.tb.ver, .string b.tb.nm, .slice u.co b.tb.cols.length u.cc, .int .i64 b.tb.key, .slice u.to u.P.length u.tc] 37) := ⟨_, rfl⟩
  have t0 : Tch (fun _ => False) w w0 := by rw [hw0]; exact (Tch.alloc _ _ _).allocR _
  have bA : w0.heap[w.heap.size]? = some (.cells #[.int .i64 a.k, .int .i64 a.x, .int .i64 a.p, .int .i64 a.t, .slice s.oo a.o.length s.oc, .slice s.no a.n.length s.nc, .string a.nm, .int .i64 a.org, .int .i64 a.tb.id, .int .i64 a.tb.ver, .string a.tb.nm, .slice s.co a.tb.cols.length s.cc, .int .i64 a.tb.key, .slice s.to s.P.length s.tc] 37 (0, 0)) := by
    rw [hw0]; exact ((Tch.alloc (fun _ => False) _ _).block _ (by simp) (fun h => h)).trans (heap_new w _)
  have bB : w0.heap[w.heap.size + 1]? = some (.cells #[.int .i64 b.k, .int .i64 b.x, .int .i64 b.p, .int .i64 b.t, .slice u.oo b.o.length u.oc, .slice u.no b.n.length u.nc, .string b.nm, .int .i64 b.org, .int .i64 b.tb.id, .int .i64 b.tb.ver, .string b.tb.nm, .slice u.co b.tb.cols.length u.cc, .int .i64 b.tb.key, .slice u.to u.P.length u.tc] 37 (0, 0)) := by
    rw [hw0, ← World.size_alloc]; exact heap_new _ _
  have HK : Hid (∀ W, Tch (fun _ => False) w0 W → W.heap[w.heap.size]? = some (.cells #[.int .i64 a.k, .int .i64 a.x, .int .i64 a.p, .int .i64 a.t, .slice s.oo a.o.length s.oc, .slice s.no a.n.length s.nc, .string a.nm, .int .i64 a.org, .int .i64 a.tb.id, .int .i64 a.tb.ver, .string a.tb.nm, .slice s.co a.tb.cols.length s.cc, .int .i64 a.tb.key, .slice s.to s.P.length s.tc] 37 (0, 0)) ∧ W.heap[w.heap.size + 1]? = some (.cells #[.int .i64 b.k, .int .i64 b.x, .int .i64 b.p, .int .i64 b.t, .slice u.oo b.o.length u.oc, .slice u.no b.n.length u.nc, .string b.nm, .int .i64 b.org, .int .i64 b.tb.id, .int .i64 b.tb.ver, .string b.tb.nm, .slice u.co b.tb.cols.length u.cc, .int .i64 b.tb.key, .slice u.to u.P.length u.tc] 37 (0, 0))) := fun W t =>
    ⟨(t.block _ (blk_lt bA) (fun h => h)).trans bA, (t.block _ (blk_lt bB) (fun h => h)).trans bB⟩
  have HO : Hid (∀ W, Tch (fun _ => False) w W → Calls Tryz.prog 102 #[.slice s.oo a.o.length s.oc, .slice u.oo b.o.length u.oc] W fun x w' => EqT (a.o = b.o) W x w') := fun W t => eqT_of <| same_any a.o b.o s.oo u.oo s.oc u.oc W (h1.no t).o.row (h2.no t).o.row h1.ol
  have HN : Hid (∀ W, Tch (fun _ => False) w W → Calls Tryz.prog 102 #[.slice s.no a.n.length s.nc, .slice u.no b.n.length u.nc] W fun x w' => EqT (a.n = b.n) W x w') := fun W t => eqT_of <| same_any a.n b.n s.no u.no s.nc u.nc W (h1.no t).n.row (h2.no t).n.row h1.nl
  have HT : Hid (∀ W, Tch (fun _ => False) w W → Calls Tryz.prog 103 #[tA a.tb.id a.tb.ver a.tb.nm (.slice s.co a.tb.cols.length s.cc) a.tb.key, tA b.tb.id b.tb.ver b.tb.nm (.slice u.co b.tb.cols.length u.cc) b.tb.key] W fun x w' => EqT (a.tb = b.tb) W x w') := fun W t => sameTab_any a.tb b.tb s.co u.co s.cc u.cc W (h1.no t).tb.sl (h2.no t).tb.sl h1.cl
  have HL : Hid (∀ W, Tch (fun _ => False) w W → Calls Tryz.prog 104 #[.slice s.to s.P.length s.tc, .slice u.to u.P.length u.tc, .func (.func 103) #[] #[]] W fun x w' => EqT (s.P.map Prod.fst = u.P.map Prod.fst) W x w') := fun W t => eqTabs_any s.P u.P s.to u.to s.tc u.tc F G W (h1.no t).tbs (h2.no t).tbs h1.tl h1.pl
  have HEA : Hid (s.P.map Prod.fst = a.tbs ∧ u.P.map Prod.fst = b.tbs) := ⟨h1.eq, h2.eq⟩
  have HT0 : Hid (Tch (fun _ => False) w w0) := t0
  have HW0 : Hid (w0 = (w.alloc (.cells #[.int .i64 a.k, .int .i64 a.x, .int .i64 a.p, .int .i64 a.t, .slice s.oo a.o.length s.oc, .slice s.no a.n.length s.nc, .string a.nm, .int .i64 a.org, .int .i64 a.tb.id, .int .i64 a.tb.ver, .string a.tb.nm, .slice s.co a.tb.cols.length s.cc, .int .i64 a.tb.key, .slice s.to s.P.length s.tc] 37)).alloc (.cells #[.int .i64 b.k, .int .i64 b.x, .int .i64 b.p, .int .i64 b.t, .slice u.oo b.o.length u.oc, .slice u.no b.n.length u.nc, .string b.nm, .int .i64 b.org, .int .i64 b.tb.id, .int .i64 b.tb.ver, .string b.tb.nm, .slice u.co b.tb.cols.length u.cc, .int .i64 b.tb.key, .slice u.to u.P.length u.tc] 37)) := hw0
  clear h1 h2 bA bB t0 hw0
  by_cases e1 : a.k = b.k
  · have e1' := int_eq' e1
    have E1 : Hid (a.k = b.k) := e1
    clear e1
    by_cases e2 : a.x = b.x
    · have e2' := int_eq' e2
      have E2 : Hid (a.x = b.x) := e2
      clear e2
      by_cases e3 : a.p = b.p
      · have e3' := int_eq' e3
        have E3 : Hid (a.p = b.p) := e3
        clear e3
        by_cases e4 : a.t = b.t
        · have e4' := int_eq' e4
          have E4 : Hid (a.t = b.t) := e4
          clear e4
          by_cases e7 : a.nm = b.nm
          · have e7' := bs_eq e7
            have E7 : Hid (a.nm = b.nm) := e7
            clear e7
            by_cases e8 : a.org = b.org
            · have e8' := int_eq' e8
              have E8 : Hid (a.org = b.org) := e8
              clear e8
              go_enter Tryz.func66, Tryz.ntmps66
              go_wp2_with fail
              have qo := HO.out w0 HT0.out
              rw [HW0.out] at qo
              refine qo.mono ?_
              rintro x w1 ⟨d1, rfl, hd1, t1⟩
              rw [← HW0.out] at t1
              have D1 : Hid (d1 = true ↔ a.o = b.o) := hd1
              clear qo hd1
              have T1 : Tch (fun _ => False) w w1 := HT0.out.trans' t1
              cases d1
              · go_wp2_with fail
                go_ret
                exact eqT_no (fun e => by have := D1.out.2 (by rw [e]); simp at this) T1
              · skip
                obtain ⟨bA, bB⟩ := HK.out w1 t1
                have a5 := blk_cell bA 5
                have b5 := blk_cell bB 5
                simp only [List.getElem?_toArray, List.getElem?_cons_succ, List.getElem?_cons_zero] at a5 b5
                clear bA bB
                go_wp2_with fail
                refine (HN.out w1 T1).mono ?_
                rintro x w2 ⟨d2, rfl, hd2, t2⟩
                have D2 : Hid (d2 = true ↔ a.n = b.n) := hd2
                have T2 := T1.trans' t2
                have U2 := t1.trans' t2
                clear hd2 a5 b5 t2 t1 T1
                cases d2
                · go_wp2_with fail
                  go_ret
                  exact eqT_no (fun e => by have := D2.out.2 (by rw [e]); simp at this) T2
                · skip
                  obtain ⟨bA, bB⟩ := HK.out w2 U2
                  have a6 := blk_cell bA 6
                  have b6 := blk_cell bB 6
                  have a7 := blk_cell bA 7
                  have b7 := blk_cell bB 7
                  have a8 := blk_cell bA 8
                  have b8 := blk_cell bB 8
                  have a9 := blk_cell bA 9
                  have b9 := blk_cell bB 9
                  have a10 := blk_cell bA 10
                  have b10 := blk_cell bB 10
                  have a11 := blk_cell bA 11
                  have b11 := blk_cell bB 11
                  have a12 := blk_cell bA 12
                  have b12 := blk_cell bB 12
                  simp only [List.getElem?_toArray, List.getElem?_cons_succ, List.getElem?_cons_zero] at a6 b6 a7 b7 a8 b8 a9 b9 a10 b10 a11 b11 a12 b12
                  clear bA bB
                  go_wp2_with fail
                  refine (HT.out w2 T2).mono ?_
                  rintro x w3 ⟨d3, rfl, hd3, t3⟩
                  have D3 : Hid (d3 = true ↔ a.tb = b.tb) := hd3
                  have T3 := T2.trans' t3
                  have U3 := U2.trans' t3
                  clear hd3 t3 T2 U2 a6 b6 a7 b7 a8 b8 a9 b9 a10 b10 a11 b11 a12 b12
                  cases d3
                  · go_wp2_with fail
                    go_ret
                    exact eqT_no (fun e => by have := D3.out.2 (by rw [e]); simp at this) T3
                  · skip
                    obtain ⟨bA, bB⟩ := HK.out w3 U3
                    have a13 := blk_cell bA 13
                    have b13 := blk_cell bB 13
                    simp only [List.getElem?_toArray, List.getElem?_cons_succ, List.getElem?_cons_zero] at a13 b13
                    clear bA bB
                    go_wp2_with fail
                    refine (HL.out _ T3).mono ?_
                    rintro x w4 ⟨d4, rfl, hd4, t4⟩
                    have D4 : Hid (d4 = true ↔ s.P.map Prod.fst = u.P.map Prod.fst) := hd4
                    clear hd4
                    have T4 := T3.trans' t4
                    cases d4
                    · go_wp2_with fail
                      go_ret
                      exact eqT_no (fun e => by have := D4.out.2 (by rw [HEA.out.1, HEA.out.2, e]); simp at this) T4
                    · go_wp2_with fail
                      go_ret
                      refine ⟨true, rfl, ⟨fun _ => Rc.ext' ⟨E1.out, E2.out, E3.out, E4.out, D1.out.1 (by trivial), D2.out.1 (by trivial), E7.out, E8.out, D3.out.1 (by trivial), ?_⟩, fun _ => rfl⟩, T4⟩
                      rw [← HEA.out.1, ← HEA.out.2]
                      exact D4.out.1 (by trivial)
            · have e8' := int_ne e8
              go_enter Tryz.func66, Tryz.ntmps66
              go_wp2_with fail
              have qo := HO.out w0 HT0.out
              rw [HW0.out] at qo
              refine qo.mono ?_
              rintro x w1 ⟨d1, rfl, hd1, t1⟩
              rw [← HW0.out] at t1
              have D1 : Hid (d1 = true ↔ a.o = b.o) := hd1
              clear qo hd1
              have T1 : Tch (fun _ => False) w w1 := HT0.out.trans' t1
              cases d1
              · go_wp2_with fail
                go_ret
                exact eqT_no (fun e => by have := D1.out.2 (by rw [e]); simp at this) T1
              · skip
                obtain ⟨bA, bB⟩ := HK.out w1 t1
                have a5 := blk_cell bA 5
                have b5 := blk_cell bB 5
                simp only [List.getElem?_toArray, List.getElem?_cons_succ, List.getElem?_cons_zero] at a5 b5
                clear bA bB
                go_wp2_with fail
                refine (HN.out w1 T1).mono ?_
                rintro x w2 ⟨d2, rfl, hd2, t2⟩
                have D2 : Hid (d2 = true ↔ a.n = b.n) := hd2
                have T2 := T1.trans' t2
                have U2 := t1.trans' t2
                clear hd2 a5 b5 t2 t1 T1
                cases d2
                · go_wp2_with fail
                  go_ret
                  exact eqT_no (fun e => by have := D2.out.2 (by rw [e]); simp at this) T2
                · skip
                  obtain ⟨bA, bB⟩ := HK.out w2 U2
                  have a6 := blk_cell bA 6
                  have b6 := blk_cell bB 6
                  have a7 := blk_cell bA 7
                  have b7 := blk_cell bB 7
                  simp only [List.getElem?_toArray, List.getElem?_cons_succ, List.getElem?_cons_zero] at a6 b6 a7 b7
                  clear bA bB
                  go_wp2_with fail
                  go_ret
                  exact eqT_no (fun e => e8 (by rw [e])) T2
          · have e7' := bs_ne e7
            go_enter Tryz.func66, Tryz.ntmps66
            go_wp2_with fail
            have qo := HO.out w0 HT0.out
            rw [HW0.out] at qo
            refine qo.mono ?_
            rintro x w1 ⟨d1, rfl, hd1, t1⟩
            rw [← HW0.out] at t1
            have D1 : Hid (d1 = true ↔ a.o = b.o) := hd1
            clear qo hd1
            have T1 : Tch (fun _ => False) w w1 := HT0.out.trans' t1
            cases d1
            · go_wp2_with fail
              go_ret
              exact eqT_no (fun e => by have := D1.out.2 (by rw [e]); simp at this) T1
            · skip
              obtain ⟨bA, bB⟩ := HK.out w1 t1
              have a5 := blk_cell bA 5
              have b5 := blk_cell bB 5
              simp only [List.getElem?_toArray, List.getElem?_cons_succ, List.getElem?_cons_zero] at a5 b5
              clear bA bB
              go_wp2_with fail
              refine (HN.out w1 T1).mono ?_
              rintro x w2 ⟨d2, rfl, hd2, t2⟩
              have D2 : Hid (d2 = true ↔ a.n = b.n) := hd2
              have T2 := T1.trans' t2
              have U2 := t1.trans' t2
              clear hd2 a5 b5 t2 t1 T1
              cases d2
              · go_wp2_with fail
                go_ret
                exact eqT_no (fun e => by have := D2.out.2 (by rw [e]); simp at this) T2
              · skip
                obtain ⟨bA, bB⟩ := HK.out w2 U2
                have a6 := blk_cell bA 6
                have b6 := blk_cell bB 6
                simp only [List.getElem?_toArray, List.getElem?_cons_succ, List.getElem?_cons_zero] at a6 b6
                clear bA bB
                go_wp2_with fail
                go_ret
                exact eqT_no (fun e => e7 (by rw [e])) T2
        · have e4' := int_ne e4
          go_enter Tryz.func66, Tryz.ntmps66
          go_wp2_with fail
          go_ret
          exact eqT_no (fun e => e4 (by rw [e])) (by have h := HT0.out; rw [HW0.out] at h; exact h)
      · have e3' := int_ne e3
        go_enter Tryz.func66, Tryz.ntmps66
        go_wp2_with fail
        go_ret
        exact eqT_no (fun e => e3 (by rw [e])) (by have h := HT0.out; rw [HW0.out] at h; exact h)
    · have e2' := int_ne e2
      go_enter Tryz.func66, Tryz.ntmps66
      go_wp2_with fail
      go_ret
      exact eqT_no (fun e => e2 (by rw [e])) (by have h := HT0.out; rw [HW0.out] at h; exact h)
  · have e1' := int_ne e1
    go_enter Tryz.func66, Tryz.ntmps66
    go_wp2_with fail
    go_ret
    exact eqT_no (fun e => e1 (by rw [e])) (by have h := HT0.out; rw [HW0.out] at h; exact h)
open Go.RowKit Go
end Go.Proofs.YtjiblajnfnmjnaaGreatDoor.C
