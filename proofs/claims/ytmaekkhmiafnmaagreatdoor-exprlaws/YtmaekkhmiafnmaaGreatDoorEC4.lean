import Derived.Test.YtmaekkhmiafnmaaGreatDoorEP22
import Derived.Test.YtmaekkhmiafnmaaGreatDoorELn
import Derived.Test.YtmaekkhmiafnmaaGreatDoorEC2
import Derived.Test.YtmaekkhmiafnmaaGreatDoorEP4
import Derived.Deep.RegionHeld3
set_option maxHeartbeats 4000000
set_option maxRecDepth 100000
namespace Go.Proofs.YtmaekkhmiafnmaaGreatDoor
open Go.RowKit Go Go.Lib
variable {F : Nat → Prop}
theorem TR.cells {w : World} {o : Nat} {no : Bool} {v : Val} {nm : ByteArray} {l : List Ex} {b : Nat} (h : TR w F (.mk o no v nm l) b) : w.cell? ⟨b, 0, none⟩ = some (.int .i64 (o : Nat)) ∧ w.cell? ⟨b, 1, none⟩ = some (.bool no) ∧ w.cell? ⟨b, 2, none⟩ = some (.int .i64 v.k) ∧ w.cell? ⟨b, 3, none⟩ = some (.int .i64 v.n) ∧ w.cell? ⟨b, 4, none⟩ = some (.string v.s) ∧ w.cell? ⟨b, 5, none⟩ = some (.string nm) ∧
    ∃ ao c, w.cell? ⟨b, 6, none⟩ = some (.slice ao l.length c) ∧ l.length ≤ c ∧ (l ≠ [] → ∃ g i, ao = some ⟨g, i, none⟩ ∧ ∀ (k : Nat) (e : Ex), l[k]? = some e → ∃ d, w.cell? ⟨g, i + k, none⟩ = some (ptV d) ∧ TR w F e d) := by
  unfold TR at h
  obtain ⟨h0, c0, c1, c2, c3, c4, c5, ao, c, c6, hc, hl⟩ := h
  refine ⟨c0, c1, c2, c3, c4, c5, ao, c, c6, hc, fun hne => ?_⟩
  obtain ⟨g, i, e, _, hr⟩ := hl hne
  obtain ⟨bs, h1, h2, h3⟩ := TRl.blocks hr
  refine ⟨g, i, e, fun k x hx => ?_⟩
  have hk : k < l.length := (List.getElem?_eq_some_iff.1 hx).1
  have hb : bs[k]? = some (bs[k]'(by omega)) := List.getElem?_eq_getElem (by omega)
  exact ⟨_, h3 k _ hb, h2 k x _ hx hb⟩
theorem dep_take (l : List Ex) (k : Nat) (hk : k < l.length) : depL (l.take (k + 1)) = max (depL (l.take k)) (dep l[k]) := by
  rw [List.take_succ_eq_append_getElem hk, depL_app, depL_one]
theorem depL_get : ∀ (l : List Ex) (k : Nat) (e : Ex), l[k]? = some e → dep e ≤ depL l
  | [], k, e, h => by simp at h
  | x :: l, 0, e, h => by simp at h; subst h; show dep x ≤ max (dep x) (depL l); omega
  | x :: l, k + 1, e, h => by
    have := depL_get l k e (by simpa using h)
    show dep e ≤ max (dep x) (depL l); omega
theorem depL_take_le (l : List Ex) (k : Nat) : depL (l.take k) ≤ depL l := by
  have h := depL_app (l.take k) (l.drop k)
  rw [List.take_append_drop] at h
  omega
theorem depth_any : ∀ (n : Nat) (e : Ex) (b : Nat) (w : World), dep e ≤ n → gdE e → TR w F e b →
    Calls Tryz.prog 21 #[ptV b] w fun x w' => x = .returned (.int .i64 (dep e : Nat)) ∧ w' = w
  | 0, .mk o no v nm l, b, w, hn, _, _ => by rw [dep_mk] at hn; omega
  | n + 1, .mk o no v nm l, b, w, hn, hg, h => by
    have hN := hg.dp
    obtain ⟨_, _, hln, hgd⟩ := hg.part
    rw [dep_mk] at hn hN
    obtain ⟨_, _, _, _, _, _, ao, c, c6, hc, hl⟩ := h.cells
    have ih := depth_any n
    have HI : Hid ((∀ (e : Ex) (b : Nat), dep e ≤ n → gdE e → TR w F e b → Calls Tryz.prog 21 #[ptV b] w fun x w' => x = .returned (.int .i64 (dep e : Nat)) ∧ w' = w) ∧ depL l ≤ n ∧ (depL l ≤ 100000000 ∧ ∀ (k : Nat) (e : Ex), l[k]? = some e → gdE e) ∧ (l ≠ [] → ∃ g i, ao = some ⟨g, i, none⟩ ∧ ∀ (k : Nat) (e : Ex), l[k]? = some e → ∃ d, w.cell? ⟨g, i + k, none⟩ = some (ptV d) ∧ TR w F e d)) := ⟨fun e b h1 h2 h3 => ih e b w h1 h2 h3, by omega, ⟨by omega, hgd⟩, hl⟩
    obtain ⟨ll, hll⟩ : ∃ ll, ll = l.length := ⟨_, rfl⟩
    rw [← hll] at c6 hc hln
    have Hll : Hid _ := hll
    clear ih h hl hn hN hll hg hgd
    go_enter Tryz.func21, Tryz.ntmps21
    go_wp2
    go_loopw [3, 11] (fun dv iv wr => ∃ k : Nat, iv = .int .i64 k ∧ k ≤ ll ∧ dv = .int .i64 (depL (l.take k) : Nat) ∧ wr = w) (fun _ iv _ => ll - (RowKit.intOf iv).toNat)
    case atStart => exact ⟨0, rfl, by omega, rfl, rfl⟩
    case round =>
      obtain ⟨k, rfl, hk, rfl, rfl⟩ := hrel
      by_cases hlt : k < ll
      · have hltI : (k : Int) < (ll : Int) := by omega
        have hkl : k < l.length := by rw [← Hll.out]; exact hlt
        obtain ⟨g, i, rfl, hg⟩ := HI.out.2.2.2 (by intro e; rw [e] at hkl; simp at hkl)
        obtain ⟨d, c1, hd⟩ := hg k l[k] (List.getElem?_eq_getElem hkl)
        have hdk := depL_get l k _ (List.getElem?_eq_getElem hkl)
        have q := HI.out.1 l[k] d (by have := HI.out.2.1; omega) (HI.out.2.2.1.2 k _ (List.getElem?_eq_getElem hkl)) hd
        obtain ⟨dk, hdk2⟩ : ∃ dk, dk = dep l[k] := ⟨_, rfl⟩
        obtain ⟨dt, hdt⟩ : ∃ dt, dt = depL (l.take k) := ⟨_, rfl⟩
        have Hnx : Hid (depL (l.take (k + 1)) = max dt dk) := (show _ = _ from by rw [dep_take l k hkl, hdk2, hdt])
        rw [← hdk2] at q hdk
        rw [← hdt]
        have hb1 : dk ≤ 100000000 := by have := HI.out.2.1; have := HI.out.2.2.1.1; omega
        have hb2 : dt ≤ 100000000 := by have := depL_take_le l k; have := HI.out.2.2.1.1; omega
        clear hg hd hdk hdk2 hdt
        go_wp2_with fail
        refine q.mono ?_
        rintro y w1 ⟨rfl, rfl⟩
        clear q
        go_wp2_with fail
        go_roundw
        case rel =>
          refine ⟨k + 1, by first | trivial | rfl, by omega, ?_, by first | trivial | rfl⟩
          rw [Hnx.out, show ((max dt dk : Nat) : Int) = max (dt : Int) (dk : Int) by omega]
        case measure => simp [RowKit.intOf]; omega
      · have hltI : ¬ (k : Int) < (ll : Int) := by omega
        have Hke : Hid (depL (l.take k) = depL l) := (show _ = _ from by rw [List.take_of_length_le (by rw [← Hll.out]; omega)])
        have hb3 : depL l ≤ 100000000 := by have := HI.out.2.1; have := HI.out.2.2.1.1; omega
        rw [Hke.out]
        obtain ⟨dt, hdt⟩ : ∃ dt, dt = depL l := ⟨_, rfl⟩
        rw [← hdt] at hb3 ⊢
        have Hdt : Hid _ := hdt
        clear hdt
        go_wp2_with fail
        go_ret
        refine ⟨?_, rfl⟩
        rw [dep_mk, ← Hdt.out]
        rfl
def PaOut (F : Nat → Prop) (r : Option Ex × Int × Int) (x : Ending) (w' : World) : Prop :=
  (∃ e b, r = (some e, 0, 0) ∧ x = .returned (.tuple #[ptV b, .int .i64 0, .int .i64 0]) ∧ TR w' F e b ∧ gdE e) ∨
  (∃ why p, r = (none, why, p) ∧ x = .returned (.tuple #[.pointer none, .int .i64 why, .int .i64 p]))
theorem parse11_any (s : ByteArray) (w : World) (hw : HWd w) (hv : HV w) (hsh : HSh w) (hg : 10 ≤ w.heap.size) :
    Calls Tryz.prog 10 #[.string s] w fun x w' => PaOut (fun i => i < w.heap.size) (parE s) x w' ∧ Tch (fun _ => False) w w' := by
  by_cases h400 : 400 < s.size
  · have hp : Hid (parE s = (none, 110, 400)) := (show parE s = _ from by unfold parE; rw [if_pos h400])
    have hI : (400 : Int) < (s.size : Int) := by omega
    clear hw hv hsh hg
    go_enter Tryz.func10, Tryz.ntmps10
    go_wp2
    go_ret3
    exact ⟨Or.inr ⟨110, 400, hp.out, rfl⟩, Tch.refl _ _⟩
  · have hI : ¬ (400 : Int) < (s.size : Int) := by omega
    have HPo : Hid (∀ e r, rdAll (toksE s) = .ok [e] r → parE s = if 20 < dep e then (none, 111, 0) else (some e, 0, 0)) := fun e r h => by unfold parE; rw [if_neg h400, h]
    have HPn : Hid (∀ why p, rdAll (toksE s) = .no why p → parE s = (none, why, (p : Int))) := fun why p h => by unfold parE; rw [if_neg h400, h]
    have q := read_any s (by omega) w hw hv hsh hg
    have HS : Hid (s.size ≤ 400) := (show s.size ≤ 400 by omega)
    clear hw hv hsh hg h400
    go_enter Tryz.func10, Tryz.ntmps10
    go_wp2_with fail
    refine q.mono ?_
    rintro y w1 ⟨hy, t1⟩
    clear q
    obtain ⟨e, b, hR, rfl, hT⟩ | ⟨why, p, hR, rfl⟩ := hy
    · have HR := HPo.out _ _ hR
      obtain ⟨e', he, hgd⟩ := rdAll_gd HS.out hR
      obtain rfl : e = e' := by injection he
      have HT : Hid (TR (w1.alloc (.cells #[.int .i64 0, .int .i64 0] 57)) (fun i => i < w.heap.size) e b) := TR.tch (Tch.alloc (fun _ => False) _ _) (fun _ h => h.elim) hT
      have q := depth_any (dep e) e b (w1.alloc (.cells #[.int .i64 0, .int .i64 0] 57)) (Nat.le_refl _) hgd HT.out
      have HR1 : Hid (parE s = if 20 < dep e then (none, 111, 0) else (some e, 0, 0)) := HR
      have HG : Hid (gdE e ∧ Tch (fun _ => False) w (w1.alloc (.cells #[.int .i64 0, .int .i64 0] 57))) := ⟨hgd, t1.allocR _⟩
      obtain ⟨de, hde⟩ : ∃ de, de = dep e := ⟨_, rfl⟩
      rw [← hde] at q HR1
      clear HR hgd he hR hT t1 hde
      go_wp2_with fail
      refine q.mono ?_
      rintro y w2 ⟨rfl, rfl⟩
      clear q
      by_cases h20 : 20 < de
      · have h20I : (20 : Int) < (de : Int) := by omega
        have HR2 : Hid (parE s = (none, 111, 0)) := (show parE s = _ from by rw [HR1.out, if_pos h20])
        clear HR1 h20
        go_wp2_with fail
        go_ret3
        exact ⟨Or.inr ⟨111, 0, HR2.out, rfl⟩, HG.out.2⟩
      · have h20I : ¬ (20 : Int) < (de : Int) := by omega
        have HR2 : Hid (parE s = (some e, 0, 0)) := (show parE s = _ from by rw [HR1.out, if_neg h20])
        clear HR1 h20
        go_wp2_with fail
        go_ret3
        exact ⟨Or.inl ⟨e, b, HR2.out, rfl, HT.out, HG.out.1⟩, HG.out.2⟩
    · have HR := HPn.out _ _ hR
      have HR1 : Hid (parE s = (none, why, (p : Int))) := HR
      have h0 : ¬ why = 0 := by rcases rdAll_no hR with h | h <;> omega
      have HT : Hid _ := t1
      clear HR hR t1
      go_wp2_with fail
      go_quiet (fail)
      go_wp2_with fail
      go_ret3
      exact ⟨Or.inr ⟨why, p, HR1.out, rfl⟩, (by have h := HT.out.allocR (.cells #[.int .i64 why, .int .i64 (p : Nat)] 57); exact ⟨h.os, h.tape, h.output, h.size, h.block⟩)⟩
end Go.Proofs.YtmaekkhmiafnmaaGreatDoor
namespace Go.Proofs.YtmaekkhmiafnmaaGreatDoor
open Go.RowKit Go Go.Lib
theorem mk_ints11 (n : Nat) (hn : n ≤ 1000000) (w : World) : (Instr.makeSlice 55 (.int .i64 n) (.int .i64 n)).run Tryz.prog w = .ok (.slice (some ⟨w.heap.size, 0, none⟩) n n) (w.alloc (.cells (intc (List.replicate n 0)).toArray 3)) := by
  obtain ⟨i0, hi, hz0, hz1, hz2⟩ := info_parts info_int
  have h := run_make (P := Tryz.prog) w 55 3 i0 (.int .i64 0) Tryz.underlying55 hi hz0 .i64 .i64 n n (by omega) (Int.le_refl _) (by rw [hz2]; omega) (by omega)
  rw [h, hz1]
  have e : madeCells (Value.int .i64 0).cells ((n : Int).toNat * 1) = (intc (List.replicate n 0)).toArray := by
    have h1 := toList_madeCells_one (.int .i64 0) ((n : Int).toNat * 1)
    have h2 : (madeCells (Value.int .i64 0).cells ((n : Int).toNat * 1)).toList = intc (List.replicate n 0) := by
      refine h1.trans ?_
      simp [intc]
    rw [← h2]
  rw [e]; simp
abbrev tb11 (id ver : Int) (nm : ByteArray) (ao : Option Addr) (n c : Nat) (key : Int) : Value := .agg #[.int .i64 id, .int .i64 ver, .string nm, .slice ao n c, .int .i64 key]
theorem chk_mk (cs : List (ByteArray × Int)) (o : Nat) (no : Bool) (v : Val) (nm : ByteArray) (l : List Ex) : chk cs (.mk o no v nm l) = if o = 0 then (v.k, 0) else if o = 1 then kndOf cs nm else if (chk.chkL cs l).2 ≠ 0 then (0, (chk.chkL cs l).2) else if (hlds o (chk.chkL cs l).1).2 = true then ((hlds o (chk.chkL cs l).1).1, 0) else (0, 113) := rfl
theorem chkL_ok (cs : List (ByteArray × Int)) : ∀ l : List Ex, (∀ (j : Nat) (e : Ex), l[j]? = some e → (chk cs e).2 = 0) → chk.chkL cs l = (l.map (fun e => (chk cs e).1), 0)
  | [], _ => rfl
  | e :: l, h => by
    have h0 := h 0 e rfl
    have ih := chkL_ok cs l fun j e he => h (j + 1) e (by simpa using he)
    show (if (chk cs e).2 ≠ 0 then ([], (chk cs e).2) else ((chk cs e).1 :: (chk.chkL cs l).1, (chk.chkL cs l).2)) = _
    rw [if_neg (fun h => h h0), ih]
    rfl
theorem chkL_err (cs : List (ByteArray × Int)) : ∀ (l : List Ex) (k : Nat) (x : Ex), l[k]? = some x → (∀ (j : Nat) (e : Ex), j < k → l[j]? = some e → (chk cs e).2 = 0) → (chk cs x).2 ≠ 0 → (chk.chkL cs l).2 = (chk cs x).2
  | [], _, _, hx, _, _ => by simp at hx
  | e :: l, k, x, hx, h, hk => by
    show (if (chk cs e).2 ≠ 0 then ([], (chk cs e).2) else ((chk cs e).1 :: (chk.chkL cs l).1, (chk.chkL cs l).2)).2 = _
    cases k with
    | zero =>
      simp at hx
      subst hx
      rw [if_pos hk]
    | succ k =>
      rw [if_neg (fun hne => hne (h 0 e (by omega) rfl))]
      exact chkL_err cs l k x (by simpa using hx) (fun j e hj he => h (j + 1) e (by omega) (by simpa using he)) hk
theorem set_step {α : Type} (A : List α) (x y : α) (Z : List α) : (A ++ y :: Z).toArray.setIfInBounds A.length x = (A ++ x :: Z).toArray := by
  simp
def kb11 (cs : List (ByteArray × Int)) (l : List Ex) (k : Nat) : List Int := (l.take k).map (fun e => (chk cs e).1) ++ List.replicate (l.length - k) 0
theorem kb11_step (cs : List (ByteArray × Int)) (l : List Ex) (k : Nat) (hk : k < l.length) : (intc (kb11 cs l k)).toArray.setIfInBounds k (.int .i64 (chk cs l[k]).1) = (intc (kb11 cs l (k + 1))).toArray := by
  have h1 : intc (kb11 cs l k) = intc ((l.take k).map (fun e => (chk cs e).1)) ++ .int .i64 0 :: intc (List.replicate (l.length - (k + 1)) 0) := by
    unfold kb11
    rw [show l.length - k = (l.length - (k + 1)) + 1 by omega, List.replicate_succ, intc, List.map_append, List.map_cons]
  have h2 : intc (kb11 cs l (k + 1)) = intc ((l.take k).map (fun e => (chk cs e).1)) ++ .int .i64 (chk cs l[k]).1 :: intc (List.replicate (l.length - (k + 1)) 0) := by
    unfold kb11
    rw [List.take_succ_eq_append_getElem hk, List.map_append, intc, List.map_append, List.map_append]
    simp
  rw [h1, h2]
  have hl : (intc ((l.take k).map (fun e => (chk cs e).1))).length = k := by simp; omega
  conv => lhs; arg 2; rw [← hl]
  exact set_step _ _ _ _
theorem kb11_all (cs : List (ByteArray × Int)) (l : List Ex) : kb11 cs l l.length = l.map (fun e => (chk cs e).1) := by
  unfold kb11; simp
theorem kb11_zero (cs : List (ByteArray × Int)) (l : List Ex) : kb11 cs l 0 = List.replicate l.length 0 := by
  unfold kb11; simp
theorem check_any (C : List Col11) (ao : Option Addr) (cp : Nat) (id ver key : Int) (tn : ByteArray) (hCl : C.length ≤ 1000000000) : ∀ (n : Nat) (F : Nat → Prop) (e : Ex) (b : Nat) (w : World), dep e ≤ n → gdE e → TR w F e b → SL w ao (colc C) →
    Calls Tryz.prog 14 #[ptV b, tb11 id ver tn ao C.length cp key] w fun x w' => x = .returned (.tuple #[.int .i64 (chk (csO C) e).1, .int .i64 (chk (csO C) e).2]) ∧ Tch (fun _ => False) w w'
  | 0, _, .mk o no v nm l, b, w, hn, _, _, _ => by rw [dep_mk] at hn; omega
  | n + 1, F, .mk o no v nm l, b, w, hn, hg, h, hC => by
    obtain ⟨_, har, hln, hgd⟩ := hg.part
    rw [dep_mk] at hn
    obtain ⟨c0, c1, c2, c3, c4, c5, ao2, c, c6, hc, hl⟩ := h.cells
    have ih := check_any C ao cp id ver key tn hCl n
    have hbl := cell_lt c0
    obtain ⟨R, hR⟩ : ∃ R, R = chk (csO C) (.mk o no v nm l) := ⟨_, rfl⟩
    rw [← hR]
    rw [chk_mk] at hR
    obtain ⟨N, hN⟩ : ∃ N, N = w.heap.size := ⟨_, rfl⟩
    obtain ⟨nC, hnC⟩ : ∃ nC, nC = C.length := ⟨_, rfl⟩
    obtain ⟨w0, hw0⟩ : ∃ w0, w0 = w.alloc (.cells #[.int .i64 id, .int .i64 ver, .string tn, .slice ao nC cp, .int .i64 key] 42) := ⟨_, rfl⟩
    have t0 : Tch (fun _ => False) w w0 := by rw [hw0]; exact Tch.alloc _ _ _
    have bx : w0.heap[N]? = some (.cells #[.int .i64 id, .int .i64 ver, .string tn, .slice ao nC cp, .int .i64 key] 42 (0, 0)) := by rw [hw0, hN]; exact alloc_new _ _
    have hz0 : w0.heap.size = N + 1 := by rw [hw0, hN]; simp
    by_cases h0 : o = 0
    · have HR : Hid (R = (v.k, 0)) := (show R = _ from by rw [hR, if_pos h0])
      subst h0
      clear hR ih hl hC h hgd hw0 t0 bx hz0 hN hnC
      go_enter Tryz.func14, Tryz.ntmps14
      go_wp2
      go_ret2
      exact ⟨by rw [HR.out]; rfl, Tch.alloc _ _ _⟩
    · rw [if_neg h0] at hR
      by_cases h1 : o = 1
      · have HR : Hid (R = kndOf (csO C) nm) := (show R = _ from by rw [hR, if_pos h1])
        subst h1
        have Hq : Hid (∀ W, Tch (fun _ => False) w0 W → Calls Tryz.prog 29 #[.slice ao nC cp, .string nm] W fun x w' => x = .returned (.tuple #[.int .i64 R.1, .int .i64 R.2]) ∧ Tch (fun _ => False) W w') := fun W t => by
          rw [HR.out, hnC]
          exact kindOf_any nm C ao cp W (hC.no (t0.trans' t)) hCl
        have HS : Hid (∀ W, Tch (fun _ => False) w0 W → Tch (fun _ => False) w0 W ∧ W.cell? ⟨w.heap.size, 3, none⟩ = some (.slice ao nC cp) ∧ W.cell? ⟨b, 5, none⟩ = some (.string nm)) := fun W t => by
          refine ⟨t, ?_, ((t0.trans' t).cell (p := ⟨b, 5, none⟩) hbl (fun h => h)).trans c5⟩
          rw [← hN, blk_cell ((t.block N (by omega) (fun h => h)).trans bx)]; rfl
        have Ht0 : Hid _ := t0
        have Hw0 : Hid _ := hw0
        rw [← hnC]
        clear hR ih hl hC h hgd hw0 t0 bx hz0 hN hnC c1 c2 c3 c4 c6
        go_enter Tryz.func14, Tryz.ntmps14
        go_wp2_with fail
        rw [← Hw0.out]
        obtain ⟨_, d3, d5⟩ := HS.out w0 (Tch.refl _ _)
        clear c5 c0
        go_region_held3 (fun W => Tch (fun _ => False) w0 W ∧ W.cell? ⟨w.heap.size, 3, none⟩ = some (.slice ao nC cp) ∧ W.cell? ⟨b, 5, none⟩ = some (.string nm))
          ((refine HS.out _ ?_; first | assumption | exact (Tch.refl _ _).drew))
          ((go_at_call 29; refine (Hq.out _ (by first | exact (show _ ∧ _ by assumption).1 | exact (Tch.refl _ _).drew)).mono ?_; rintro y w5 ⟨rfl, t5⟩; have V5 := Tch.trans' (show _ ∧ _ by assumption).1 t5))
        all_goals
          go_wp2_with fail
          go_ret2
          exact ⟨rfl, Ht0.out.trans' V5⟩
      · rw [if_neg h1] at hR
        have ho2 : 2 ≤ o := by omega
        obtain ⟨nl, hnl⟩ : ∃ nl, nl = l.length := ⟨_, rfl⟩
        obtain ⟨w1, hw1⟩ : ∃ w1, w1 = w0.alloc (.cells (intc (List.replicate nl 0)).toArray 3) := ⟨_, rfl⟩
        have t1 : Tch (fun _ => False) w0 w1 := by rw [hw1]; exact Tch.alloc _ _ _
        have b1 : w1.heap[N + 1]? = some (.cells (intc (List.replicate nl 0)).toArray 3 (0, 0)) := by rw [hw1, ← hz0]; exact alloc_new _ _
        rw [← hnl] at c6 hc hln har
        have hmk : ∀ W : World, (Instr.makeSlice 55 (.int .i64 nl) (.int .i64 nl)).run Tryz.prog W = .ok (.slice (some ⟨W.heap.size, 0, none⟩) nl nl) (W.alloc (.cells (intc (List.replicate nl 0)).toArray 3)) := fun W => mk_ints11 nl hln W
        have HW : Hid (∀ W, Tch (fun i => i = N + 1) w1 W → Tch (fun i => i = N + 1) w W ∧ Tch (fun _ => False) w W ∧ (W.cell? ⟨b, 0, none⟩ = some (.int .i64 (o : Nat)) ∧ W.cell? ⟨b, 6, none⟩ = some (.slice ao2 nl c)) ∧ (W.cell? ⟨w.heap.size, 0, none⟩ = some (.int .i64 id) ∧ W.cell? ⟨w.heap.size, 1, none⟩ = some (.int .i64 ver) ∧ W.cell? ⟨w.heap.size, 2, none⟩ = some (.string tn) ∧ W.cell? ⟨w.heap.size, 3, none⟩ = some (.slice ao nC cp) ∧ W.cell? ⟨w.heap.size, 4, none⟩ = some (.int .i64 key)) ∧ SL W ao (colc C)) := fun W t => by
          have T : Tch (fun i => i = N + 1) w W := ((t0.trans' t1).mono (fun _ _ h => h.elim)).trans' t
          have bW : W.heap[N]? = _ := (t.block N (by have := t1.size; omega) (by omega)).trans ((t1.block N (by omega) (fun h => h)).trans bx)
          rw [hN] at bW
          refine ⟨T, T.mono (fun i hi h => by omega), ⟨(T.cell (p := ⟨b, 0, none⟩) hbl (by show ¬ b = _; have : b < w.heap.size := hbl; omega)).trans c0, (T.cell (p := ⟨b, 6, none⟩) hbl (by show ¬ b = _; have : b < w.heap.size := hbl; omega)).trans c6⟩, ⟨blk_cell bW 0, blk_cell bW 1, blk_cell bW 2, blk_cell bW 3, blk_cell bW 4⟩, fun hne => ?_⟩
          obtain ⟨g, o', e, ha⟩ := hC hne
          exact ⟨g, o', e, ha.tch T (fun _ hk => by have := ha.lt hne; omega)⟩
        have HP : Hid (∀ (k : Nat) (hk : k < l.length), ∃ g i, ao2 = some ⟨g, i, none⟩ ∧ ∀ W, Tch (fun i => i = N + 1) w1 W → ∃ d, W.cell? ⟨g, i + k, none⟩ = some (ptV d) ∧ Calls Tryz.prog 14 #[ptV d, tb11 id ver tn ao nC cp key] W fun x w' => x = .returned (.tuple #[.int .i64 (chk (csO C) l[k]).1, .int .i64 (chk (csO C) l[k]).2]) ∧ Tch (fun _ => False) W w') := fun k hk => by
          obtain ⟨g, i, e, hh⟩ := hl (by intro e; rw [e] at hk; simp at hk)
          refine ⟨g, i, e, fun W t => ?_⟩
          obtain ⟨T, _, _, _, hsl⟩ := HW.out W t
          obtain ⟨d, cd, hd⟩ := hh k l[k] (List.getElem?_eq_getElem hk)
          have hgl := cell_lt cd
          refine ⟨d, (T.cell (p := ⟨g, i + k, none⟩) hgl (by show ¬ g = _; have : g < w.heap.size := hgl; omega)).trans cd, ?_⟩
          rw [hnC]
          exact ih (fun i => w.heap.size ≤ i) l[k] d W (by have := depL_get l k _ (List.getElem?_eq_getElem hk); omega) (hgd k _ (List.getElem?_eq_getElem hk)) (TR.tch T (fun i hi => by omega) (TR.mono (fun i hi h => by omega) hd)) hsl
        have HR : Hid (R = if (chk.chkL (csO C) l).2 ≠ 0 then (0, (chk.chkL (csO C) l).2) else if (hlds o (chk.chkL (csO C) l).1).2 = true then ((hlds o (chk.chkL (csO C) l).1).1, 0) else (0, 113)) := hR
        have HN : Hid (N = w.heap.size ∧ nl = l.length ∧ w1.heap.size = N + 2 ∧ arOk o nl) := ⟨hN, hnl, by rw [hw1]; simp; omega, har⟩
        have HJ : Hid (Tch (fun i => i = N + 1) w1 w1 ∧ w1.heap[N + 1]? = some (.cells (intc (kb11 (csO C) l 0)).toArray 3 (0, 0)) ∧ ∀ (j : Nat) (e : Ex), j < 0 → l[j]? = some e → (chk (csO C) e).2 = 0) := ⟨Tch.refl _ _, by rw [kb11_zero, ← hnl]; exact b1, fun j e hj => by omega⟩
        have Hw1 : Hid (w1 = w0.alloc (.cells (intc (List.replicate nl 0)).toArray 3) ∧ w0 = w.alloc (.cells #[.int .i64 id, .int .i64 ver, .string tn, .slice ao nC cp, .int .i64 key] 42)) := ⟨hw1, hw0⟩
        have hnlI : (nl : Int) ≤ 1000000 := by omega
        rw [← hnC]
        obtain ⟨rp, hrp⟩ : ∃ rp, rp = intc (List.replicate nl 0) := ⟨_, rfl⟩
        rw [← hrp] at hmk
        have Hrp : Hid _ := hrp
        clear hR ih hl hC h hgd hw0 t0 bx hz0 hN hnC c1 c2 c3 c4 c5 hw1 t1 b1 hn har hnl hrp
        go_enter Tryz.func14, Tryz.ntmps14
        go_wp2_with fail
        rw [← Hw1.out.2, Hrp.out, ← Hw1.out.1]
        go_loopw [46] (fun iv wr => ∃ k : Nat, iv = .int .i64 k ∧ k ≤ nl ∧ Hid (Tch (fun i => i = N + 1) w1 wr ∧ wr.heap[N + 1]? = some (.cells (intc (kb11 (csO C) l k)).toArray 3 (0, 0)) ∧ ∀ (j : Nat) (e : Ex), j < k → l[j]? = some e → (chk (csO C) e).2 = 0)) (fun iv _ => nl - (RowKit.intOf iv).toNat)
        case atStart => exact ⟨0, rfl, by omega, HJ⟩
        case round =>
          obtain ⟨k, rfl, hk, HJ2⟩ := hrel
          by_cases hlt : k < nl
          · have hltI : (k : Int) < (nl : Int) := by omega
            have hkl : k < l.length := by rw [← HN.out.2.1]; exact hlt
            obtain ⟨T, _, _, ⟨x0, x1, x2, x3, x4⟩, _⟩ := HW.out wr HJ2.out.1
            obtain ⟨g, i, rfl, hp⟩ := HP.out k hkl
            obtain ⟨d, cd, q⟩ := hp wr HJ2.out.1
            obtain ⟨r, hr⟩ : ∃ r, r = chk (csO C) l[k] := ⟨_, rfl⟩
            have Hr : Hid (r = chk (csO C) l[k]) := hr
            rw [← hr] at q
            clear hp hr T c6
            go_wp2_with fail
            refine q.mono ?_
            rintro y w4 ⟨rfl, t4⟩
            clear q
            by_cases he : r.2 = 0
            · have hb4 : w4.heap[N + 1]? = some (.cells (intc (kb11 (csO C) l k)).toArray 3 (0, 0)) := (t4.block _ (blk_lt HJ2.out.2.1) (fun h => h)).trans HJ2.out.2.1
              have hsz : (intc (kb11 (csO C) l k)).length = l.length := by unfold kb11; simp; omega
              obtain ⟨u, cu⟩ : ∃ u, w4.cell? ⟨w.heap.size + 1, k, none⟩ = some u := by
                rw [← HN.out.1, blk_cell hb4]
                exact ⟨_, Array.getElem?_eq_getElem (by simpa [hsz] using hkl)⟩
              have fz : w4.frozen? ⟨w.heap.size + 1, k, none⟩ = false := by rw [← HN.out.1]; simp [World.frozen?, hb4]
              have heb : (r.2 != 0) = false := by simpa using he
              have HJ3 : Hid (Tch (fun i => i = N + 1) w1 (w4.setCell ⟨w.heap.size + 1, k, none⟩ (.int .i64 r.1)) ∧ (w4.setCell ⟨w.heap.size + 1, k, none⟩ (.int .i64 r.1)).heap[N + 1]? = some (.cells (intc (kb11 (csO C) l (k + 1))).toArray 3 (0, 0)) ∧ ∀ (j : Nat) (e : Ex), j < k + 1 → l[j]? = some e → (chk (csO C) e).2 = 0) := by
                rw [← HN.out.1]
                refine ⟨(HJ2.out.1.trans' (t4.mono (fun _ _ h => h.elim))).trans' (Tch.setCell _ w4 _ _ rfl), ?_, fun j e hj hje => ?_⟩
                · have h := blk_set (i := k) hb4 (.int .i64 r.1)
                  rw [Hr.out, kb11_step (csO C) l k hkl] at h
                  rw [Hr.out]
                  exact h
                · rcases Nat.lt_or_ge j k with h1 | h1
                  · exact HJ2.out.2.2 j e h1 hje
                  · obtain rfl : j = k := by omega
                    rw [List.getElem?_eq_getElem hkl] at hje
                    injection hje with hje
                    rw [← hje, ← Hr.out]; exact he
              clear he hb4 hsz t4
              go_wp2_with fail
              go_roundw
              case rel => exact ⟨k + 1, by first | trivial | rfl, by omega, HJ3⟩
              case measure => simp [RowKit.intOf]; omega
            · have heb : (r.2 != 0) = true := by simpa using he
              have HE : Hid (R = (0, r.2)) := (show R = _ from by
                have h := chkL_err (csO C) l k l[k] (List.getElem?_eq_getElem hkl) (fun j e hj hje => HJ2.out.2.2 j e hj hje) (by rw [← Hr.out]; exact he)
                rw [← Hr.out] at h
                rw [HR.out, h, if_pos he])
              have HT : Hid (Tch (fun _ => False) w w4) := (HW.out wr HJ2.out.1).2.1.trans' t4
              clear he t4
              go_wp2_with fail
              go_ret2
              exact ⟨by rw [HE.out]; rfl, HT.out⟩
          · have hltI : ¬ (k : Int) < (nl : Int) := by omega
            have hke : k = l.length := by have := HN.out.2.1; omega
            have hall : ∀ (j : Nat) (e : Ex), l[j]? = some e → (chk (csO C) e).2 = 0 := fun j e hje => HJ2.out.2.2 j e (by have := (List.getElem?_eq_some_iff.1 hje).1; omega) hje
            have hck := chkL_ok (csO C) l hall
            obtain ⟨_, T, ⟨x0, _⟩, _, _⟩ := HW.out wr HJ2.out.1
            obtain ⟨ks, hks⟩ : ∃ ks, ks = l.map (fun e => (chk (csO C) e).1) := ⟨_, rfl⟩
            have hkl : ks.length = nl := by rw [hks, List.length_map, HN.out.2.1]
            have hbk := HJ2.out.2.1
            rw [hke, kb11_all, ← hks, HN.out.1] at hbk
            have q := holds_any o b (w.heap.size + 1) nl ks wr ho2 (by rw [hkl]; exact HN.out.2.2.2) x0 (fun j u hu => by rw [Nat.zero_add, blk_cell hbk, List.getElem?_toArray]; exact hu) (by omega) (by omega)
            rw [hkl] at q
            have hRR := HR.out
            rw [hck, ← hks] at hRR
            rw [if_neg (by simp)] at hRR
            simp only at hRR
            obtain ⟨r, hr⟩ : ∃ r, r = hlds o ks := ⟨_, rfl⟩
            rw [← hr] at q hRR
            have HRR : Hid (R = if r.2 = true then (r.1, 0) else (0, 113)) := hRR
            have HT : Hid (Tch (fun _ => False) w wr) := T
            clear hall hck hks hkl hbk hRR hr x0 T
            go_wp2_with fail
            refine q.mono ?_
            rintro y w4 ⟨rfl, t4⟩
            clear q
            obtain ⟨r1, r2⟩ := r
            simp only at HRR
            cases r2 with
            | true =>
              have HE : Hid (R = (r1, 0)) := (show R = _ from by rw [HRR.out]; rfl)
              go_wp2_with fail
              go_ret2
              exact ⟨by rw [HE.out]; rfl, HT.out.trans' t4⟩
            | false =>
              have HE : Hid (R = (0, 113)) := (show R = _ from by rw [HRR.out]; rfl)
              go_wp2_with fail
              go_ret2
              exact ⟨by rw [HE.out]; rfl, HT.out.trans' t4⟩
end Go.Proofs.YtmaekkhmiafnmaaGreatDoor
