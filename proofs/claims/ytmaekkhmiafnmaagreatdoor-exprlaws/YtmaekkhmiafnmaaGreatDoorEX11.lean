import Derived.Test.YtmaekkhmiafnmaaGreatDoorEN1
import Derived.Test.YtmaekkhmiafnmaaGreatDoorEC4
import Derived.Deep.LoopGhost
set_option maxHeartbeats 4000000
set_option maxRecDepth 100000
namespace Go.Proofs.YtmaekkhmiafnmaaGreatDoor
open Go.RowKit Go Go.Lib
theorem info_str : (Tryz.prog.info? 9).map (fun i => (i.zero, i.size, i.bytes)) = some (some (.string ⟨#[]⟩), 1, 16) := by kernel_rfl
abbrev SR (W : World) (N : Nat) (v : Value) (l : List ByteArray) : Prop := W.ownsRow N 9 1 v l.length (strc l)
theorem SR.sl {W : World} {N n : Nat} {ao : Option Addr} {c : Nat} {l : List ByteArray} (hn : l.length = n) (h : SR W N (.slice ao n c) l) : SL W ao (strc l) := fun hne => by
  have hp : 0 < l.length := by
    cases l with
    | nil => exact absurd rfl hne
    | cons a l => simp
  subst hn
  obtain ⟨g, e, _, ha⟩ := own_at h hp
  exact ⟨g, 0, e, ha⟩
structure SR2 (W : World) (N M : Nat) (u v : Value) (a b : List ByteArray) : Prop where
  one : SR W N u a
  two : SR W M v b
  ap : ∀ g, u.ownBlock = some g → v.ownBlock ≠ some g
theorem SR2.app {w : World} {N M : Nat} {ao : Option Addr} {c n : Nat} {v : Value} {a b : List ByteArray} (hn : a.length = n) (h : SR2 w N M (.slice ao n c) v a b) (hN : N ≤ w.heap.size) (hl : n ≤ 1000000000) (x : ByteArray) :
    ∃ o c' w', (Builtin.append_ #[26, 26] 26 #[.slice ao n c, .slice (some ⟨w.heap.size, 0, none⟩) 1 1]).run Tryz.prog (w.alloc (.cells #[.string x] 9)) = .ok (.slice o ((n + 1 : Nat)) c') w' ∧
      SR2 w' N M (.slice o (n + 1) c') v (a ++ [x]) b ∧ (a ++ [x]).length = n + 1 ∧ Tch (fun g => N ≤ g) w w' := by
  subst hn
  obtain ⟨i0, hi0, hz0, hz1, hz2⟩ := info_parts info_str
  have t6 : Tch (fun _ => False) w (w.alloc (.cells #[.string x] 9)) := Tch.alloc _ _ _
  have b6 := alloc_new w (.cells #[.string x] 9)
  have ho6 := own_tch h.one t6 (fun _ _ e => e)
  obtain ⟨v7, w7, hr7, hown7, hgr7, _, hat7⟩ := run_append_own_at (P := Tryz.prog) (w.alloc (.cells #[.string x] 9)) N 26 26 9 i0 _ 1 16 Tryz.underlying26 hi0 hz0 hz1 hz2 rfl (by decide) _ _ _ ho6 ⟨w.heap.size, 0, none⟩ 1 1 [.string x] rfl (fun j u hu => by rw [add_plain, Nat.zero_add, blk_cell b6, ← Array.getElem?_toList]; exact hu) (fun u hu => by rw [List.mem_singleton.1 hu]; rfl) (by unfold maxLen; omega) (by omega) (by simp; omega)
  obtain ⟨o7, c7, rfl⟩ := row_slice hown7
  have t7 : Tch (fun g => (Value.slice ao a.length c).ownBlock = some g) (w.alloc (.cells #[.string x] 9)) w7 := Tch.of_grown hgr7 (fun g e => e)
  have t67 : Tch (fun g => (Value.slice ao a.length c).ownBlock = some g) w w7 := (t6.mono (fun _ _ h => h.elim)).trans' t7
  refine ⟨o7, c7, w7, hr7, ⟨?_, own_tch h.two t67 (fun g e e2 => h.ap g e2 e), fun g e e2 => ?_⟩, by simp, t67.mono (fun g _ e => row_ge h.one e)⟩
  · show w7.ownsRow N 9 1 _ (a ++ [x]).length (strc (a ++ [x]))
    rw [List.length_append, strc, List.map_append]; exact hown7
  · rcases hat7 with e3 | e3
    · exact h.ap g (e3 ▸ e) e2
    · rw [e3] at e
      injection e with e
      have := (h.two.lt g e2).2
      simp at e
      omega
theorem addN_ge (acc xs : List ByteArray) : acc.length ≤ (addN acc xs).length := by
  unfold addN
  induction xs generalizing acc with
  | nil => simp
  | cons x xs ih =>
    rw [List.foldl_cons]
    refine Nat.le_trans ?_ (ih _)
    split <;> simp
theorem nmsL_ge : ∀ (l : List Ex) (acc : List ByteArray), acc.length ≤ (nms.nmsL l acc).length
  | [], _ => Nat.le_refl _
  | e :: l, acc => Nat.le_trans (addN_ge acc (nms e)) (nmsL_ge l _)
theorem addN_cons (acc : List ByteArray) (x : ByteArray) (xs : List ByteArray) : addN acc (x :: xs) = addN (if acc.any (fun y => decide (y = x)) = true then acc else acc ++ [x]) xs := rfl
def NmOut (w : World) (l : List ByteArray) (x : Ending) (w' : World) : Prop := ∃ ao c, x = .returned (.slice ao l.length c) ∧ SR w' w.heap.size (.slice ao l.length c) l
def NmI (L : List ByteArray) (l : List Ex) (w wr : World) (k : Nat) (ao : Option Addr) (n c : Nat) : Prop :=
  ∃ acc, acc.length = n ∧ SR wr w.heap.size (.slice ao n c) acc ∧ L = nms.nmsL (l.drop k) acc ∧ Tch (fun _ => False) w wr
def NmJ (L : List ByteArray) (l : List Ex) (xs : List ByteArray) (w wr : World) (k j M : Nat) (bo : Option Addr) (m d : Nat) (ao : Option Addr) (n c : Nat) : Prop :=
  ∃ acc, acc.length = n ∧ SR2 wr w.heap.size M (.slice ao n c) (.slice bo m d) acc xs ∧ L = nms.nmsL (l.drop (k + 1)) (addN acc (xs.drop j)) ∧ Tch (fun _ => False) w wr
theorem names_any : ∀ (n : Nat) (F : Nat → Prop) (e : Ex) (b : Nat) (w : World), dep e ≤ n → gdE e → TR w F e b →
    Calls Tryz.prog 17 #[ptV b] w fun x w' => NmOut w (nms e) x w' ∧ Tch (fun _ => False) w w'
  | 0, _, .mk o no v nm l, b, w, hn, _, _ => by rw [dep_mk] at hn; omega
  | n + 1, F, .mk o no v nm l, b, w, hn, hg, h => by
    obtain ⟨_, har, hln, hgd⟩ := hg.part
    have hsz : (nms (.mk o no v nm l)).length ≤ 1000 := Nat.le_trans (nms_len _) hg.sz
    rw [dep_mk] at hn
    obtain ⟨c0, c1, c2, c3, c4, c5, ao2, c, c6, hc, hl⟩ := h.cells
    have ih := names_any n
    have hbl := cell_lt c0
    obtain ⟨L, hL⟩ : ∃ L, L = nms (.mk o no v nm l) := ⟨_, rfl⟩
    rw [← hL] at hsz ⊢
    have hL2 : L = if o = 1 then [nm] else nms.nmsL l [] := hL
    by_cases h1 : o = 1
    · have HR : Hid (L = [nm]) := (show L = _ from by rw [hL2, if_pos h1])
      subst h1
      have HF : Hid (NmOut w [nm] (.returned (.slice (some ⟨w.heap.size, 0, none⟩) 1 1)) (w.alloc (.cells #[.string nm] 9)) ∧ Tch (fun _ => False) w (w.alloc (.cells #[.string nm] 9))) := ⟨⟨_, 1, rfl, rfl, Or.inr ⟨w.heap.size, 1, _, rfl, Nat.le_refl _, alloc_new _ _, Nat.le_refl _, by unfold maxLen; simp, rfl, rfl⟩⟩, Tch.alloc _ _ _⟩
      rw [HR.out]
      clear ih hl h hgd hL hL2 hsz c1 c2 c3 c4 c6
      go_enter Tryz.func17, Tryz.ntmps17
      go_wp2
      go_ret
      exact HF.out
    · rw [if_neg h1] at hL2
      obtain ⟨nl, hnl⟩ : ∃ nl, nl = l.length := ⟨_, rfl⟩
      rw [← hnl] at c6 hc hln
      have HP : Hid (∀ (k : Nat) (hk : k < l.length), ∃ g i, ao2 = some ⟨g, i, none⟩ ∧ ∀ W, Tch (fun _ => False) w W → ∃ d, W.cell? ⟨g, i + k, none⟩ = some (ptV d) ∧ Calls Tryz.prog 17 #[ptV d] W fun x w' => NmOut W (nms l[k]) x w' ∧ Tch (fun _ => False) W w') := fun k hk => by
        obtain ⟨g, i, e, hh⟩ := hl (by intro e; rw [e] at hk; simp at hk)
        refine ⟨g, i, e, fun W t => ?_⟩
        obtain ⟨d, cd, hd⟩ := hh k l[k] (List.getElem?_eq_getElem hk)
        exact ⟨d, (t.cell (p := ⟨g, i + k, none⟩) (cell_lt cd) (fun h => h)).trans cd, ih F l[k] d W (by have := depL_get l k _ (List.getElem?_eq_getElem hk); omega) (hgd k _ (List.getElem?_eq_getElem hk)) (TR.tch t (fun _ h => h.elim) hd)⟩
      have Hsub : Hid (∀ (k : Nat) (hk : k < l.length), (nms l[k]).length ≤ 1000) := fun k hk => Nat.le_trans (nms_len _) (hgd k _ (List.getElem?_eq_getElem hk)).sz
      have HN : Hid (nl = l.length ∧ L.length ≤ 1000) := ⟨hnl, hsz⟩
      have HJ : Hid (NmI L l w w 0 none 0 0) := ⟨[], rfl, ⟨rfl, Or.inl ⟨rfl, rfl⟩⟩, hL2, Tch.refl _ _⟩
      have hnlI : (nl : Int) ≤ 1000000 := by omega
      clear ih hl h hgd hL hL2 hsz c1 c2 c3 c4 c5 hnl hn har
      go_enter Tryz.func17, Tryz.ntmps17
      go_wp2_with fail
      go_loopw [3, 23] (fun lv iv wr => ∃ (k n c : Nat) (ao : Option Addr), lv = .slice ao n c ∧ iv = .int .i64 k ∧ k ≤ nl ∧ Hid (NmI L l w wr k ao n c)) (fun _ iv _ => nl - (RowKit.intOf iv).toNat)
      case atStart => exact ⟨0, 0, 0, none, rfl, rfl, by omega, HJ⟩
      case round =>
        obtain ⟨k, n1, c1, ao1, rfl, rfl, hk, HJ2⟩ := hrel
        obtain ⟨acc, j1, j2, j3, j4⟩ := HJ2.out
        by_cases hlt : k < nl
        · have hltI : (k : Int) < (nl : Int) := by omega
          have hkl : k < l.length := by rw [← HN.out.1]; exact hlt
          obtain ⟨g, i, rfl, hp⟩ := HP.out k hkl
          obtain ⟨d, cd, q⟩ := hp wr j4
          have hxs1 := Hsub.out k hkl
          obtain ⟨xs, hxs⟩ : ∃ xs, xs = nms l[k] := ⟨_, rfl⟩
          rw [← hxs] at q hxs1
          have HX : Hid (L = nms.nmsL (l.drop (k + 1)) (addN acc xs)) := (show L = _ from by rw [j3, List.drop_eq_getElem_cons hkl, hxs]; rfl)
          have H1 : Hid (acc.length = n1 ∧ SR wr w.heap.size (.slice ao1 n1 c1) acc ∧ Tch (fun _ => False) w wr) := ⟨j1, j2, j4⟩
          clear hp hxs j1 j2 j3 j4
          go_wp2_with fail
          refine q.mono ?_
          rintro y w4 ⟨⟨bo, dd, rfl, hsr⟩, t4⟩
          clear q
          obtain ⟨m, hm⟩ : ∃ m, m = xs.length := ⟨_, rfl⟩
          obtain ⟨M, hM⟩ : ∃ M, M = wr.heap.size := ⟨_, rfl⟩
          have HJ3 : Hid (NmJ L l xs w w4 k 0 M bo m dd ao1 n1 c1) := by
            rw [hm, hM]
            refine ⟨acc, H1.out.1, ⟨own_tch H1.out.2.1 t4 (fun _ _ h => h), hsr, fun g e e2 => ?_⟩, HX.out, H1.out.2.2.trans' t4⟩
            have h1 := (H1.out.2.1.lt g e).2
            have h2 := (hsr.lt g e2).1
            omega
          have Hm : Hid (m = xs.length) := hm
          rw [← hm] at hxs1 ⊢
          clear hsr t4 hm cd hM HP H1 HX
          go_wp2_with fail
          go_loopw [3, 30] (fun lv iv wz => ∃ (j n c : Nat) (ao : Option Addr), lv = .slice ao n c ∧ iv = .int .i64 j ∧ j ≤ m ∧ Hid (NmJ L l xs w wz k j M bo m dd ao n c)) (fun _ iv _ => m - (RowKit.intOf iv).toNat)
          case atStart => exact ⟨0, n1, c1, ao1, rfl, rfl, by omega, HJ3⟩
          case round =>
            rename World => wz
            obtain ⟨j, n2, c2, ao2', rfl, rfl, hj, HJ4⟩ := hrel
            obtain ⟨acc2, k1, k2, k3, k4⟩ := HJ4.out
            by_cases hjt : j < m
            · have hjtI : (j : Int) < (m : Int) := by omega
              have hjl : j < xs.length := by rw [← Hm.out]; exact hjt
              obtain ⟨g2, o2, rfl, e0⟩ := strc_at (k2.two.sl Hm.out.symm) hjl
              obtain ⟨x, hx⟩ : ∃ x, x = xs[j] := ⟨_, rfl⟩
              rw [← hx] at e0
              have hacc : acc2.length ≤ 1000 := by
                have h1 := nmsL_ge (l.drop (k + 1)) (addN acc2 (xs.drop j))
                have h2 := addN_ge acc2 (xs.drop j)
                rw [← k3] at h1
                have := HN.out.2
                omega
              have q := contains_any x acc2 ao2' c2 wz (k2.one.sl k1) (by omega)
              rw [k1] at q
              have hk3 : L = nms.nmsL (l.drop (k + 1)) (addN (if acc2.any (fun y => decide (y = x)) = true then acc2 else acc2 ++ [x]) (xs.drop (j + 1))) := by
                rw [k3, List.drop_eq_getElem_cons hjl, ← hx, addN_cons]
              obtain ⟨r, hr⟩ : ∃ r, r = acc2.any (fun y => decide (y = x)) := ⟨_, rfl⟩
              rw [← hr] at q hk3
              cases r with
              | true =>
                have HJ5 : Hid (NmJ L l xs w wz k (j + 1) M (some ⟨g2, o2, none⟩) m dd ao2' n2 c2) := ⟨acc2, k1, k2, hk3, k4⟩
                clear k1 k2 k3 k4 hk3 hr hx hacc
                go_wp2_with fail
                refine q.mono ?_
                rintro y w5 ⟨rfl, rfl⟩
                clear q
                go_wp2_with fail
                go_roundw
                case rel => exact ⟨j + 1, n2, c2, ao2', rfl, by first | trivial | rfl, by omega, HJ5⟩
                case measure => simp [RowKit.intOf]; omega
              | false =>
                obtain ⟨o7, c7, w7, hr7, hi7, hl7, t7⟩ := k2.app k1 k4.size (by omega) x
                have HJ5 : Hid (NmJ L l xs w w7 k (j + 1) M (some ⟨g2, o2, none⟩) m dd o7 (n2 + 1) c7) := ⟨acc2 ++ [x], hl7, hi7, hk3, k4.trans t7 (fun i hi h => by omega)⟩
                clear k1 k2 k3 k4 hk3 hr hx hacc hi7 hl7 t7
                go_wp2_with fail
                refine q.mono ?_
                rintro y w5 ⟨rfl, rfl⟩
                clear q
                go_wp2_with (at_builtin; refine wpList_app _ rfl _ _ 26 rfl rfl _ _ rfl rfl hr7 ?_)
                go_roundw
                case rel => exact ⟨j + 1, n2 + 1, c7, o7, rfl, by first | trivial | rfl, by omega, HJ5⟩
                case measure => simp [RowKit.intOf]; omega
            · have hjtI : ¬ (j : Int) < (m : Int) := by omega
              have HJ5 : Hid (NmI L l w wz (k + 1) ao2' n2 c2) := by
                refine ⟨acc2, k1, k2.one, ?_, k4⟩
                rw [k3, List.drop_eq_nil_of_le (show xs.length ≤ j by rw [← Hm.out]; omega)]
                rfl
              clear k1 k2 k3 k4
              go_wp2_with fail
              go_roundw
              case rel => exact ⟨k + 1, n2, c2, ao2', rfl, by first | trivial | rfl, by omega, HJ5⟩
              case measure => simp [RowKit.intOf]; omega
        · have hltI : ¬ (k : Int) < (nl : Int) := by omega
          have hLa : L = acc := by
            rw [j3, List.drop_eq_nil_of_le (by rw [← HN.out.1]; omega)]
            rfl
          have HF : Hid (NmOut w L (.returned (.slice ao1 n1 c1)) wr ∧ Tch (fun _ => False) w wr) := by
            refine ⟨⟨ao1, c1, by rw [hLa, j1], ?_⟩, j4⟩
            rw [hLa, j1]
            exact j2
          clear j1 j2 j3 j4 hLa
          go_wp2_with fail
          go_ret
          exact HF.out
end Go.Proofs.YtmaekkhmiafnmaaGreatDoor
namespace Go.Proofs.YtmaekkhmiafnmaaGreatDoor
open Go.RowKit Go Go.Lib
theorem suits_any (C : List Col11) (vs : List Val) (names : List ByteArray) (co vo no : Option Addr) (cc vc nc : Nat) (w : World) (hC : SL w co (colc C)) (hV : SL w vo (rcl vs)) (hNm : SL w no (strc names)) (hlen : vs.length = C.length) (hp : ∀ nm ∈ names, ∃ i, plc (csO C) nm = some i) (hl : C.length ≤ 1000000000) (hn1 : names.length ≤ 1000000) :
    Calls Tryz.prog 31 #[rowA co vo C.length cc vs.length vc, .slice no names.length nc] w fun x w' => x = .returned (.bool (sutE (csO C) vs names)) ∧ Tch (fun _ => False) w w' := by
  obtain ⟨w0, hw0⟩ : ∃ w0, w0 = w.alloc (.cells #[.slice co C.length cc, .slice vo vs.length vc] 80) := ⟨_, rfl⟩
  have t0 : Tch (fun _ => False) w w0 := by rw [hw0]; exact Tch.alloc _ _ _
  have z0 : w0.cell? ⟨w.heap.size, 0, none⟩ = some (.slice co C.length cc) := by rw [hw0]; simp
  have z1 : w0.cell? ⟨w.heap.size, 1, none⟩ = some (.slice vo vs.length vc) := by rw [hw0]; simp
  have HQ : Hid (∀ W nm, Tch (fun _ => False) w0 W → Calls Tryz.prog 59 #[.slice co C.length cc, .string nm] W fun x w' => x = .returned (.int .i64 (plcI C nm)) ∧ Tch (fun _ => False) W w') := fun W nm t => placeOf_any nm C co cc W (hC.no (t0.trans' t)) hl
  have HB : Hid (∀ W, Tch (fun _ => False) w0 W → Tch (fun _ => False) w W ∧ SL W co (colc C) ∧ SL W vo (rcl vs) ∧ SL W no (strc names) ∧ W.cell? ⟨w.heap.size, 0, none⟩ = some (.slice co C.length cc) ∧ W.cell? ⟨w.heap.size, 1, none⟩ = some (.slice vo vs.length vc)) := fun W t =>
    ⟨t0.trans' t, hC.no (t0.trans' t), hV.no (t0.trans' t), hNm.no (t0.trans' t), (t.cell (p := ⟨w.heap.size, 0, none⟩) (cell_lt z0) (fun h => h)).trans z0, (t.cell (p := ⟨w.heap.size, 1, none⟩) (cell_lt z1) (fun h => h)).trans z1⟩
  have Hlen : Hid (vs.length = C.length) := hlen
  have Hp : Hid _ := hp
  obtain ⟨B, hB⟩ : ∃ B, B = sutE (csO C) vs names := ⟨_, rfl⟩
  rw [← hB]
  have HJ : Hid (B = sutE (csO C) vs (names.drop 0)) := hB
  have Hw0 : Hid _ := hw0
  obtain ⟨n, hn⟩ : ∃ n, n = names.length := ⟨_, rfl⟩
  rw [← hn] at hn1 ⊢
  have Hn : Hid _ := hn
  obtain ⟨nC, hnC⟩ : ∃ n, n = C.length := ⟨_, rfl⟩
  obtain ⟨nV, hnV⟩ : ∃ n, n = vs.length := ⟨_, rfl⟩
  rw [← hnC, ← hnV] at HB Hw0
  rw [← hnC] at HQ
  rw [← hnC, ← hnV]
  have HnC : Hid (nC = C.length ∧ nV = vs.length) := ⟨hnC, hnV⟩
  clear hC hV hNm hlen hp hB hw0 hn t0 z0 z1 hnC hnV
  go_enter Tryz.func31, Tryz.ntmps31
  go_wp2_with fail
  rw [← Hw0.out]
  go_loopw [10] (fun iv wr => ∃ k : Nat, iv = .int .i64 k ∧ k ≤ n ∧ Hid (Tch (fun _ => False) w0 wr) ∧ Hid (B = sutE (csO C) vs (names.drop k))) (fun iv _ => n - (RowKit.intOf iv).toNat)
  case atStart => exact ⟨0, rfl, by omega, Tch.refl _ _, HJ.out⟩
  case round =>
    obtain ⟨k, rfl, hk, HT, HK⟩ := hrel
    by_cases hlt : k < n
    · have hltI : (k : Int) < (n : Int) := by omega
      have hkl : k < names.length := by rw [← Hn.out]; exact hlt
      obtain ⟨hW, sC, sV, sN, r0, r1⟩ := HB.out _ HT.out
      obtain ⟨g1, o1, rfl, c1⟩ := strc_at sN hkl
      obtain ⟨nm, hnm⟩ : ∃ x, x = names[k] := ⟨_, rfl⟩
      rw [← hnm] at c1
      obtain ⟨i, hi⟩ := Hp.out nm (by rw [hnm]; exact List.getElem_mem hkl)
      have hiC : i < C.length := by
        have h := hi
        unfold plc at h
        rw [List.findIdx?_eq_some_iff_getElem] at h
        obtain ⟨h, _⟩ := h
        simpa using h
      have hiV : i < vs.length := by rw [Hlen.out]; exact hiC
      obtain ⟨g2, o2, rfl, cx, c2, cy⟩ := colc_at sC hiC
      obtain ⟨g3, o3, rfl, c3, c4, c5⟩ := vrow_at sV hiV
      obtain ⟨kd, hkd⟩ : ∃ kd, kd = C[i].2.1 := ⟨_, rfl⟩
      obtain ⟨v, hv⟩ : ∃ v, v = vs[i] := ⟨_, rfl⟩
      rw [← hkd] at c2
      rw [← hv] at c3 c4 c5
      obtain ⟨F, hF⟩ : ∃ F, F = fitE v kd true := ⟨_, rfl⟩
      have HK2 : Hid (B = (decide (F = 0) && sutE (csO C) vs (names.drop (k + 1)))) := (show _ = _ from by
        rw [HK.out, List.drop_eq_getElem_cons hkl, ← hnm]
        unfold sutE
        rw [List.all_cons, hi]
        simp only
        rw [hF, hv, hkd]
        congr 4
        · simp [List.getD_eq_getElem?_getD, List.getElem?_eq_getElem hiV]
        · simp [List.getD_eq_getElem?_getD, List.getElem?_eq_getElem hiC])
      have hpl : plcI C nm = (i : Nat) := by unfold plcI; rw [hi]
      have HQ1 : Hid (∀ W, Tch (fun _ => False) w0 W → Calls Tryz.prog 59 #[.slice (some ⟨g2, o2, none⟩) nC cc, .string nm] W fun x w' => x = .returned (.int .i64 (i : Nat)) ∧ Tch (fun _ => False) W w') := fun W t => by
        have q := HQ.out W nm t
        rw [hpl] at q
        exact q
      have HFt : Hid (∀ W, Calls Tryz.prog 63 #[vV v, cA ⟨#[]⟩ kd true] W fun x w' => x = .returned (.int .i64 F) ∧ Tch (fun _ => False) W w') := fun W => by rw [hF]; exact fits_any v.k v.n v.s ⟨#[]⟩ kd true W
      have HS : Hid (∀ W, Tch (fun _ => False) wr W → Tch (fun _ => False) wr W ∧ W.cell? ⟨w.heap.size, 0, none⟩ = some (.slice (some ⟨g2, o2, none⟩) nC cc) ∧ W.cell? ⟨w.heap.size, 1, none⟩ = some (.slice (some ⟨g3, o3, none⟩) nV vc) ∧ W.cell? ⟨g2, o2 + i * 3 + 1, none⟩ = some (.int .i64 kd) ∧ W.cell? ⟨g3, o3 + i * 3, none⟩ = some (.int .i64 v.k) ∧ W.cell? ⟨g3, o3 + i * 3 + 1, none⟩ = some (.int .i64 v.n) ∧ W.cell? ⟨g3, o3 + i * 3 + 2, none⟩ = some (.string v.s)) := fun W t => by
        have kk : ∀ (p : Addr) (x : Value), wr.cell? p = some x → W.cell? p = some x := fun p x h => (t.cell (cell_lt (p := p) h) (fun h => h)).trans h
        exact ⟨t, kk _ _ r0, kk _ _ r1, kk _ _ c2, kk _ _ c3, kk _ _ c4, kk _ _ c5⟩
      have hiI : (i : Int) < (nC : Int) := by rw [HnC.out.1]; omega
      have hiI2 : (i : Int) < (nV : Int) := by rw [HnC.out.2]; omega
      clear cx cy hW sC sV sN hnm hi hiC hiV hkd hv hF hpl c2 c3 c4 c5 r1
      go_wp2_with (go_at_call 59; refine (HQ1.out _ HT.out).mono ?_; rintro y v1 ⟨rfl, t1⟩)
      obtain ⟨_, q0, q1, q2, q3, q4, q5⟩ := HS.out v1 t1
      have T1 : Tch (fun _ => False) wr v1 := t1
      clear r0 c1 t1
      go_region_held3 (fun W => Tch (fun _ => False) wr W ∧ W.cell? ⟨w.heap.size, 0, none⟩ = some (.slice (some ⟨g2, o2, none⟩) nC cc) ∧ W.cell? ⟨w.heap.size, 1, none⟩ = some (.slice (some ⟨g3, o3, none⟩) nV vc) ∧ W.cell? ⟨g2, o2 + i * 3 + 1, none⟩ = some (.int .i64 kd) ∧ W.cell? ⟨g3, o3 + i * 3, none⟩ = some (.int .i64 v.k) ∧ W.cell? ⟨g3, o3 + i * 3 + 1, none⟩ = some (.int .i64 v.n) ∧ W.cell? ⟨g3, o3 + i * 3 + 2, none⟩ = some (.string v.s))
        ((refine HS.out _ ?_; first | assumption | exact T1.drew))
        ((go_at_call 63; refine (HFt.out _).mono ?_; rintro y v3 ⟨rfl, t3⟩; have V3 : Tch (fun _ => False) wr v3 := Tch.trans' (by first | exact (show _ ∧ _ by assumption).1 | exact T1.drew) t3))
      all_goals
        by_cases hf : F = 0
        · have HE : Hid (B = sutE (csO C) vs (names.drop (k + 1))) := (show _ = _ from by rw [HK2.out, hf]; simp)
          subst hf
          go_wp2_with fail
          go_roundw
          case rel => exact ⟨k + 1, by first | trivial | rfl, by omega, HT.out.trans' V3, HE⟩
          case measure => simp [RowKit.intOf]; omega
        · have HE : Hid (B = false) := (show _ = _ from by rw [HK2.out, decide_eq_false hf]; simp)
          have ee : (F != 0) = true := by simpa using hf
          go_wp2_with fail
          go_ret
          exact ⟨by rw [HE.out]; rfl, (HB.out _ (HT.out.trans' V3)).1⟩
    · have hltI : ¬ (k : Int) < (n : Int) := by omega
      have HE : Hid (B = true) := (show _ = _ from by rw [HK.out, List.drop_of_length_le (by have := Hn.out; omega)]; rfl)
      go_wp2_with fail
      go_ret
      exact ⟨by rw [HE.out]; rfl, (HB.out _ HT.out).1⟩
end Go.Proofs.YtmaekkhmiafnmaaGreatDoor
namespace Go.Proofs.YtmaekkhmiafnmaaGreatDoor
open Go.RowKit Go Go.Lib
theorem find_plc' (cs : List (ByteArray × Int)) (nm : ByteArray) : plc cs nm = none → cs.find? (fun c => decide (c.1 = nm)) = none := fun h => by
  unfold plc at h
  rw [List.findIdx?_eq_none_iff] at h
  rw [List.find?_eq_none]
  intro x hx
  have := h x hx
  simpa using this
theorem mem_addN' {x : ByteArray} : ∀ (xs acc : List ByteArray), x ∈ addN acc xs → x ∈ acc ∨ x ∈ xs
  | [], acc, h => Or.inl h
  | y :: xs, acc, h => by
    have h : x ∈ addN (if acc.any (fun z => decide (z = y)) = true then acc else acc ++ [y]) xs := h
    rcases mem_addN' xs _ h with h | h
    · split at h
      · exact Or.inl h
      · rcases List.mem_append.1 h with h | h
        · exact Or.inl h
        · rw [List.mem_singleton.1 h]; exact Or.inr (List.mem_cons_self ..)
    · exact Or.inr (List.mem_cons_of_mem _ h)
theorem mem_nmsL' : ∀ (l : List Ex) (acc : List ByteArray) (x : ByteArray), x ∈ nms.nmsL l acc → x ∈ acc ∨ ∃ e ∈ l, x ∈ nms e
  | [], acc, x, h => Or.inl h
  | y :: l, acc, x, h => by
    have h : x ∈ nms.nmsL l (addN acc (nms y)) := h
    rcases mem_nmsL' l _ x h with h | ⟨e, he, h⟩
    · rcases mem_addN' _ _ h with h | h
      · exact Or.inl h
      · exact Or.inr ⟨y, List.mem_cons_self .., h⟩
    · exact Or.inr ⟨e, List.mem_cons_of_mem _ he, h⟩
mutual
theorem chk_nms {cs : List (ByteArray × Int)} : ∀ (e : Ex), okE e → (chk cs e).2 = 0 → ∀ nm ∈ nms e, ∃ i, plc cs nm = some i
  | .mk o no v nm l, hk, hc, x, hx => by
    have hk : i64v v.n ∧ arOk o l.length ∧ okL l := hk
    have hc : (if o = 0 then (v.k, (0 : Int)) else if o = 1 then kndOf cs nm else if (chk.chkL cs l).2 ≠ 0 then (0, (chk.chkL cs l).2) else if (hlds o (chk.chkL cs l).1).2 = true then ((hlds o (chk.chkL cs l).1).1, 0) else (0, 113)).2 = 0 := hc
    have hx : x ∈ (if o = 1 then [nm] else nms.nmsL l []) := hx
    by_cases h1 : o = 1
    · subst h1
      rw [if_pos rfl] at hx
      rw [if_neg (by omega), if_pos rfl] at hc
      rw [List.mem_singleton.1 hx]
      unfold kndOf at hc
      cases hp : plc cs nm with
      | some i => exact ⟨i, rfl⟩
      | none =>
        rw [find_plc' cs nm hp] at hc
        simp at hc
    · rw [if_neg h1] at hx hc
      have hl : (chk.chkL cs l).2 = 0 := by
        by_cases h0 : o = 0
        · have h2 := hk.2.1.2
          rw [if_pos (by omega)] at h2
          rw [List.eq_nil_of_length_eq_zero h2]; rfl
        · rw [if_neg h0] at hc
          by_cases h3 : (chk.chkL cs l).2 = 0
          · exact h3
          · rw [if_pos h3] at hc; exact absurd hc h3
      rcases mem_nmsL' l [] x hx with he | ⟨e, he, hxe⟩
      · simp at he
      · exact chk_nmsL l hk.2.2 hl e he x hxe
theorem chk_nmsL {cs : List (ByteArray × Int)} : ∀ (l : List Ex), okL l → (chk.chkL cs l).2 = 0 → ∀ e ∈ l, ∀ nm ∈ nms e, ∃ i, plc cs nm = some i
  | [], _, _, e, he, _, _ => by simp at he
  | y :: l, hk, hc, e, he, x, hx => by
    have hk : okE y ∧ okL l := hk
    have hc : (if (chk cs y).2 ≠ 0 then ([], (chk cs y).2) else ((chk cs y).1 :: (chk.chkL cs l).1, (chk.chkL cs l).2)).2 = 0 := hc
    have h1 : (chk cs y).2 = 0 := by
      by_cases h : (chk cs y).2 = 0
      · exact h
      · rw [if_pos h] at hc; exact absurd hc h
    rw [if_neg (by rw [h1]; simp)] at hc
    rcases List.mem_cons.1 he with he | he
    · rw [he] at hx
      exact chk_nms y hk.1 h1 x hx
    · exact chk_nmsL l hk.2 hc e he x hx
end
theorem plc_lt {C : List Col11} {nm : ByteArray} {i : Nat} (h : plc (csO C) nm = some i) : i < C.length := by
  unfold plc at h
  rw [List.findIdx?_eq_some_iff_getElem] at h
  obtain ⟨h, _⟩ := h
  simpa using h
theorem nmI_of {C : List Col11} {vs : List Val} {e : Ex} (hok : okE e) (hc : (chk (csO C) e).2 = 0) (hlen : vs.length = C.length) (hs : sutE (csO C) vs (nms e) = true) (hi : ∀ v ∈ vs, i64v v.n) : NmI11 C vs (rho (csO C) vs) (nms e) := fun nm hnm => by
  obtain ⟨i, hp⟩ := chk_nms e hok hc nm hnm
  have hiC := plc_lt hp
  have hiV : i < vs.length := by rw [hlen]; exact hiC
  have hr : rho (csO C) vs nm = vs[i] := by unfold rho; rw [hp]; simp [List.getD_eq_getElem?_getD, List.getElem?_eq_getElem hiV]
  refine ⟨?_, i, hp, hiV, hr.symm⟩
  rw [hr]
  refine ⟨hi _ (List.getElem_mem hiV), ?_⟩
  unfold sutE at hs
  have h := List.all_eq_true.1 hs nm hnm
  rw [hp] at h
  simp only [decide_eq_true_eq, List.getD_eq_getElem?_getD, List.getElem?_eq_getElem hiV, Option.getD_some] at h
  unfold fitE at h
  split at h
  · rename_i h1; exact absurd h h1
  · rename_i h1
    have h1 : wrg vs[i] = 0 := Classical.not_not.1 h1
    unfold wrg at h1
    split at h1
    · split at h1
      · omega
      · simp at h1
    · simp at h1
theorem eval_any (C : List Col11) (vs : List Val) (F : Nat → Prop) (e : Ex) (b : Nat) (ao vo : Option Addr) (cp vc : Nat) (id ver key : Int) (tn : ByteArray) (w : World) (hg : gdE e) (ht : txE e) (h : TR w F e b) (hC : SL w ao (colc C)) (hV : SL w vo (rcl vs)) (hi : ∀ v ∈ vs, i64v v.n) (hCl : C.length ≤ 1000000000) :
    Calls Tryz.prog 15 #[ptV b, tb11 id ver tn ao C.length cp key, .slice vo vs.length vc] w fun x w' => x = .returned (.tuple #[vV (evE (csO C) vs e).1, .int .i64 (evE (csO C) vs e).2]) ∧ Tch (fun _ => False) w w' := by
  have HCk : Hid (∀ W, Tch (fun _ => False) w W → Calls Tryz.prog 14 #[ptV b, tb11 id ver tn ao C.length cp key] W fun x w' => x = .returned (.tuple #[.int .i64 (chk (csO C) e).1, .int .i64 (chk (csO C) e).2]) ∧ Tch (fun _ => False) W w') := fun W t => check_any C ao cp id ver key tn hCl _ F e b W (Nat.le_refl _) hg (TR.tch t (fun _ h => h.elim) h) (hC.no t)
  have HNm : Hid (∀ W, Tch (fun _ => False) w W → Calls Tryz.prog 17 #[ptV b] W fun x w' => NmOut W (nms e) x w' ∧ Tch (fun _ => False) W w') := fun W t => names_any _ F e b W (Nat.le_refl _) hg (TR.tch t (fun _ h => h.elim) h)
  have hnl : (nms e).length ≤ 1000000 := Nat.le_trans (nms_len e) (Nat.le_trans hg.sz (by omega))
  have HSu : Hid ((chk (csO C) e).2 = 0 → vs.length = C.length → ∀ W no nc, Tch (fun _ => False) w W → SL W no (strc (nms e)) → Calls Tryz.prog 31 #[rowA ao vo C.length cp vs.length vc, .slice no (nms e).length nc] W fun x w' => x = .returned (.bool (sutE (csO C) vs (nms e))) ∧ Tch (fun _ => False) W w') := fun hc hlen W no nc t hs => suits_any C vs (nms e) ao vo no cp vc nc W (hC.no t) (hV.no t) hs hlen (fun nm hnm => chk_nms e hg.ok hc nm hnm) hCl hnl
  have HWk : Hid ((chk (csO C) e).2 = 0 → vs.length = C.length → sutE (csO C) vs (nms e) = true → ∀ W, Tch (fun _ => False) w W → gP (wrk (rho (csO C) vs) e) ∧ Calls Tryz.prog 32 #[ptV b, rowA ao vo C.length cp vs.length vc] W fun x w' => x = .returned (.tuple #[vV (wrk (rho (csO C) vs) e).1, .int .i64 (wrk (rho (csO C) vs) e).2]) ∧ Tch (fun _ => False) W w') := fun hc hlen hs W t =>
    have hN := nmI_of hg.ok hc hlen hs hi
    ⟨gP_wrk e hg.ok ht (fun nm hnm => (hN nm hnm).1), work_any C vs (rho (csO C) vs) ao vo cp vc hCl _ F e b W (Nat.le_refl _) hg ht (TR.tch t (fun _ h => h.elim) h) (hC.no t) (hV.no t) hN⟩
  obtain ⟨R, hR⟩ : ∃ R, R = evE (csO C) vs e := ⟨_, rfl⟩
  rw [← hR]
  unfold evE at hR
  rw [show (csO C).length = C.length by simp] at hR
  obtain ⟨ck, hck⟩ : ∃ x, x = chk (csO C) e := ⟨_, rfl⟩
  obtain ⟨wk, hwk⟩ : ∃ x, x = wrk (rho (csO C) vs) e := ⟨_, rfl⟩
  obtain ⟨su, hsu⟩ : ∃ x, x = sutE (csO C) vs (nms e) := ⟨_, rfl⟩
  obtain ⟨names, hnames⟩ : ∃ x, x = nms e := ⟨_, rfl⟩
  obtain ⟨nC, hnC⟩ : ∃ n, n = C.length := ⟨_, rfl⟩
  obtain ⟨nV, hnV⟩ : ∃ n, n = vs.length := ⟨_, rfl⟩
  rw [← hck, ← hwk, ← hsu, ← hnC, ← hnV] at hR
  rw [← hck, ← hnC] at HCk
  rw [← hck, ← hnC, ← hnV, ← hsu, ← hnames] at HSu
  rw [← hck, ← hnC, ← hnV, ← hsu, ← hwk] at HWk
  rw [← hnames] at HNm hnl
  rw [← hnC, ← hnV]
  clear hck hwk hsu hnames hnC hnV hg ht h hC hV hi hCl
  have HR : Hid _ := hR
  obtain ⟨w0, hw0⟩ : ∃ w0, w0 = (w.alloc (.cells #[.int .i64 id, .int .i64 ver, .string tn, .slice ao nC cp, .int .i64 key] 42)).alloc (.cells #[.int .i64 0, .int .i64 0, .string ⟨#[]⟩] 29) := ⟨_, rfl⟩
  have t0 : Tch (fun _ => False) w w0 := by rw [hw0]; exact (Tch.alloc _ _ _).allocR _
  have hz0 : w0.heap.size = w.heap.size + 2 := by rw [hw0]; simp
  have bT : w0.heap[w.heap.size]? = some (.cells #[.int .i64 id, .int .i64 ver, .string tn, .slice ao nC cp, .int .i64 key] 42 (0, 0)) := by
    rw [hw0]; show ((w.heap.push _).push _)[w.heap.size]? = _; simp [Array.getElem?_push]
  have hO : OneB (w.heap.size + 1) w0 := by
    have h := oneB (w := w.alloc (.cells #[.int .i64 id, .int .i64 ver, .string tn, .slice ao nC cp, .int .i64 key] 42)) (Tch.refl (fun _ => False) _)
    rw [hw0]; simpa using h
  have HC : Hid (∀ W, Tch (fun _ => False) w0 W → OneB (w.heap.size + 1) W ∧ Tch (fun _ => False) w W ∧ W.cell? ⟨w.heap.size, 3, none⟩ = some (.slice ao nC cp)) := fun W t => ⟨hO.no t, t0.trans' t, by rw [blk_cell ((t.block w.heap.size (by omega) (fun h => h)).trans bT)]; rfl⟩
  have hq := HCk.out w0 t0
  rw [hw0] at hq
  have Hw0 : Hid _ := hw0
  have Hz0 : Hid _ := hz0
  obtain ⟨kd, why⟩ := ck
  simp only at hR hq
  clear hw0 t0 hz0 bT hO HCk
  by_cases hw1 : why = 0
  · subst hw1
    rw [if_neg (by simp)] at hR
    by_cases hln : nV = nC
    · subst hln
      rw [if_neg (by simp)] at hR
      have ee : ((nV : Int) != (nV : Int)) = false := by simp
      go_enter Tryz.func15, Tryz.ntmps15
      go_wp2_with (go_at_call 14; refine hq.mono ?_; rintro y v1 ⟨rfl, t1⟩; rw [← Hw0.out] at t1; obtain ⟨⟨⟨x0, x1, x2⟩, f0, f1, f2⟩, hw, c3⟩ := HC.out _ t1)
      obtain ⟨w3, hw3⟩ : ∃ w3, w3 = v1.alloc (.cells #[.slice ao nV cp, .slice vo nV vc] 80) := ⟨_, rfl⟩
      obtain ⟨M, hM⟩ : ∃ M, M = v1.heap.size := ⟨_, rfl⟩
      have T3 : Tch (fun _ => False) w0 w3 := by rw [hw3]; exact t1.allocR _
      have z0 : w3.cell? ⟨M, 0, none⟩ = some (.slice ao nV cp) := by rw [hw3, hM]; simp
      have z1 : w3.cell? ⟨M, 1, none⟩ = some (.slice vo nV vc) := by rw [hw3, hM]; simp
      have HS : Hid (∀ W, Tch (fun _ => False) w3 W → Tch (fun _ => False) w3 W ∧ W.cell? ⟨M, 0, none⟩ = some (.slice ao nV cp) ∧ W.cell? ⟨M, 1, none⟩ = some (.slice vo nV vc)) := fun W t => ⟨t, (t.cell (cell_lt z0) (fun h => h)).trans z0, (t.cell (cell_lt z1) (fun h => h)).trans z1⟩
      have HT : Hid (∀ W, Tch (fun _ => False) w3 W → Tch (fun _ => False) w W ∧ OneB (w.heap.size + 1) W) := fun W t => ⟨(HC.out W (T3.trans' t)).2.1, (HC.out W (T3.trans' t)).1⟩
      rw [← hw3, ← hM]
      have HMw : Hid (w.heap.size + 1 < M) := (show _ < _ from by have := t1.size; have := Hz0.out; omega)
      clear hw3 hM T3 t1 x0 x1 x2 f0 f1 f2 hw c3
      cases su with
      | false =>
        have HE : Hid (R = (zV, 113)) := hR
        obtain ⟨_, q0, q1⟩ := HS.out w3 (Tch.refl _ _)
        go_region_held3 (fun W => Tch (fun _ => False) w3 W ∧ W.cell? ⟨M, 0, none⟩ = some (.slice ao nV cp) ∧ W.cell? ⟨M, 1, none⟩ = some (.slice vo nV vc))
          ((refine HS.out _ ?_; first | assumption | exact (Tch.refl _ _).drew))
          ((first
            | (go_at_call 17; refine (HNm.out _ ((HT.out _ (by first | exact (show _ ∧ _ by assumption).1 | exact (Tch.refl _ _).drew)).1)).mono ?_; rintro y v4 ⟨⟨no, nc, rfl, hsr⟩, t4⟩; have V4 : Tch (fun _ => False) w3 v4 := Tch.trans' (by first | exact (show _ ∧ _ by assumption).1 | exact (Tch.refl _ _).drew) t4; have hsl := SR.sl rfl hsr)
            | (go_at_call 31; refine (HSu.out (by first | trivial | rfl) (by first | trivial | rfl) _ no nc ((HT.out _ (by first | exact V4 | exact V4.drew)).1) (by first | exact hsl | exact hsl.no (Tch.refl _ _).drew)).mono ?_; rintro y v5 ⟨rfl, t5⟩; have V5 : Tch (fun _ => False) w3 v5 := Tch.trans' (by first | exact V4 | exact V4.drew) t5)))
        all_goals
          obtain ⟨hw, ⟨x0, x1, x2⟩, f0, f1, f2⟩ := HT.out _ V5
          go_wp2_with fail
          obtain ⟨k0, k1, k2⟩ := box_set _ (w.heap.size + 1) _ _ _ (.int .i64 (zV).k) (.int .i64 (zV).n) (.string (zV).s) x0 x1 x2
          refine bodyPost_ret (res_ve (j := 6) (m := 7) (by kernel_rfl) _ _ (w.heap.size + 1) (zV) (.int .i64 113) ?_ ?_ k0 k1 k2) rfl ⟨by rw [HE.out], hw.trans (box_set_tch _ (w.heap.size + 1) _ _ _) (fun i hi h => by omega)⟩ <;> rfl
      | true =>
        have HE : Hid (R = wk) := hR
        obtain ⟨v, ev⟩ := wk
        obtain ⟨_, q0, q1⟩ := HS.out w3 (Tch.refl _ _)
        go_region_held3 (fun W => Tch (fun _ => False) w3 W ∧ W.cell? ⟨M, 0, none⟩ = some (.slice ao nV cp) ∧ W.cell? ⟨M, 1, none⟩ = some (.slice vo nV vc))
          ((refine HS.out _ ?_; first | assumption | exact (Tch.refl _ _).drew))
          ((first
            | (go_at_call 17; refine (HNm.out _ ((HT.out _ (by first | exact (show _ ∧ _ by assumption).1 | exact (Tch.refl _ _).drew)).1)).mono ?_; rintro y v4 ⟨⟨no, nc, rfl, hsr⟩, t4⟩; have V4 : Tch (fun _ => False) w3 v4 := Tch.trans' (by first | exact (show _ ∧ _ by assumption).1 | exact (Tch.refl _ _).drew) t4; have hsl := SR.sl rfl hsr)
            | (go_at_call 31; refine (HSu.out (by first | trivial | rfl) (by first | trivial | rfl) _ no nc ((HT.out _ (by first | exact V4 | exact V4.drew)).1) (by first | exact hsl | exact hsl.no (Tch.refl _ _).drew)).mono ?_; rintro y v5 ⟨rfl, t5⟩; have V5 : Tch (fun _ => False) w3 v5 := Tch.trans' (by first | exact V4 | exact V4.drew) t5)))
        all_goals
          have qk := HWk.out (by first | trivial | rfl) (by first | trivial | rfl) (by first | trivial | rfl) v5 (HT.out _ V5).1
          have hsz : v.s.size ≤ 400 := qk.1.2
          have qw := qk.2
          clear qk
          go_wp2_with (first
            | (go_at_call 32; refine qw.mono ?_; rintro y v6 ⟨rfl, t6⟩; have hV6 := vb_new v6 v; have T6 := t6.allocR (.cells #[.int .i64 v.k, .int .i64 v.n, .string v.s] 29); have hV6' := vb_new v6 v; obtain ⟨⟨y0, y1, y2⟩, g0, g1, g2⟩ := hV6)
            | (go_at_call 33; refine (clone_any v.s _ (by omega)).mono ?_; rintro y v7 ⟨rfl, hb⟩; have t7 : Tch (fun _ => False) _ v7 := Tch.of_below hb (Nat.le_refl _); have hV7 := hV6'.no t7; obtain ⟨⟨p0, p1, p2⟩, n0, n1, n2⟩ := hV7; obtain ⟨hw7, hO7⟩ := HT.out _ (V5.trans' (T6.trans' t7)); have tS : Tch (fun i => i = v6.heap.size) v7 (v7.setCell ⟨v6.heap.size, 2, none⟩ (.string v.s)) := Tch.setCell (fun i => i = v6.heap.size) v7 ⟨v6.heap.size, 2, none⟩ (.string v.s) rfl; have hge : w.heap.size + 1 < v6.heap.size := (by have h1 := HMw.out; have h2 := V5.size; have h3 := t6.size; have h4 : M < w3.heap.size := cell_lt q0; omega); have hO8 := hO7.off tS (by show ¬ w.heap.size + 1 = v6.heap.size; omega); obtain ⟨⟨x0, x1, x2⟩, f0, f1, f2⟩ := hO8; have hw := hw7.trans tS (fun i hi h => by omega)))
          obtain ⟨k0, k1, k2⟩ := box_set _ (w.heap.size + 1) _ _ _ (.int .i64 (v).k) (.int .i64 (v).n) (.string (v).s) x0 x1 x2
          refine bodyPost_ret (res_ve (j := 6) (m := 7) (by kernel_rfl) _ _ (w.heap.size + 1) (v) (.int .i64 ev) ?_ ?_ k0 k1 k2) rfl ⟨by rw [HE.out], hw.trans (box_set_tch _ (w.heap.size + 1) _ _ _) (fun i hi h => by omega)⟩ <;> rfl
    · have HE : Hid (R = (zV, 1)) := (show _ = _ from by rw [hR, if_pos hln])
      have ee : ((nV : Int) != (nC : Int)) = true := by simp; omega
      clear hR HR
      go_enter Tryz.func15, Tryz.ntmps15
      go_wp2_with (go_at_call 14; refine hq.mono ?_; rintro y v1 ⟨rfl, t1⟩; rw [← Hw0.out] at t1; obtain ⟨⟨⟨x0, x1, x2⟩, f0, f1, f2⟩, hw, c3⟩ := HC.out _ t1)
      obtain ⟨k0, k1, k2⟩ := box_set _ (w.heap.size + 1) _ _ _ (.int .i64 (zV).k) (.int .i64 (zV).n) (.string (zV).s) x0 x1 x2
      refine bodyPost_ret (res_ve (j := 6) (m := 7) (by kernel_rfl) _ _ (w.heap.size + 1) (zV) (.int .i64 1) ?_ ?_ k0 k1 k2) rfl ⟨by rw [HE.out], hw.trans (box_set_tch _ (w.heap.size + 1) _ _ _) (fun i hi h => by omega)⟩ <;> rfl
  · have HE : Hid (R = (zV, why)) := (show _ = _ from by rw [hR, if_pos hw1])
    have ee : (why == 0) = false := by simpa using hw1
    have ee2 : (why != 0) = true := by simpa using hw1
    clear hR HR
    go_enter Tryz.func15, Tryz.ntmps15
    go_wp2_with (go_at_call 14; refine hq.mono ?_; rintro y v1 ⟨rfl, t1⟩; rw [← Hw0.out] at t1; obtain ⟨⟨⟨x0, x1, x2⟩, f0, f1, f2⟩, hw, c3⟩ := HC.out _ t1)
    obtain ⟨k0, k1, k2⟩ := box_set _ (w.heap.size + 1) _ _ _ (.int .i64 (zV).k) (.int .i64 (zV).n) (.string (zV).s) x0 x1 x2
    refine bodyPost_ret (res_ve (j := 6) (m := 7) (by kernel_rfl) _ _ (w.heap.size + 1) (zV) (.int .i64 why) ?_ ?_ k0 k1 k2) rfl ⟨by rw [HE.out], hw.trans (box_set_tch _ (w.heap.size + 1) _ _ _) (fun i hi h => by omega)⟩ <;> rfl
end Go.Proofs.YtmaekkhmiafnmaaGreatDoor
