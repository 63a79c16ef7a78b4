/- XactOwn, where there are more than sixty deeds. -/
import Derived.Test.YtkokmgoplldcfaaXOwn1
namespace Go.Proofs.Ytkokmgoplldcfaa
open Go.RowKit Go Go.Sort

set_option maxHeartbeats 8000000 in
set_option maxRecDepth 100000 in
theorem own_lawB (ao : Option Addr) (c : Nat) (L : List (Int × Int)) (pr cm : Bool) (w : World) (hL : DL w ao L) (hl : 60 < L.length) :
    Calls Try.prog 3 #[.slice ao L.length c, .bool pr, .bool cm] w fun x w' => x = .returned (.bool true) ∧ Tch (fun _ => False) w w' := by
  obtain ⟨n, hn⟩ : ∃ n, n = L.length := ⟨_, rfl⟩
  rw [← hn] at hl ⊢
  have Hn : Hid (n = L.length) := hn
  have HL : Hid (DL w ao L) := hL
  obtain ⟨N, hN⟩ : ∃ N, N = w.heap.size := ⟨_, rfl⟩
  have HN : Hid (N = w.heap.size) := hN
  have q0 := new_ok 1 w (by omega) (by omega)
  clear hL hn hN
  go_enter Try.func3, Try.ntmps3
  go_wp2_with fail
  refine q0.mono ?_
  rintro x w1 ⟨⟨b, rfl, hbw, hM⟩, t1⟩
  have hM1 := hM (fun i => i < N) (fun i hi => by have := HN.out; omega)
  have q1 := begin_f b _ w1 _ hM1 (by show 1 ≤ _; omega)
  have Ht1 : Hid (Tch (fun _ => False) w w1) := t1
  clear q0 hM hM1 t1
  go_wp2_with fail
  refine q1.mono ?_
  rintro x w2 ⟨rfl, hM2, k2⟩
  have q2 := begin_f b _ w2 _ hM2 (by show 2 ≤ _; omega)
  rw [ow_begin] at q2
  have Ht2 : Hid (Tch (fun _ => False) w w2) := low_trans HN.out Ht1.out k2
  clear q1 hM2 k2
  have q2' : Calls Try.prog 7 #[.pointer (some ⟨b, 0, none⟩)] w2 fun x w' => x = .returned (.tuple #[.int .i64 2, .int .i64 0]) ∧ MF w' b (owS 1 [1, 2] []) (fun i => i < N) ∧ Kept (fun i => i < N) w2 w' := q2
  clear q2
  go_wp2_with fail
  refine q2'.mono ?_
  rintro x w3 ⟨rfl, hM3, k3⟩
  have HO3 : Hid (OS w N b w3) := ⟨[], Num.nil, hM3, low_trans HN.out Ht2.out k3⟩
  clear q2' hM3 k3
  go_wp2_with fail
  go_loopw [13] (fun i wr => ∃ k : Nat, i = .int .i64 k ∧ k ≤ 60 ∧ Hid (OS w N b wr)) (fun i _ => 60 - (intOf i).toNat)
  case atStart => exact ⟨0, rfl, by omega, HO3⟩
  case round =>
    obtain ⟨k, rfl, hk, HO⟩ := hrel
    obtain ⟨wv, hwv⟩ : ∃ wv, wv = wr := ⟨_, rfl⟩
    subst hwv
    by_cases hlt : (k : Int) < n ∧ (k : Int) < 60
    · obtain ⟨hlt1, hlt2⟩ := hlt
      obtain ⟨ps, hps, hM, tw⟩ := HO.out
      have hkl : k < L.length := by have := Hn.out; omega
      obtain ⟨d, hd⟩ : ∃ d, L[k]? = some d := ⟨_, List.getElem?_eq_getElem hkl⟩
      have Hd : Hid _ := hd
      have q := parts_f b _ wv _ hM 1 (by omega) (by omega) (ow_1 1 [1, 2])
      have Hps : Hid (Num ps) := hps
      have HM : Hid (MF wv b (owS 1 [1, 2] ps) (fun i => i < N)) := hM
      have Htw : Hid (Tch (fun _ => False) w wv) := tw
      clear hps hM tw hd hkl HO
      go_wp2_with fail
      refine q.mono ?_
      rintro x w4 ⟨⟨v, rfl, hv⟩, t4⟩
      clear q
      have hM4 := HM.out.no t4
      obtain ⟨hr, g, o, rfl, d1, d2⟩ := (HL.out.no (Htw.out.trans' t4)) k d Hd.out
      have HT4 : Hid (Tch (fun _ => False) w w4) := Htw.out.trans' t4
      have HM4 : Hid (MF w4 b (owS 1 [1, 2] ps) (fun i => i < N)) := hM4
      obtain ⟨lo, lc, rfl⟩ := row_slice hv
      obtain ⟨LL, hLL⟩ : ∃ LL, LL = survL 1 ps := ⟨_, rfl⟩
      have hv' : w4.ownsRow wv.heap.size 3 1 (.slice lo (survL 1 ps).length lc) (survL 1 ps).length (icl (survL 1 ps)) := hv
      have HLL : Hid (LL = survL 1 ps) := hLL
      rw [← hLL] at hv'
      obtain ⟨ln, hln⟩ : ∃ ln, ln = LL.length := ⟨_, rfl⟩
      have Hln : Hid (ln = LL.length) := hln
      have e9 : (survL (Tx.st ⟨1, 1, ps⟩) (Tx.ps ⟨1, 1, ps⟩)).length = ln := by rw [hln, hLL]
      rw [e9]
      rw [← hln] at hv'
      have Hv : Hid _ := hv'
      obtain ⟨dk, hdk⟩ : ∃ dk, dk = d.1 := ⟨_, rfl⟩
      obtain ⟨dn, hdn⟩ : ∃ dn, dn = d.2 := ⟨_, rfl⟩
      rw [← hdk, ← hdn] at hr
      rw [← hdk] at d1
      rw [← hdn] at d2
      obtain ⟨hr1, hr2, hr3, hr4⟩ := hr
      have qk := fun W => pick_any dk 4 W hr1 hr2 (by omega) (by omega)
      obtain ⟨pk, hpk⟩ : ∃ pk, pk = pkN dk 4 := ⟨_, rfl⟩
      have hp4 : pk < 4 := by rw [hpk]; exact pkN_lt _ (by omega)
      rw [← hpk] at qk
      have hlns : ln ≤ 64 := by
        have h1 := HM4.out.wf.ln ⟨1, 1, ps⟩ (by simp [owS])
        have h2 := survL_len 1 ps
        rw [hln, hLL]
        exact Nat.le_trans h2 h1
      have qk' : ∀ W, Calls Try.prog 9 #[.int .i64 dk, .int .i64 4] W fun x w' => x = .returned (.int .i64 pk) ∧ w' = W := qk
      have HSt : Hid (∀ kx : Nat, (kx = 1 ∨ kx ∈ LL) → (∀ x w5, PartOut (owS 1 [1, 2] ps) b kx w4 (fun i => i < N) x w5 → OS w N b w5)) := fun kx hkx x w5 ho => OS.part HN.out Hps.out HM4.out HT4.out (by rw [← HLL.out]; exact hkx) ho
      have HEt : Hid (∀ (kx f : Nat) x w5, EndOut (owS 1 [1, 2] ps) b kx f w4 (fun i => i < N) x w5 → OS w N b w5) := fun kx f x w5 ho => OS.endp HN.out Hps.out HM4.out HT4.out ho
      have hle : ∀ kx, (kx = 1 ∨ kx ∈ LL) → kx ≤ 2147483648 := fun kx hkx => by
        rcases hkx with rfl | hkx
        · omega
        · rw [hLL] at hkx
          obtain ⟨i, p, rfl, hp, _⟩ := surv_at Hps.out hkx
          have h1 := HM4.out.wf.pl ⟨1, 1, ps⟩ (by simp [owS]) p (List.mem_of_getElem? hp)
          have h2 := HM4.out.wf.n2
          have := Hps.out i p hp
          omega
      have Hle : Hid _ := hle
      have Qp : ∀ kx, (kx = 1 ∨ kx ∈ LL) → Calls Try.prog 10 #[.pointer (some ⟨b, 0, none⟩), .int .i64 (kx : Nat)] w4 fun x w' => (∃ y e : Nat, x = .returned (.tuple #[.int .i64 y, .int .i64 e])) ∧ OS w N b w' := fun kx hkx => by
        have := hle kx hkx
        refine (part_f b _ w4 _ hM4 kx (by omega) (by omega)).mono ?_
        rintro x w5 ⟨h1, h2⟩
        exact ⟨h1, HSt.out kx hkx x w5 h2⟩
      have Qr : ∀ kx, (kx = 1 ∨ kx ∈ LL) → Calls Try.prog 11 #[.pointer (some ⟨b, 0, none⟩), .int .i64 (kx : Nat)] w4 fun x w' => (∃ e : Nat, x = .returned (.int .i64 e)) ∧ OS w N b w' := fun kx hkx => by
        have := hle kx hkx
        refine (release_f b _ w4 _ hM4 kx (by omega) (by omega)).mono ?_
        rintro x w5 ⟨h1, h2⟩
        exact ⟨h1, HEt.out kx 1 x w5 h2⟩
      have Qb : ∀ kx, (kx = 1 ∨ kx ∈ LL) → Calls Try.prog 12 #[.pointer (some ⟨b, 0, none⟩), .int .i64 (kx : Nat)] w4 fun x w' => (∃ e : Nat, x = .returned (.int .i64 e)) ∧ OS w N b w' := fun kx hkx => by
        have := hle kx hkx
        refine (back_f b _ w4 _ hM4 kx (by omega) (by omega)).mono ?_
        rintro x w5 ⟨h1, h2⟩
        exact ⟨h1, HEt.out kx 2 x w5 h2⟩
      have HQp : Hid _ := Qp
      have HQr : Hid _ := Qr
      have HQb : Hid _ := Qb
      have hkI : (k : Int) < n := hlt1
      clear hv hv' t4 hM4 hLL hln e9 hdk hdn hpk qk Hd hle Qp Qr Qb
      by_cases hl0 : ln = 0
      · subst hl0
        have qP := HQp.out 1 (Or.inl rfl)
        have qR := HQr.out 1 (Or.inl rfl)
        have qB := HQb.out 1 (Or.inl rfl)
        go_wp2_with fail
        refine (qk' _).mono ?_
        rintro x w5 ⟨rfl, hw5⟩
        obtain rfl := hw5.symm
        clear hw5 qk'
        have hcase : pk = 0 ∨ pk = 1 ∨ pk = 2 ∨ pk = 3 := by omega
        rcases hcase with rfl | rfl | rfl | rfl
        · as_aux_lemma =>
          go_wp2_with fail
          refine qP.mono ?_
          rintro x w6 ⟨⟨y, e, rfl⟩, ho⟩
          have HO6 : Hid (OS w N b w6) := ho
          clear ho qP qR qB d1 d2
          go_wp2_with fail
          go_roundw
          case rel => exact ⟨k + 1, by go_num, by omega, HO6⟩
          case measure => simp [intOf]; omega
        · as_aux_lemma =>
          go_wp2_with fail
          refine qP.mono ?_
          rintro x w6 ⟨⟨y, e, rfl⟩, ho⟩
          have HO6 : Hid (OS w N b w6) := ho
          clear ho qP qR qB d1 d2
          go_wp2_with fail
          go_roundw
          case rel => exact ⟨k + 1, by go_num, by omega, HO6⟩
          case measure => simp [intOf]; omega
        · as_aux_lemma =>
          go_wp2_with fail
          refine qR.mono ?_
          rintro x w6 ⟨⟨e, rfl⟩, ho⟩
          have HO6 : Hid (OS w N b w6) := ho
          clear ho qP qR qB d1 d2
          go_wp2_with fail
          go_roundw
          case rel => exact ⟨k + 1, by go_num, by omega, HO6⟩
          case measure => simp [intOf]; omega
        · as_aux_lemma =>
          go_wp2_with fail
          refine qB.mono ?_
          rintro x w6 ⟨⟨e, rfl⟩, ho⟩
          have HO6 : Hid (OS w N b w6) := ho
          clear ho qP qR qB d1 d2
          go_wp2_with fail
          go_roundw
          case rel => exact ⟨k + 1, by go_num, by omega, HO6⟩
          case measure => simp [intOf]; omega
      · have hl0I : (0 : Int) < ln := by omega
        by_cases hrem : dn.tmod 3 = 0
        · have qP := HQp.out 1 (Or.inl rfl)
          have qR := HQr.out 1 (Or.inl rfl)
          have qB := HQb.out 1 (Or.inl rfl)
          go_wp2_with fail
          refine (qk' _).mono ?_
          rintro x w5 ⟨rfl, hw5⟩
          obtain rfl := hw5.symm
          clear hw5 qk'
          have hcase : pk = 0 ∨ pk = 1 ∨ pk = 2 ∨ pk = 3 := by omega
          rcases hcase with rfl | rfl | rfl | rfl
          · as_aux_lemma =>
            go_wp2_with fail
            refine qP.mono ?_
            rintro x w6 ⟨⟨y, e, rfl⟩, ho⟩
            have HO6 : Hid (OS w N b w6) := ho
            clear ho qP qR qB d1 d2
            go_wp2_with fail
            go_roundw
            case rel => exact ⟨k + 1, by go_num, by omega, HO6⟩
            case measure => simp [intOf]; omega
          · as_aux_lemma =>
            go_wp2_with fail
            refine qP.mono ?_
            rintro x w6 ⟨⟨y, e, rfl⟩, ho⟩
            have HO6 : Hid (OS w N b w6) := ho
            clear ho qP qR qB d1 d2
            go_wp2_with fail
            go_roundw
            case rel => exact ⟨k + 1, by go_num, by omega, HO6⟩
            case measure => simp [intOf]; omega
          · as_aux_lemma =>
            go_wp2_with fail
            refine qR.mono ?_
            rintro x w6 ⟨⟨e, rfl⟩, ho⟩
            have HO6 : Hid (OS w N b w6) := ho
            clear ho qP qR qB d1 d2
            go_wp2_with fail
            go_roundw
            case rel => exact ⟨k + 1, by go_num, by omega, HO6⟩
            case measure => simp [intOf]; omega
          · as_aux_lemma =>
            go_wp2_with fail
            refine qB.mono ?_
            rintro x w6 ⟨⟨e, rfl⟩, ho⟩
            have HO6 : Hid (OS w N b w6) := ho
            clear ho qP qR qB d1 d2
            go_wp2_with fail
            go_roundw
            case rel => exact ⟨k + 1, by go_num, by omega, HO6⟩
            case measure => simp [intOf]; omega
        · have hremb : (dn.tmod 3 == 0) = false := by simp [hrem]
          have q9 := fun W => pick_any dn ln W hr3 hr4 (by omega) (by omega)
          obtain ⟨pr', hpr'⟩ : ∃ pr', pr' = pkN dn ln := ⟨_, rfl⟩
          have hprl : pr' < ln := by rw [hpr']; exact pkN_lt _ (by omega)
          rw [← hpr'] at q9
          obtain ⟨xx, hxx⟩ : ∃ xx, LL[pr']? = some xx := ⟨_, List.getElem?_eq_getElem (by rw [← Hln.out]; exact hprl)⟩
          have hIR := IR.of_own Hv.out
          obtain ⟨lg, lof, rfl, lcell⟩ := hIR pr' (xx : Int) (by rw [List.getElem?_map, hxx]; rfl)
          have hmem : xx ∈ LL := List.mem_of_getElem? hxx
          have hprI : (pr' : Int) < ln := by omega
          clear hpr' hxx hIR
          go_wp2_with fail
          refine (q9 _).mono ?_
          rintro x w9 ⟨rfl, hw9⟩
          obtain rfl := hw9.symm
          clear hw9 q9
          have qP := HQp.out xx (Or.inr hmem)
          have qR := HQr.out xx (Or.inr hmem)
          have qB := HQb.out xx (Or.inr hmem)
          go_wp2_with fail
          refine (qk' _).mono ?_
          rintro x w5 ⟨rfl, hw5⟩
          obtain rfl := hw5.symm
          clear hw5 qk'
          have hcase : pk = 0 ∨ pk = 1 ∨ pk = 2 ∨ pk = 3 := by omega
          rcases hcase with rfl | rfl | rfl | rfl
          · as_aux_lemma =>
            go_wp2_with fail
            refine qP.mono ?_
            rintro x w6 ⟨⟨y, e, rfl⟩, ho⟩
            have HO6 : Hid (OS w N b w6) := ho
            clear ho qP qR qB d1 d2
            go_wp2_with fail
            go_roundw
            case rel => exact ⟨k + 1, by go_num, by omega, HO6⟩
            case measure => simp [intOf]; omega
          · as_aux_lemma =>
            go_wp2_with fail
            refine qP.mono ?_
            rintro x w6 ⟨⟨y, e, rfl⟩, ho⟩
            have HO6 : Hid (OS w N b w6) := ho
            clear ho qP qR qB d1 d2
            go_wp2_with fail
            go_roundw
            case rel => exact ⟨k + 1, by go_num, by omega, HO6⟩
            case measure => simp [intOf]; omega
          · as_aux_lemma =>
            go_wp2_with fail
            refine qR.mono ?_
            rintro x w6 ⟨⟨e, rfl⟩, ho⟩
            have HO6 : Hid (OS w N b w6) := ho
            clear ho qP qR qB d1 d2
            go_wp2_with fail
            go_roundw
            case rel => exact ⟨k + 1, by go_num, by omega, HO6⟩
            case measure => simp [intOf]; omega
          · as_aux_lemma =>
            go_wp2_with fail
            refine qB.mono ?_
            rintro x w6 ⟨⟨e, rfl⟩, ho⟩
            have HO6 : Hid (OS w N b w6) := ho
            clear ho qP qR qB d1 d2
            go_wp2_with fail
            go_roundw
            case rel => exact ⟨k + 1, by go_num, by omega, HO6⟩
            case measure => simp [intOf]; omega
    · have hkn : (k : Int) < n := by omega
      have hk60 : ¬ (k : Int) < 60 := fun h => hlt ⟨hkn, h⟩
      obtain ⟨ps, hps, hM, tw⟩ := HO.out
      have q := parts_f b _ wv _ hM 1 (by omega) (by omega) (ow_1 1 [1, 2])
      have Hps : Hid (Num ps) := hps
      have HM : Hid (MF wv b (owS 1 [1, 2] ps) (fun i => i < N)) := hM
      have Htw : Hid (Tch (fun _ => False) w wv) := tw
      clear hps hM tw HO hlt
      as_aux_lemma =>
          go_wp2_with fail
          refine q.mono ?_
          rintro x w4 ⟨⟨v, rfl, hv⟩, t4⟩
          clear q
          have hM4 : MF w4 b (owS 1 [1, 2] ps) (fun i => i < N) := HM.out.no t4
          have q5 := snapshot_f b _ w4 _ hM4
          have Ht4 : Hid (Tch (fun _ => False) wv w4) := t4
          obtain ⟨lo, lc, rfl⟩ := row_slice hv
          obtain ⟨LL, hLL⟩ : ∃ LL, LL = survL 1 ps := ⟨_, rfl⟩
          have hv' : w4.ownsRow wv.heap.size 3 1 (.slice lo (survL 1 ps).length lc) (survL 1 ps).length (icl (survL 1 ps)) := hv
          have HLL : Hid (LL = survL 1 ps) := hLL
          rw [← hLL] at hv'
          obtain ⟨ln, hln⟩ : ∃ ln, ln = LL.length := ⟨_, rfl⟩
          have Hln : Hid (ln = LL.length) := hln
          have e9 : (survL (Tx.st ⟨1, 1, ps⟩) (Tx.ps ⟨1, 1, ps⟩)).length = ln := by rw [hln, hLL]
          rw [e9]
          rw [← hln] at hv'
          have Hv : Hid (w4.ownsRow wv.heap.size 3 1 (.slice lo ln lc) ln (icl LL)) := hv'
          have hp64 : ps.length ≤ 64 := hM4.wf.ln ⟨1, 1, ps⟩ (by simp [owS])
          have hlns : ln ≤ 64 := by
            have h2 := survL_len 1 ps
            rw [hln, hLL]
            omega
          obtain ⟨nx, hnx⟩ : ∃ nx, nx = 3 + ps.length := ⟨_, rfl⟩
          have Hnx : Hid (nx = 3 + ps.length) := hnx
          have hnx3 : 3 ≤ nx := by omega
          have hnx6 : nx ≤ 67 := by omega
          have HM4 : Hid (MF w4 b (owS 1 [1, 2] ps) (fun i => i < N)) := hM4
          clear hv hv' t4 hLL hln e9 hM4 hnx hp64
          go_wp2_with fail
          refine q5.mono ?_
          rintro x w5 ⟨⟨v5, rfl, hv5⟩, t5⟩
          clear q5
          have e5 : Value.agg #[.int .i64 ((owS 1 [1, 2] ps).on.headD (owS 1 [1, 2] ps).nx : Nat), .int .i64 (owS 1 [1, 2] ps).nx, v5] = .agg #[.int .i64 1, .int .i64 nx, v5] := by rw [Hnx.out]; rfl
          rw [e5]
          clear e5
          have hv5' : w5.ownsRow w4.heap.size 3 1 v5 2 (icl [1, 2]) := hv5
          obtain ⟨so, sc, rfl⟩ := row_slice hv5'
          have hM5 : MF w5 b (owS 1 [1, 2] ps) (fun i => i < N) := HM4.out.no t5
          obtain ⟨w6, hw6⟩ : ∃ w6, w6 = w5.alloc (.cells #[.int .i64 1, .int .i64 nx, .slice so 2 sc] 38) := ⟨_, rfl⟩
          have t6 : Tch (fun _ => False) w5 w6 := by rw [hw6]; exact Tch.alloc _ _ _
          have q6 := next_f b _ w6 _ (hM5.no t6)
          have q6' : Calls Try.prog 14 #[.pointer (some ⟨b, 0, none⟩)] w6 fun x w' => x = .returned (.int .i64 nx) ∧ w' = w6 := by rw [Hnx.out]; exact q6
          have Hv5 : Hid (w5.ownsRow w4.heap.size 3 1 (.slice so 2 sc) 2 (icl [1, 2])) := hv5'
          have Ht5 : Hid (Tch (fun _ => False) w4 w5) := t5
          have Ht6 : Hid (Tch (fun _ => False) w5 w6) := t6
          have hS6 : w6.heap[w5.heap.size]? = some (.cells #[.int .i64 1, .int .i64 nx, .slice so 2 sc] 38 (0, 0)) := by rw [hw6]; exact alloc_new _ _
          obtain ⟨S1, hS1⟩ : ∃ S1, S1 = w5.heap.size := ⟨_, rfl⟩
          have HS1 : Hid (S1 = w5.heap.size) := hS1
          rw [← hS1] at hS6
          have HS6 : Hid (w6.heap[S1]? = some (.cells #[.int .i64 1, .int .i64 nx, .slice so 2 sc] 38 (0, 0))) := hS6
          have HM5 : Hid (MF w5 b (owS 1 [1, 2] ps) (fun i => i < N)) := hM5
          have Hw6 : Hid (w6 = w5.alloc (.cells #[.int .i64 1, .int .i64 nx, .slice so 2 sc] 38)) := hw6
          clear hv5 hv5' t5 t6 hM5 q6 hS6 hS1 hw6
          go_wp2_with fail
          have hw6 := Hw6.out
          rw [← hw6, ← HS1.out]
          clear hw6
          refine q6'.mono ?_
          rintro x w7 ⟨rfl, hw7⟩
          obtain rfl := hw7.symm
          clear q6' hw7
          have hmk := mk_bools nx (by omega)
          obtain ⟨B, hB⟩ : ∃ B, B = w6.heap.size := ⟨_, rfl⟩
          obtain ⟨w7, hw7⟩ : ∃ w7, w7 = w6.alloc (.cells ((insB nx []).set 1 (.bool true)).toArray 4) := ⟨_, rfl⟩
          have hB7 : (w6.alloc (.cells (insB nx []).toArray 4)).heap[w6.heap.size]? = some (.cells (insB nx []).toArray 4 (0, 0)) := alloc_new _ _
          have b1 : (w6.alloc (.cells (insB nx []).toArray 4)).cell? ⟨w6.heap.size, 1, none⟩ = some (.bool false) := by rw [blk_cell hB7, List.getElem?_toArray, insB_at _ (by omega)]; rfl
          have f1 := blk_frozen hB7 1
          have t7 : Tch (fun _ => False) w6 w7 := by rw [hw7]; exact Tch.alloc _ _ _
          obtain ⟨w8, hw8⟩ : ∃ w8, w8 = w7 := ⟨_, rfl⟩
          have hB8 : w8.heap[B]? = some (.cells (insB nx [1]).toArray 4 (0, 0)) := by
            have h9 := insB_set nx [] 1
            rw [List.nil_append] at h9
            rw [hw8, hw7, hB, h9]
            exact alloc_new _ _
          have t8 : Tch (fun i => i = B) w7 w8 := by rw [hw8]; exact Tch.refl _ _
          have HB : Hid (B = w6.heap.size) := hB
          have Hw7 : Hid (w7 = w6.alloc (.cells ((insB nx []).set 1 (.bool true)).toArray 4)) := hw7
          have Hw8 : Hid (w8 = w7) := hw8
          have HB8 : Hid (w8.heap[B]? = some (.cells (insB nx [1]).toArray 4 (0, 0))) := hB8
          have Ht7 : Hid (Tch (fun _ => False) w6 w7) := t7
          have Ht8 : Hid (Tch (fun i => i = B) w7 w8) := t8
          clear hB7 t7 t8 hB8 hw8 hw7 hB
          go_wp2_with fail
          have hw7 := Hw7.out
          have hw8 := Hw8.out
          rw [← HB.out, ← hw7, ← hw8]
          clear hw7 hw8 hmk b1 f1
          have HBs : Hid (wv.heap.size ≤ w4.heap.size ∧ w4.heap.size ≤ w5.heap.size ∧ w5.heap.size ≤ w6.heap.size ∧ B = w6.heap.size ∧ w7.heap.size = B + 1 ∧ w6.heap.size = S1 + 1 ∧ S1 = w5.heap.size) := ⟨Ht4.out.size, Ht5.out.size, Ht6.out.size, HB.out, by rw [Hw7.out, HB.out]; simp, by rw [Hw6.out, HS1.out]; simp, HS1.out⟩
          have HI8 : Hid (∀ W, Tch (fun i => i = B) w8 W → IR W lo (LL.map (fun x : Nat => (x : Int)))) := fun W tW => by
            have h1 := HBs.out
            have h2 := own_tch (own_tch (own_tch (own_tch Hv.out Ht5.out (fun _ _ h => h)) Ht6.out (fun _ _ h => h)) Ht7.out (fun _ _ h => h)) Ht8.out (fun g hg e => by
              obtain ⟨cur, hc⟩ := own_blk Hv.out hg
              have := blk_lt hc
              omega)
            exact IR.of_own (own_tch h2 tW (fun g hg e => by
              obtain ⟨cur, hc⟩ := own_blk Hv.out hg
              have := blk_lt hc
              omega))
          have Hlx : Hid (∀ x ∈ LL, x < nx) := fun x hx => by
            rw [HLL.out] at hx
            obtain ⟨i, p, rfl, hp, _⟩ := surv_at Hps.out hx
            have := (List.getElem?_eq_some_iff.1 hp).1
            have := Hnx.out
            omega
          go_loopw [21] (fun i wr => ∃ k : Nat, i = .int .i64 k ∧ k ≤ ln ∧ Hid (wr.heap[B]? = some (.cells (insB nx (1 :: LL.take k)).toArray 4 (0, 0))) ∧ Tch (fun i => i = B) w8 wr) (fun i _ => ln - (intOf i).toNat)
          case atStart => exact ⟨0, rfl, by omega, HB8, Tch.refl _ _⟩
          case round =>
            obtain ⟨k2, rfl, hk2, HBk, tk2⟩ := hrel
            by_cases hlt2 : (k2 : Int) < ln
            · have hkl : k2 < LL.length := by have := Hln.out; omega
              obtain ⟨x, hx⟩ : ∃ x, LL[k2]? = some x := ⟨_, List.getElem?_eq_getElem hkl⟩
              obtain ⟨lg, lof, rfl, lcell⟩ := HI8.out wr tk2 k2 (x : Int) (by rw [List.getElem?_map, hx]; rfl)
              have hxn := Hlx.out x (List.mem_of_getElem? hx)
              have hxI : (x : Int) < nx := by omega
              have bx : wr.cell? ⟨B, x, none⟩ = some (.bool (decide (x ∈ 1 :: LL.take k2))) := by rw [blk_cell HBk.out, List.getElem?_toArray, insB_at _ hxn]
              have fx := blk_frozen HBk.out x
              have HB' : Hid ((wr.setCell ⟨B, x, none⟩ (.bool true)).heap[B]? = some (.cells (insB nx (1 :: LL.take (k2 + 1))).toArray 4 (0, 0))) := by
                show _ = _
                rw [blk_set HBk.out]
                have h9 := insB_set nx (1 :: LL.take k2) x
                have h8 : LL.take (k2 + 1) = LL.take k2 ++ [x] := by rw [List.take_add_one, hx]; rfl
                rw [h8, ← List.cons_append, ← h9]
                simp
              have Htk : Hid (Tch (fun i => i = B) w8 (wr.setCell ⟨B, x, none⟩ (.bool true))) := tk2.setCellR _ _ rfl
              clear hx hkl tk2 HBk
              go_wp2_with fail
              go_roundw
              case rel => exact ⟨k2 + 1, by go_num, by omega, HB', Htk.out⟩
              case measure => simp [intOf]; omega
            · obtain rfl : k2 = ln := by omega
              obtain ⟨w9, hw9⟩ : ∃ w9, w9 = wr := ⟨_, rfl⟩
              subst hw9
              have hin : ∀ j, j < nx → decide (j ∈ 1 :: LL.take k2) = inE ps j := fun j _ => by
                rw [List.take_of_length_le (by rw [Hln.out]; exact Nat.le_refl _), HLL.out]
                unfold inE
                exact decide_eq_decide.2 (by rw [List.mem_cons])
              obtain ⟨F2, hF2⟩ : ∃ F2 : Nat → Prop, F2 = fun i => i < N ∨ wv.heap.size ≤ i ∧ i < w7.heap.size := ⟨_, rfl⟩
              have HM9 : Hid (MF w9 b (owS 1 [1, 2] ps) F2) := by
                have h1 := HM.out.fresh (((Ht4.out.trans' Ht5.out).trans' Ht6.out).trans' Ht7.out)
                rw [hF2]
                refine MF.tch h1 (Ht8.out.trans' tk2) (fun i _ e => Or.inr ?_)
                have := HBs.out
                omega
              have HF : Hid (∀ W, Kept F2 w9 W → (W.cell? ⟨S1, 0, none⟩ = some (.int .i64 1) ∧ W.cell? ⟨S1, 1, none⟩ = some (.int .i64 nx) ∧ W.cell? ⟨S1, 2, none⟩ = some (.slice so 2 sc)) ∧ IR W so [1, 2] ∧ (∀ j, j < nx → W.cell? ⟨B, j, none⟩ = some (.bool (inE ps j))) ∧ IR W lo (LL.map (fun x : Nat => (x : Int))) ∧ Tch (fun _ => False) w W) := fun W tW => by
                have h1 := HBs.out
                have hin2 : ∀ i, wv.heap.size ≤ i → i < w7.heap.size → ¬ ¬ F2 i := fun i a b h => h (by rw [hF2]; exact Or.inr ⟨a, b⟩)
                have tB := Ht8.out.trans' tk2
                have hS := (tW.block S1 (by have := tB.size; omega) (hin2 S1 (by omega) (by omega))).trans ((tB.block S1 (by omega) (by omega)).trans ((Ht7.out.block S1 (blk_lt HS6.out) (fun h => h)).trans HS6.out))
                have hBW := (tW.block B (blk_lt HBk.out) (hin2 B (by omega) (by omega))).trans HBk.out
                refine ⟨⟨by rw [blk_cell hS]; rfl, by rw [blk_cell hS]; rfl, by rw [blk_cell hS]; rfl⟩, ?_, fun j hj => by rw [blk_cell hBW, List.getElem?_toArray, insB_at _ hj, hin j hj], ?_, ?_⟩
                · have h2 := own_tch (own_tch (own_tch (own_tch Hv5.out Ht6.out (fun _ _ h => h)) Ht7.out (fun _ _ h => h)) tB (fun g hg e => by
                    obtain ⟨cur, hc⟩ := own_blk Hv5.out hg
                    have := blk_lt hc
                    omega)) tW (fun g hg => by
                    obtain ⟨cur, hc⟩ := own_blk Hv5.out hg
                    have := blk_lt hc
                    have := row_ge Hv5.out hg
                    exact hin2 g (by omega) (by omega))
                  exact IR.of_own h2
                · have h2 := own_tch (own_tch (own_tch (own_tch (own_tch Hv.out Ht5.out (fun _ _ h => h)) Ht6.out (fun _ _ h => h)) Ht7.out (fun _ _ h => h)) tB (fun g hg e => by
                    obtain ⟨cur, hc⟩ := own_blk Hv.out hg
                    have := blk_lt hc
                    omega)) tW (fun g hg => by
                    obtain ⟨cur, hc⟩ := own_blk Hv.out hg
                    have := blk_lt hc
                    have := row_ge Hv.out hg
                    exact hin2 g (by omega) (by omega))
                  exact IR.of_own h2
                · have h2 := ((((Htw.out.trans' Ht4.out).trans' Ht5.out).trans' Ht6.out).trans' Ht7.out).trans tB (fun i hi e => by have := Htw.out.size; omega)
                  exact h2.trans tW (fun i hi e => e (by rw [hF2]; exact Or.inl (by have := HN.out; omega)))
              clear hF2 hin tk2 HBk
              go_wp2_with fail
              go_loopw [22] (fun i wr => ∃ j : Nat, i = .int .i64 j ∧ 1 ≤ j ∧ j ≤ nx ∧ Tch (fun _ => False) w9 wr) (fun i _ => nx - (intOf i).toNat)
              case atStart => exact ⟨1, rfl, by omega, by omega, Tch.refl _ _⟩
              case round =>
                obtain ⟨j, rfl, hj1, hjn, tj⟩ := hrel
                obtain ⟨wj, hwj⟩ : ∃ wj, wj = wr := ⟨_, rfl⟩
                subst hwj
                have hMj : MF wj b (owS 1 [1, 2] ps) F2 := HM9.out.no tj
                have qn := next_f b _ wj _ hMj
                have qn' : Calls Try.prog 14 #[.pointer (some ⟨b, 0, none⟩)] wj fun x w' => x = .returned (.int .i64 nx) ∧ w' = wj := by rw [Hnx.out]; exact qn
                have Htj : Hid (Tch (fun _ => False) w9 wj) := tj
                have HMj : Hid (MF wj b (owS 1 [1, 2] ps) F2) := hMj
                clear qn tj hMj
                go_wp2_with fail
                refine qn'.mono ?_
                rintro x w10 ⟨rfl, hw10⟩
                obtain rfl := hw10.symm
                clear qn' hw10
                by_cases hjlt : (j : Int) < nx
                · have hjl : j < nx := by omega
                  by_cases hj2 : j = 2
                  · subst hj2
                    as_aux_lemma =>
                      go_wp2_with fail
                      refine wp_region_quiet_below (by kernel_rfl) (by kernel_rfl) ?_
                      repeat (go_big_quiet_step (fail))
                      refine wpQuiet_nil ?_
                      rintro w10 ⟨pp, rfl⟩
                      have Ht10 : Hid (Tch (fun _ => False) w9 (grow (redrawn wj pp.d) pp.os)) := Htj.out.trans' (tch_regrown wj pp)
                      go_wp2_with fail
                      go_loopw [23] (fun i wr => ∃ k4 : Nat, i = .int .i64 k4 ∧ k4 ≤ k2 ∧ Tch (fun _ => False) w9 wr) (fun i _ => k2 - (intOf i).toNat)
                      case atStart => exact ⟨0, rfl, by omega, Ht10.out⟩
                      case round =>
                        obtain ⟨k4, rfl, hk4, t4'⟩ := hrel
                        by_cases hlt4 : (k4 : Int) < k2
                        · have Ht4' : Hid (Tch (fun _ => False) w9 wr) := t4'
                          clear t4'
                          go_wp2_with fail
                          refine wp_region_quiet_below (by kernel_rfl) (by kernel_rfl) ?_
                          repeat (go_big_quiet_step (fail))
                          refine wpQuiet_nil ?_
                          rintro w11 ⟨pp', rfl⟩
                          have Ht11 : Hid (Tch (fun _ => False) w9 (grow (redrawn wr pp'.d) pp'.os)) := Ht4'.out.trans' (tch_regrown wr pp')
                          go_wp2_with fail
                          go_roundw
                          case rel => exact ⟨k4 + 1, by go_num, by omega, Ht11.out⟩
                          case measure => simp [intOf]; omega
                        · have Ht4' : Hid (Tch (fun _ => False) w9 wr) := t4'
                          clear t4'
                          go_wp2_with fail
                          go_roundw
                          case rel => exact ⟨3, by go_num, by omega, by omega, Ht4'.out⟩
                          case measure => simp [intOf]; omega
                  · have hjb : ((j : Int) == 2) = false := by simp; omega
                    have hjI : ¬ (j : Int) = 2 := by omega
                    obtain ⟨I, hI⟩ : ∃ I, I = inE ps j := ⟨_, rfl⟩
                    have HI : Hid (I = inE ps j) := hI
                    have HSo : Hid (∀ x : Nat, (x = 1 ∨ x ∈ LL) → ∀ W, Tch (fun _ => False) w9 W → Calls Try.prog 15 #[.pointer (some ⟨b, 0, none⟩), .agg #[.int .i64 1, .int .i64 nx, .slice so 2 sc], .int .i64 x, .int .i64 j] W fun y w' => y = .returned (.bool I) ∧ Tch (fun _ => False) W w') := fun x hx W tW => by
                      have h1 := HF.out W (kept_of tW)
                      have h2 := sees_f b _ W F2 (HM9.out.no tW) 1 nx [1, 2] so sc (by decide) h1.2.1 x j (by omega) (by omega) (by omega) (by
                        rcases hx with rfl | hx
                        · omega
                        · have := Hlx.out x hx; omega)
                      rw [ow_sees_own Hps.out [1, 2] 1 nx [1, 2] (by decide) hj1 (by rw [← Hnx.out]; exact hjl) hj2 (by rw [← HLL.out]; exact hx), ← HI.out] at h2
                      exact h2
                    have HS2 : Hid (∀ W, Tch (fun _ => False) w9 W → Calls Try.prog 15 #[.pointer (some ⟨b, 0, none⟩), .agg #[.int .i64 1, .int .i64 nx, .slice so 2 sc], .int .i64 2, .int .i64 j] W fun y w' => y = .returned (.bool false) ∧ Tch (fun _ => False) W w') := fun W tW => by
                      have h1 := HF.out W (kept_of tW)
                      have h2 := sees_f b _ W F2 (HM9.out.no tW) 1 nx [1, 2] so sc (by decide) h1.2.1 2 j (by omega) (by omega) (by omega) (by omega)
                      rw [ow_sees_two Hps.out [1, 2] 1 nx [1, 2] hj1 (by rw [← Hnx.out]; exact hjl) hj2] at h2
                      have e : (inE ps j && (decide ((1 : Nat) = 3) && (decide ((1 : Int) < (nx : Int)) && !decide ((1 : Int) ∈ ([1, 2] : List Int))))) = false := by simp
                      rw [e] at h2
                      exact h2
                    obtain ⟨⟨s0, s1, s2⟩, _, hin9, _, _⟩ := HF.out wj (kept_of Htj.out)
                    have c9 := hin9 j hjl
                    rw [← hI] at c9
                    have k0 := cell_regrown s0; have k1 := cell_regrown s1; have k3 := cell_regrown s2; have k5 := cell_regrown c9
                    have hc1 : ∀ d os, Calls Try.prog 15 #[.pointer (some ⟨b, 0, none⟩), .agg #[.int .i64 1, .int .i64 nx, .slice so 2 sc], .int .i64 1, .int .i64 j] (grow (redrawn wj d) os) fun e' w'' => e' = .returned (.bool I) ∧ ∃ p : Regrown, w'' = grow (redrawn wj p.d) p.os := fun d os => Calls.tch_regrown_of (HSo.out 1 (Or.inl rfl) _ (Htj.out.trans' (tch_regrown wj ⟨d, os⟩)))
                    have hc2 : ∀ d os, Calls Try.prog 15 #[.pointer (some ⟨b, 0, none⟩), .agg #[.int .i64 1, .int .i64 nx, .slice so 2 sc], .int .i64 2, .int .i64 j] (grow (redrawn wj d) os) fun e' w'' => e' = .returned (.bool false) ∧ ∃ p : Regrown, w'' = grow (redrawn wj p.d) p.os := fun d os => Calls.tch_regrown_of (HS2.out _ (Htj.out.trans' (tch_regrown wj ⟨d, os⟩)))
                    have HI' : Hid (∀ W, Kept F2 w9 W → W.cell? ⟨B, j, none⟩ = some (.bool I)) := fun W tW => by rw [HI.out]; exact (HF.out W tW).2.2.1 j hjl
                    clear s0 s1 s2 hin9 c9 hI
                    cases I
                    all_goals
                      as_aux_lemma =>
                        go_wp2_with fail
                        have hj9 : ((j : Int) != 2) = true := by simp; omega
                        have hj8 : ¬ (j : Int) = 2 := by omega
                        refine wp_region_quiet_below (by kernel_rfl) (by kernel_rfl) ?_
                        go_big_quiet_step (fail)
                        go_big_quiet_step (fail)
                        go_big_quiet_step (fail)
                        go_big_quiet_step (fail)
                        go_big_quiet_step (fail)
                        go_big_quiet_step (fail)
                        go_big_quiet_step (fail)
                        go_big_quiet_step (fail)
                        go_big_quiet_step ((go_at_call 15; exact hc1 _ _))
                        repeat (go_big_quiet_step (fail))
                        go_big_quiet_step ((go_at_call 15; exact hc2 _ _))
                        repeat (go_big_quiet_step (fail))
                        refine wpQuiet_nil ?_
                        rintro w10 ⟨pp, rfl⟩
                        have Ht10 : Hid (Tch (fun _ => False) w9 (grow (redrawn wj pp.d) pp.os)) := Htj.out.trans' (tch_regrown wj pp)
                        clear k0 k1 k3 k5 hc1 hc2
                        go_wp2_with fail
                        go_loopw [23] (fun i wr => ∃ k4 : Nat, i = .int .i64 k4 ∧ k4 ≤ k2 ∧ Tch (fun _ => False) w9 wr) (fun i _ => k2 - (intOf i).toNat)
                        case atStart => exact ⟨0, rfl, by omega, Ht10.out⟩
                        case round =>
                          obtain ⟨k4, rfl, hk4, t4'⟩ := hrel
                          have Ht4' : Hid (Tch (fun _ => False) w9 wr) := t4'
                          clear t4'
                          by_cases hlt4 : (k4 : Int) < k2
                          · obtain ⟨⟨s0, s1, s2⟩, _, _, hIl, _⟩ := HF.out wr (kept_of Ht4'.out)
                            have hkl : k4 < LL.length := by have := Hln.out; omega
                            obtain ⟨x4, hx4⟩ : ∃ x, LL[k4]? = some x := ⟨_, List.getElem?_eq_getElem hkl⟩
                            obtain ⟨lg, lof, rfl, lcell⟩ := hIl k4 (x4 : Int) (by rw [List.getElem?_map, hx4]; rfl)
                            have c9 := HI'.out wr (kept_of Ht4'.out)
                            have k0 := cell_regrown s0; have k1 := cell_regrown s1; have k3 := cell_regrown s2; have k5 := cell_regrown c9; have k6 := cell_regrown lcell
                            have hc1 := fun d os => Calls.tch_regrown_of (HSo.out x4 (Or.inr (List.mem_of_getElem? hx4)) (grow (redrawn wr d) os) (Ht4'.out.trans' (tch_regrown wr ⟨d, os⟩)))
                            clear s0 s1 s2 hIl hx4 hkl c9 lcell
                            go_wp2_with fail
                            have hj9 : ((j : Int) != 2) = true := by simp; omega
                            have hj8 : ¬ (j : Int) = 2 := by omega
                            refine wp_region_quiet_below (by kernel_rfl) (by kernel_rfl) ?_
                            repeat (go_big_quiet_step (fail))
                            go_big_quiet_step ((go_at_call 15; exact hc1 _ _))
                            repeat (go_big_quiet_step (fail))
                            refine wpQuiet_nil ?_
                            rintro w11 ⟨pp', rfl⟩
                            have Ht11 : Hid (Tch (fun _ => False) w9 (grow (redrawn wr pp'.d) pp'.os)) := Ht4'.out.trans' (tch_regrown wr pp')
                            clear k0 k1 k3 k5 k6 hc1
                            go_wp2_with fail
                            go_roundw
                            case rel => exact ⟨k4 + 1, by go_num, by omega, Ht11.out⟩
                            case measure => simp [intOf]; omega
                          · go_wp2_with fail
                            go_roundw
                            case rel => exact ⟨j + 1, by go_num, by omega, by omega, Ht4'.out⟩
                            case measure => simp [intOf]; omega
                · have HK : Hid (Kept F2 w9 wj) := kept_of Htj.out
                  clear Htj hjn hj1
                  have hMj : MF wj b (owS 1 [1, 2] ps) F2 := HMj.out
                  cases pr
                  · cases cm
                    · as_aux_lemma =>
                        have qC := abort_f b _ wj F2 hMj 1 (by omega) (by omega)
                        clear hMj
                        go_wp2_with fail
                        refine qC.mono ?_
                        rintro x w14 ⟨_, hO⟩
                        obtain ⟨rfl, hM14, k14⟩ := (hO.2 _ (ow_1 1 [1, 2])).2 (by simp)
                        rw [show (fun t : Tx => (owS 1 [1, 2] ps).fin t.x 4) ⟨1, 1, ps⟩ = (owS 1 [1, 2] ps).fin 1 4 from rfl, ow_fin] at hM14
                        have HK14 : Hid (Kept F2 w9 w14) := HK.out.trans' k14
                        have HM14 : Hid (MF w14 b (owS 4 [2] ps) F2) := hM14
                        have qS := snapshot_f b _ w14 F2 hM14
                        clear qC hO hM14 k14
                        go_wp2_with fail
                        refine qS.mono ?_
                        rintro x w15 ⟨⟨v15, rfl, hv15⟩, t15⟩
                        clear qS
                        have e15 : Value.agg #[.int .i64 ((owS 4 [2] ps).on.headD (owS 4 [2] ps).nx : Nat), .int .i64 (owS 4 [2] ps).nx, v15] = .agg #[.int .i64 2, .int .i64 nx, v15] := by rw [Hnx.out]; rfl
                        rw [e15]
                        clear e15
                        have hv15' : w15.ownsRow w14.heap.size 3 1 v15 1 (icl [2]) := hv15
                        obtain ⟨to, tc, rfl⟩ := row_slice hv15'
                        obtain ⟨w16, hw16⟩ : ∃ w16, w16 = w15.alloc (.cells #[.int .i64 2, .int .i64 nx, .slice to 1 tc] 38) := ⟨_, rfl⟩
                        have t16 : Tch (fun _ => False) w15 w16 := by rw [hw16]; exact Tch.alloc _ _ _
                        have hT16 : w16.heap[w15.heap.size]? = some (.cells #[.int .i64 2, .int .i64 nx, .slice to 1 tc] 38 (0, 0)) := by rw [hw16]; exact alloc_new _ _
                        obtain ⟨T1, hT1⟩ : ∃ T1, T1 = w15.heap.size := ⟨_, rfl⟩
                        have HT1 : Hid (T1 = w15.heap.size) := hT1
                        rw [← hT1] at hT16
                        have hM16 : MF w16 b (owS 4 [2] ps) F2 := HM14.out.no (t15.trans' t16)
                        have q17 := commit_f b _ w16 F2 hM16 1 (by omega) (by omega)
                        have HM16 : Hid (MF w16 b (owS 4 [2] ps) F2) := hM16
                        have HG : Hid (∀ W, Tch (fun _ => False) w16 W → (W.cell? ⟨T1, 0, none⟩ = some (.int .i64 2) ∧ W.cell? ⟨T1, 1, none⟩ = some (.int .i64 nx) ∧ W.cell? ⟨T1, 2, none⟩ = some (.slice to 1 tc)) ∧ IR W to [2] ∧ Kept F2 w9 W) := fun W tW => by
                          have h1 := (tW.block T1 (blk_lt hT16) (fun h => h)).trans hT16
                          exact ⟨⟨by rw [blk_cell h1]; rfl, by rw [blk_cell h1]; rfl, by rw [blk_cell h1]; rfl⟩, IR.of_own (l := [2]) (own_tch (own_tch hv15' t16 (fun _ _ h => h)) tW (fun _ _ h => h)), HK14.out.trans' (kept_of ((t15.trans' t16).trans' tW))⟩
                        have Hw16 : Hid (w16 = w15.alloc (.cells #[.int .i64 2, .int .i64 nx, .slice to 1 tc] 38)) := hw16
                        clear hv15 hv15' t15 t16 hT16 hT1 hM16 hw16 HM14 HK14
                        go_wp2_with fail
                        have hw16 := Hw16.out
                        rw [← hw16, ← HT1.out]
                        clear hw16
                        refine q17.mono ?_
                        rintro x w17 ⟨_, hO⟩
                        obtain ⟨rfl, t17⟩ := (hO.2 _ (ow_1 4 [2])).1 (by simp)
                        have q18 := abort_f b _ w17 F2 (HM16.out.no t17) 1 (by omega) (by omega)
                        have Ht17 : Hid (Tch (fun _ => False) w16 w17) := t17
                        clear q17 hO t17
                        go_wp2_with fail
                        refine q18.mono ?_
                        rintro x w18 ⟨_, hO⟩
                        obtain ⟨rfl, t18⟩ := (hO.2 _ (ow_1 4 [2])).1 (by simp)
                        have Ht18 : Hid (Tch (fun _ => False) w16 w18) := Ht17.out.trans' t18
                        clear q18 hO t18 Ht17
                        go_wp2_with fail
                        go_loopw [25] (fun i wr => ∃ j : Nat, i = .int .i64 j ∧ 1 ≤ j ∧ j ≤ nx ∧ Tch (fun _ => False) w16 wr) (fun i _ => nx - (intOf i).toNat)
                        case atStart => exact ⟨1, rfl, by omega, by omega, Ht18.out⟩
                        case round =>
                          obtain ⟨j, rfl, hj1, hjn, tj⟩ := hrel
                          obtain ⟨wj, hwj⟩ : ∃ wj, wj = wr := ⟨_, rfl⟩
                          subst hwj
                          have hMj : MF wj b (owS 4 [2] ps) F2 := HM16.out.no tj
                          have qn := next_f b _ wj _ hMj
                          have qn' : Calls Try.prog 14 #[.pointer (some ⟨b, 0, none⟩)] wj fun x w' => x = .returned (.int .i64 nx) ∧ w' = wj := by rw [Hnx.out]; exact qn
                          have Htj : Hid (Tch (fun _ => False) w16 wj) := tj
                          have HMj : Hid (MF wj b (owS 4 [2] ps) F2) := hMj
                          clear qn tj hMj
                          go_wp2_with fail
                          refine qn'.mono ?_
                          rintro x w10 ⟨rfl, hw10⟩
                          obtain rfl := hw10.symm
                          clear qn' hw10
                          by_cases hjlt : (j : Int) < nx
                          · have hjl : j < nx := by omega
                            by_cases hj2 : j = 2
                            · subst hj2
                              go_wp2_with fail
                              refine wp_region_quiet_below (by kernel_rfl) (by kernel_rfl) ?_
                              repeat (go_big_quiet_step (fail))
                              refine wpQuiet_nil ?_
                              rintro w10 ⟨pp, rfl⟩
                              have Ht10 : Hid (Tch (fun _ => False) w16 (grow (redrawn wj pp.d) pp.os)) := Htj.out.trans' (tch_regrown wj pp)
                              go_wp2_with fail
                              go_roundw
                              case rel => exact ⟨3, by go_num, by omega, by omega, Ht10.out⟩
                              case measure => simp [intOf]; omega
                            · obtain ⟨I, hI⟩ : ∃ I, I = inE ps j := ⟨_, rfl⟩
                              obtain ⟨⟨s0, s1, s2⟩, hI1, hKj⟩ := HG.out wj Htj.out
                              obtain ⟨⟨z0, z1, z2⟩, hI2, hin9, _, _⟩ := HF.out wj hKj
                              have c9 := hin9 j hjl
                              have qa := fun W (tW : Tch (fun _ => False) wj W) => sees_f b _ W F2 (HMj.out.no tW) 2 nx [2] to tc (by decide) (hI1.no tW) 2 j (by omega) (by omega) (by omega) (by omega)
                              have qb := fun W (tW : Tch (fun _ => False) wj W) => sees_f b _ W F2 (HMj.out.no tW) 1 nx [1, 2] so sc (by decide) (hI2.no tW) 2 j (by omega) (by omega) (by omega) (by omega)
                              rw [ow_sees_two Hps.out [2] 2 nx [2] hj1 (by rw [← Hnx.out]; exact hjl) hj2] at qa
                              rw [ow_sees_two Hps.out [2] 1 nx [1, 2] hj1 (by rw [← Hnx.out]; exact hjl) hj2] at qb
                              have ea : (inE ps j && (decide ((4 : Nat) = 3) && (decide ((1 : Int) < (nx : Int)) && !decide ((1 : Int) ∈ ([2] : List Int))))) = (I && false) := by rw [hI, decide_eq_true (show (1 : Int) < (nx : Int) by omega)]; simp
                              have eb : (inE ps j && (decide ((4 : Nat) = 3) && (decide ((1 : Int) < (nx : Int)) && !decide ((1 : Int) ∈ ([1, 2] : List Int))))) = false := by simp
                              rw [ea] at qa
                              rw [eb] at qb
                              rw [← hI] at c9
                              have k0 := cell_regrown s0; have k1 := cell_regrown s1; have k3 := cell_regrown s2; have k5 := cell_regrown c9; have k6 := cell_regrown z0; have k7 := cell_regrown z1; have k8 := cell_regrown z2
                              have hc1 : ∀ d os, Calls Try.prog 15 #[.pointer (some ⟨b, 0, none⟩), .agg #[.int .i64 2, .int .i64 nx, .slice to 1 tc], .int .i64 2, .int .i64 j] (grow (redrawn wj d) os) fun e' w'' => e' = .returned (.bool (I && false)) ∧ ∃ p : Regrown, w'' = grow (redrawn wj p.d) p.os := fun d os => Calls.tch_regrown_of (qa _ (tch_regrown wj ⟨d, os⟩))
                              have hc2 : ∀ d os, Calls Try.prog 15 #[.pointer (some ⟨b, 0, none⟩), .agg #[.int .i64 1, .int .i64 nx, .slice so 2 sc], .int .i64 2, .int .i64 j] (grow (redrawn wj d) os) fun e' w'' => e' = .returned (.bool false) ∧ ∃ p : Regrown, w'' = grow (redrawn wj p.d) p.os := fun d os => Calls.tch_regrown_of (qb _ (tch_regrown wj ⟨d, os⟩))
                              clear s0 s1 s2 z0 z1 z2 hin9 c9 qa qb ea eb hI1 hI2 hKj hI
                              cases I
                              all_goals
                                go_wp2_with fail
                                have hj9 : ((j : Int) != 2) = true := by simp; omega
                                have hj8 : ¬ (j : Int) = 2 := by omega
                                refine wp_region_quiet_below (by kernel_rfl) (by kernel_rfl) ?_
                                repeat (go_big_quiet_step (fail))
                                go_big_quiet_step ((go_at_call 15; exact hc1 _ _))
                                repeat (go_big_quiet_step (fail))
                                go_big_quiet_step ((go_at_call 15; exact hc2 _ _))
                                repeat (go_big_quiet_step (fail))
                                refine wpQuiet_nil ?_
                                rintro w10 ⟨pp, rfl⟩
                                have Ht10 : Hid (Tch (fun _ => False) w16 (grow (redrawn wj pp.d) pp.os)) := Htj.out.trans' (tch_regrown wj pp)
                                clear k0 k1 k3 k5 k6 k7 k8 hc1 hc2
                                go_wp2_with fail
                                go_roundw
                                case rel => exact ⟨j + 1, by go_num, by omega, by omega, Ht10.out⟩
                                case measure => simp [intOf]; omega
                          · have HEnd : Hid (Tch (fun _ => False) w wj) := (HF.out wj (HG.out wj Htj.out).2.2).2.2.2.2
                            go_wp2_with fail
                            go_ret
                            exact ⟨rfl, HEnd.out⟩
                    · as_aux_lemma =>
                        have qC := commit_f b _ wj F2 hMj 1 (by omega) (by omega)
                        clear hMj
                        go_wp2_with fail
                        refine qC.mono ?_
                        rintro x w14 ⟨_, hO⟩
                        obtain ⟨rfl, hM14, k14⟩ := (hO.2 _ (ow_1 1 [1, 2])).2 (by simp)
                        rw [show (fun t : Tx => (owS 1 [1, 2] ps).fin t.x 3) ⟨1, 1, ps⟩ = (owS 1 [1, 2] ps).fin 1 3 from rfl, ow_fin] at hM14
                        have HK14 : Hid (Kept F2 w9 w14) := HK.out.trans' k14
                        have HM14 : Hid (MF w14 b (owS 3 [2] ps) F2) := hM14
                        have qS := snapshot_f b _ w14 F2 hM14
                        clear qC hO hM14 k14
                        go_wp2_with fail
                        refine qS.mono ?_
                        rintro x w15 ⟨⟨v15, rfl, hv15⟩, t15⟩
                        clear qS
                        have e15 : Value.agg #[.int .i64 ((owS 3 [2] ps).on.headD (owS 3 [2] ps).nx : Nat), .int .i64 (owS 3 [2] ps).nx, v15] = .agg #[.int .i64 2, .int .i64 nx, v15] := by rw [Hnx.out]; rfl
                        rw [e15]
                        clear e15
                        have hv15' : w15.ownsRow w14.heap.size 3 1 v15 1 (icl [2]) := hv15
                        obtain ⟨to, tc, rfl⟩ := row_slice hv15'
                        obtain ⟨w16, hw16⟩ : ∃ w16, w16 = w15.alloc (.cells #[.int .i64 2, .int .i64 nx, .slice to 1 tc] 38) := ⟨_, rfl⟩
                        have t16 : Tch (fun _ => False) w15 w16 := by rw [hw16]; exact Tch.alloc _ _ _
                        have hT16 : w16.heap[w15.heap.size]? = some (.cells #[.int .i64 2, .int .i64 nx, .slice to 1 tc] 38 (0, 0)) := by rw [hw16]; exact alloc_new _ _
                        obtain ⟨T1, hT1⟩ : ∃ T1, T1 = w15.heap.size := ⟨_, rfl⟩
                        have HT1 : Hid (T1 = w15.heap.size) := hT1
                        rw [← hT1] at hT16
                        have hM16 : MF w16 b (owS 3 [2] ps) F2 := HM14.out.no (t15.trans' t16)
                        have q17 := commit_f b _ w16 F2 hM16 1 (by omega) (by omega)
                        have HM16 : Hid (MF w16 b (owS 3 [2] ps) F2) := hM16
                        have HG : Hid (∀ W, Tch (fun _ => False) w16 W → (W.cell? ⟨T1, 0, none⟩ = some (.int .i64 2) ∧ W.cell? ⟨T1, 1, none⟩ = some (.int .i64 nx) ∧ W.cell? ⟨T1, 2, none⟩ = some (.slice to 1 tc)) ∧ IR W to [2] ∧ Kept F2 w9 W) := fun W tW => by
                          have h1 := (tW.block T1 (blk_lt hT16) (fun h => h)).trans hT16
                          exact ⟨⟨by rw [blk_cell h1]; rfl, by rw [blk_cell h1]; rfl, by rw [blk_cell h1]; rfl⟩, IR.of_own (l := [2]) (own_tch (own_tch hv15' t16 (fun _ _ h => h)) tW (fun _ _ h => h)), HK14.out.trans' (kept_of ((t15.trans' t16).trans' tW))⟩
                        have Hw16 : Hid (w16 = w15.alloc (.cells #[.int .i64 2, .int .i64 nx, .slice to 1 tc] 38)) := hw16
                        clear hv15 hv15' t15 t16 hT16 hT1 hM16 hw16 HM14 HK14
                        go_wp2_with fail
                        have hw16 := Hw16.out
                        rw [← hw16, ← HT1.out]
                        clear hw16
                        refine q17.mono ?_
                        rintro x w17 ⟨_, hO⟩
                        obtain ⟨rfl, t17⟩ := (hO.2 _ (ow_1 3 [2])).1 (by simp)
                        have q18 := abort_f b _ w17 F2 (HM16.out.no t17) 1 (by omega) (by omega)
                        have Ht17 : Hid (Tch (fun _ => False) w16 w17) := t17
                        clear q17 hO t17
                        go_wp2_with fail
                        refine q18.mono ?_
                        rintro x w18 ⟨_, hO⟩
                        obtain ⟨rfl, t18⟩ := (hO.2 _ (ow_1 3 [2])).1 (by simp)
                        have Ht18 : Hid (Tch (fun _ => False) w16 w18) := Ht17.out.trans' t18
                        clear q18 hO t18 Ht17
                        go_wp2_with fail
                        go_loopw [25] (fun i wr => ∃ j : Nat, i = .int .i64 j ∧ 1 ≤ j ∧ j ≤ nx ∧ Tch (fun _ => False) w16 wr) (fun i _ => nx - (intOf i).toNat)
                        case atStart => exact ⟨1, rfl, by omega, by omega, Ht18.out⟩
                        case round =>
                          obtain ⟨j, rfl, hj1, hjn, tj⟩ := hrel
                          obtain ⟨wj, hwj⟩ : ∃ wj, wj = wr := ⟨_, rfl⟩
                          subst hwj
                          have hMj : MF wj b (owS 3 [2] ps) F2 := HM16.out.no tj
                          have qn := next_f b _ wj _ hMj
                          have qn' : Calls Try.prog 14 #[.pointer (some ⟨b, 0, none⟩)] wj fun x w' => x = .returned (.int .i64 nx) ∧ w' = wj := by rw [Hnx.out]; exact qn
                          have Htj : Hid (Tch (fun _ => False) w16 wj) := tj
                          have HMj : Hid (MF wj b (owS 3 [2] ps) F2) := hMj
                          clear qn tj hMj
                          go_wp2_with fail
                          refine qn'.mono ?_
                          rintro x w10 ⟨rfl, hw10⟩
                          obtain rfl := hw10.symm
                          clear qn' hw10
                          by_cases hjlt : (j : Int) < nx
                          · have hjl : j < nx := by omega
                            by_cases hj2 : j = 2
                            · subst hj2
                              go_wp2_with fail
                              refine wp_region_quiet_below (by kernel_rfl) (by kernel_rfl) ?_
                              repeat (go_big_quiet_step (fail))
                              refine wpQuiet_nil ?_
                              rintro w10 ⟨pp, rfl⟩
                              have Ht10 : Hid (Tch (fun _ => False) w16 (grow (redrawn wj pp.d) pp.os)) := Htj.out.trans' (tch_regrown wj pp)
                              go_wp2_with fail
                              go_roundw
                              case rel => exact ⟨3, by go_num, by omega, by omega, Ht10.out⟩
                              case measure => simp [intOf]; omega
                            · obtain ⟨I, hI⟩ : ∃ I, I = inE ps j := ⟨_, rfl⟩
                              obtain ⟨⟨s0, s1, s2⟩, hI1, hKj⟩ := HG.out wj Htj.out
                              obtain ⟨⟨z0, z1, z2⟩, hI2, hin9, _, _⟩ := HF.out wj hKj
                              have c9 := hin9 j hjl
                              have qa := fun W (tW : Tch (fun _ => False) wj W) => sees_f b _ W F2 (HMj.out.no tW) 2 nx [2] to tc (by decide) (hI1.no tW) 2 j (by omega) (by omega) (by omega) (by omega)
                              have qb := fun W (tW : Tch (fun _ => False) wj W) => sees_f b _ W F2 (HMj.out.no tW) 1 nx [1, 2] so sc (by decide) (hI2.no tW) 2 j (by omega) (by omega) (by omega) (by omega)
                              rw [ow_sees_two Hps.out [2] 2 nx [2] hj1 (by rw [← Hnx.out]; exact hjl) hj2] at qa
                              rw [ow_sees_two Hps.out [2] 1 nx [1, 2] hj1 (by rw [← Hnx.out]; exact hjl) hj2] at qb
                              have ea : (inE ps j && (decide ((3 : Nat) = 3) && (decide ((1 : Int) < (nx : Int)) && !decide ((1 : Int) ∈ ([2] : List Int))))) = (I && true) := by rw [hI, decide_eq_true (show (1 : Int) < (nx : Int) by omega)]; simp
                              have eb : (inE ps j && (decide ((3 : Nat) = 3) && (decide ((1 : Int) < (nx : Int)) && !decide ((1 : Int) ∈ ([1, 2] : List Int))))) = false := by simp
                              rw [ea] at qa
                              rw [eb] at qb
                              rw [← hI] at c9
                              have k0 := cell_regrown s0; have k1 := cell_regrown s1; have k3 := cell_regrown s2; have k5 := cell_regrown c9; have k6 := cell_regrown z0; have k7 := cell_regrown z1; have k8 := cell_regrown z2
                              have hc1 : ∀ d os, Calls Try.prog 15 #[.pointer (some ⟨b, 0, none⟩), .agg #[.int .i64 2, .int .i64 nx, .slice to 1 tc], .int .i64 2, .int .i64 j] (grow (redrawn wj d) os) fun e' w'' => e' = .returned (.bool (I && true)) ∧ ∃ p : Regrown, w'' = grow (redrawn wj p.d) p.os := fun d os => Calls.tch_regrown_of (qa _ (tch_regrown wj ⟨d, os⟩))
                              have hc2 : ∀ d os, Calls Try.prog 15 #[.pointer (some ⟨b, 0, none⟩), .agg #[.int .i64 1, .int .i64 nx, .slice so 2 sc], .int .i64 2, .int .i64 j] (grow (redrawn wj d) os) fun e' w'' => e' = .returned (.bool false) ∧ ∃ p : Regrown, w'' = grow (redrawn wj p.d) p.os := fun d os => Calls.tch_regrown_of (qb _ (tch_regrown wj ⟨d, os⟩))
                              clear s0 s1 s2 z0 z1 z2 hin9 c9 qa qb ea eb hI1 hI2 hKj hI
                              cases I
                              all_goals
                                go_wp2_with fail
                                have hj9 : ((j : Int) != 2) = true := by simp; omega
                                have hj8 : ¬ (j : Int) = 2 := by omega
                                refine wp_region_quiet_below (by kernel_rfl) (by kernel_rfl) ?_
                                repeat (go_big_quiet_step (fail))
                                go_big_quiet_step ((go_at_call 15; exact hc1 _ _))
                                repeat (go_big_quiet_step (fail))
                                go_big_quiet_step ((go_at_call 15; exact hc2 _ _))
                                repeat (go_big_quiet_step (fail))
                                refine wpQuiet_nil ?_
                                rintro w10 ⟨pp, rfl⟩
                                have Ht10 : Hid (Tch (fun _ => False) w16 (grow (redrawn wj pp.d) pp.os)) := Htj.out.trans' (tch_regrown wj pp)
                                clear k0 k1 k3 k5 k6 k7 k8 hc1 hc2
                                go_wp2_with fail
                                go_roundw
                                case rel => exact ⟨j + 1, by go_num, by omega, by omega, Ht10.out⟩
                                case measure => simp [intOf]; omega
                          · have HEnd : Hid (Tch (fun _ => False) w wj) := (HF.out wj (HG.out wj Htj.out).2.2).2.2.2.2
                            go_wp2_with fail
                            go_ret
                            exact ⟨rfl, HEnd.out⟩
                  · cases cm
                    · as_aux_lemma =>
                        have qP := prepare_f b _ wj F2 hMj 1 (by omega) (by omega)
                        clear hMj HMj
                        go_wp2_with fail
                        refine qP.mono ?_
                        rintro x w12 hO
                        obtain ⟨rfl, hM12, k12⟩ := (hO.2 _ (ow_1 1 [1, 2])).2 (by simp)
                        rw [show (fun t : Tx => (owS 1 [1, 2] ps).prep t.x) ⟨1, 1, ps⟩ = (owS 1 [1, 2] ps).prep 1 from rfl, ow_prep] at hM12
                        have qT := part_f b _ w12 F2 hM12 1 (by omega) (by omega)
                        have HM12 : Hid (MF w12 b (owS 2 [1, 2] ps) F2) := hM12
                        have HK12 : Hid (Kept F2 w9 w12) := HK.out.trans' k12
                        clear qP hO hM12 k12
                        go_wp2_with fail
                        refine qT.mono ?_
                        rintro x w13 ⟨_, hO⟩
                        obtain ⟨e13, t13⟩ := (hO.2 _ _ (ow_1 2 [1, 2])).1 (by simp [partE, may])
                        have e13' : x = .returned (.tuple #[.int .i64 0, .int .i64 71]) := e13.trans (by simp [partE, may])
                        subst e13'
                        have hMj : MF w13 b (owS 2 [1, 2] ps) F2 := HM12.out.no t13
                        have HK13 : Hid (Kept F2 w9 w13) := HK12.out.trans' (kept_of t13)
                        clear qT hO e13 t13 HM12 HK12
                        have qC := abort_f b _ w13 F2 hMj 1 (by omega) (by omega)
                        clear hMj
                        go_wp2_with fail
                        refine qC.mono ?_
                        rintro x w14 ⟨_, hO⟩
                        obtain ⟨rfl, hM14, k14⟩ := (hO.2 _ (ow_1 2 [1, 2])).2 (by simp)
                        rw [show (fun t : Tx => (owS 2 [1, 2] ps).fin t.x 4) ⟨1, 2, ps⟩ = (owS 2 [1, 2] ps).fin 1 4 from rfl, ow_fin] at hM14
                        have HK14 : Hid (Kept F2 w9 w14) := HK13.out.trans' k14
                        have HM14 : Hid (MF w14 b (owS 4 [2] ps) F2) := hM14
                        have qS := snapshot_f b _ w14 F2 hM14
                        clear qC hO hM14 k14
                        go_wp2_with fail
                        refine qS.mono ?_
                        rintro x w15 ⟨⟨v15, rfl, hv15⟩, t15⟩
                        clear qS
                        have e15 : Value.agg #[.int .i64 ((owS 4 [2] ps).on.headD (owS 4 [2] ps).nx : Nat), .int .i64 (owS 4 [2] ps).nx, v15] = .agg #[.int .i64 2, .int .i64 nx, v15] := by rw [Hnx.out]; rfl
                        rw [e15]
                        clear e15
                        have hv15' : w15.ownsRow w14.heap.size 3 1 v15 1 (icl [2]) := hv15
                        obtain ⟨to, tc, rfl⟩ := row_slice hv15'
                        obtain ⟨w16, hw16⟩ : ∃ w16, w16 = w15.alloc (.cells #[.int .i64 2, .int .i64 nx, .slice to 1 tc] 38) := ⟨_, rfl⟩
                        have t16 : Tch (fun _ => False) w15 w16 := by rw [hw16]; exact Tch.alloc _ _ _
                        have hT16 : w16.heap[w15.heap.size]? = some (.cells #[.int .i64 2, .int .i64 nx, .slice to 1 tc] 38 (0, 0)) := by rw [hw16]; exact alloc_new _ _
                        obtain ⟨T1, hT1⟩ : ∃ T1, T1 = w15.heap.size := ⟨_, rfl⟩
                        have HT1 : Hid (T1 = w15.heap.size) := hT1
                        rw [← hT1] at hT16
                        have hM16 : MF w16 b (owS 4 [2] ps) F2 := HM14.out.no (t15.trans' t16)
                        have q17 := commit_f b _ w16 F2 hM16 1 (by omega) (by omega)
                        have HM16 : Hid (MF w16 b (owS 4 [2] ps) F2) := hM16
                        have HG : Hid (∀ W, Tch (fun _ => False) w16 W → (W.cell? ⟨T1, 0, none⟩ = some (.int .i64 2) ∧ W.cell? ⟨T1, 1, none⟩ = some (.int .i64 nx) ∧ W.cell? ⟨T1, 2, none⟩ = some (.slice to 1 tc)) ∧ IR W to [2] ∧ Kept F2 w9 W) := fun W tW => by
                          have h1 := (tW.block T1 (blk_lt hT16) (fun h => h)).trans hT16
                          exact ⟨⟨by rw [blk_cell h1]; rfl, by rw [blk_cell h1]; rfl, by rw [blk_cell h1]; rfl⟩, IR.of_own (l := [2]) (own_tch (own_tch hv15' t16 (fun _ _ h => h)) tW (fun _ _ h => h)), HK14.out.trans' (kept_of ((t15.trans' t16).trans' tW))⟩
                        have Hw16 : Hid (w16 = w15.alloc (.cells #[.int .i64 2, .int .i64 nx, .slice to 1 tc] 38)) := hw16
                        clear hv15 hv15' t15 t16 hT16 hT1 hM16 hw16 HM14 HK14
                        go_wp2_with fail
                        have hw16 := Hw16.out
                        rw [← hw16, ← HT1.out]
                        clear hw16
                        refine q17.mono ?_
                        rintro x w17 ⟨_, hO⟩
                        obtain ⟨rfl, t17⟩ := (hO.2 _ (ow_1 4 [2])).1 (by simp)
                        have q18 := abort_f b _ w17 F2 (HM16.out.no t17) 1 (by omega) (by omega)
                        have Ht17 : Hid (Tch (fun _ => False) w16 w17) := t17
                        clear q17 hO t17
                        go_wp2_with fail
                        refine q18.mono ?_
                        rintro x w18 ⟨_, hO⟩
                        obtain ⟨rfl, t18⟩ := (hO.2 _ (ow_1 4 [2])).1 (by simp)
                        have Ht18 : Hid (Tch (fun _ => False) w16 w18) := Ht17.out.trans' t18
                        clear q18 hO t18 Ht17
                        go_wp2_with fail
                        go_loopw [25] (fun i wr => ∃ j : Nat, i = .int .i64 j ∧ 1 ≤ j ∧ j ≤ nx ∧ Tch (fun _ => False) w16 wr) (fun i _ => nx - (intOf i).toNat)
                        case atStart => exact ⟨1, rfl, by omega, by omega, Ht18.out⟩
                        case round =>
                          obtain ⟨j, rfl, hj1, hjn, tj⟩ := hrel
                          obtain ⟨wj, hwj⟩ : ∃ wj, wj = wr := ⟨_, rfl⟩
                          subst hwj
                          have hMj : MF wj b (owS 4 [2] ps) F2 := HM16.out.no tj
                          have qn := next_f b _ wj _ hMj
                          have qn' : Calls Try.prog 14 #[.pointer (some ⟨b, 0, none⟩)] wj fun x w' => x = .returned (.int .i64 nx) ∧ w' = wj := by rw [Hnx.out]; exact qn
                          have Htj : Hid (Tch (fun _ => False) w16 wj) := tj
                          have HMj : Hid (MF wj b (owS 4 [2] ps) F2) := hMj
                          clear qn tj hMj
                          go_wp2_with fail
                          refine qn'.mono ?_
                          rintro x w10 ⟨rfl, hw10⟩
                          obtain rfl := hw10.symm
                          clear qn' hw10
                          by_cases hjlt : (j : Int) < nx
                          · have hjl : j < nx := by omega
                            by_cases hj2 : j = 2
                            · subst hj2
                              go_wp2_with fail
                              refine wp_region_quiet_below (by kernel_rfl) (by kernel_rfl) ?_
                              repeat (go_big_quiet_step (fail))
                              refine wpQuiet_nil ?_
                              rintro w10 ⟨pp, rfl⟩
                              have Ht10 : Hid (Tch (fun _ => False) w16 (grow (redrawn wj pp.d) pp.os)) := Htj.out.trans' (tch_regrown wj pp)
                              go_wp2_with fail
                              go_roundw
                              case rel => exact ⟨3, by go_num, by omega, by omega, Ht10.out⟩
                              case measure => simp [intOf]; omega
                            · obtain ⟨I, hI⟩ : ∃ I, I = inE ps j := ⟨_, rfl⟩
                              obtain ⟨⟨s0, s1, s2⟩, hI1, hKj⟩ := HG.out wj Htj.out
                              obtain ⟨⟨z0, z1, z2⟩, hI2, hin9, _, _⟩ := HF.out wj hKj
                              have c9 := hin9 j hjl
                              have qa := fun W (tW : Tch (fun _ => False) wj W) => sees_f b _ W F2 (HMj.out.no tW) 2 nx [2] to tc (by decide) (hI1.no tW) 2 j (by omega) (by omega) (by omega) (by omega)
                              have qb := fun W (tW : Tch (fun _ => False) wj W) => sees_f b _ W F2 (HMj.out.no tW) 1 nx [1, 2] so sc (by decide) (hI2.no tW) 2 j (by omega) (by omega) (by omega) (by omega)
                              rw [ow_sees_two Hps.out [2] 2 nx [2] hj1 (by rw [← Hnx.out]; exact hjl) hj2] at qa
                              rw [ow_sees_two Hps.out [2] 1 nx [1, 2] hj1 (by rw [← Hnx.out]; exact hjl) hj2] at qb
                              have ea : (inE ps j && (decide ((4 : Nat) = 3) && (decide ((1 : Int) < (nx : Int)) && !decide ((1 : Int) ∈ ([2] : List Int))))) = (I && false) := by rw [hI, decide_eq_true (show (1 : Int) < (nx : Int) by omega)]; simp
                              have eb : (inE ps j && (decide ((4 : Nat) = 3) && (decide ((1 : Int) < (nx : Int)) && !decide ((1 : Int) ∈ ([1, 2] : List Int))))) = false := by simp
                              rw [ea] at qa
                              rw [eb] at qb
                              rw [← hI] at c9
                              have k0 := cell_regrown s0; have k1 := cell_regrown s1; have k3 := cell_regrown s2; have k5 := cell_regrown c9; have k6 := cell_regrown z0; have k7 := cell_regrown z1; have k8 := cell_regrown z2
                              have hc1 : ∀ d os, Calls Try.prog 15 #[.pointer (some ⟨b, 0, none⟩), .agg #[.int .i64 2, .int .i64 nx, .slice to 1 tc], .int .i64 2, .int .i64 j] (grow (redrawn wj d) os) fun e' w'' => e' = .returned (.bool (I && false)) ∧ ∃ p : Regrown, w'' = grow (redrawn wj p.d) p.os := fun d os => Calls.tch_regrown_of (qa _ (tch_regrown wj ⟨d, os⟩))
                              have hc2 : ∀ d os, Calls Try.prog 15 #[.pointer (some ⟨b, 0, none⟩), .agg #[.int .i64 1, .int .i64 nx, .slice so 2 sc], .int .i64 2, .int .i64 j] (grow (redrawn wj d) os) fun e' w'' => e' = .returned (.bool false) ∧ ∃ p : Regrown, w'' = grow (redrawn wj p.d) p.os := fun d os => Calls.tch_regrown_of (qb _ (tch_regrown wj ⟨d, os⟩))
                              clear s0 s1 s2 z0 z1 z2 hin9 c9 qa qb ea eb hI1 hI2 hKj hI
                              cases I
                              all_goals
                                go_wp2_with fail
                                have hj9 : ((j : Int) != 2) = true := by simp; omega
                                have hj8 : ¬ (j : Int) = 2 := by omega
                                refine wp_region_quiet_below (by kernel_rfl) (by kernel_rfl) ?_
                                repeat (go_big_quiet_step (fail))
                                go_big_quiet_step ((go_at_call 15; exact hc1 _ _))
                                repeat (go_big_quiet_step (fail))
                                go_big_quiet_step ((go_at_call 15; exact hc2 _ _))
                                repeat (go_big_quiet_step (fail))
                                refine wpQuiet_nil ?_
                                rintro w10 ⟨pp, rfl⟩
                                have Ht10 : Hid (Tch (fun _ => False) w16 (grow (redrawn wj pp.d) pp.os)) := Htj.out.trans' (tch_regrown wj pp)
                                clear k0 k1 k3 k5 k6 k7 k8 hc1 hc2
                                go_wp2_with fail
                                go_roundw
                                case rel => exact ⟨j + 1, by go_num, by omega, by omega, Ht10.out⟩
                                case measure => simp [intOf]; omega
                          · have HEnd : Hid (Tch (fun _ => False) w wj) := (HF.out wj (HG.out wj Htj.out).2.2).2.2.2.2
                            go_wp2_with fail
                            go_ret
                            exact ⟨rfl, HEnd.out⟩
                    · as_aux_lemma =>
                        have qP := prepare_f b _ wj F2 hMj 1 (by omega) (by omega)
                        clear hMj HMj
                        go_wp2_with fail
                        refine qP.mono ?_
                        rintro x w12 hO
                        obtain ⟨rfl, hM12, k12⟩ := (hO.2 _ (ow_1 1 [1, 2])).2 (by simp)
                        rw [show (fun t : Tx => (owS 1 [1, 2] ps).prep t.x) ⟨1, 1, ps⟩ = (owS 1 [1, 2] ps).prep 1 from rfl, ow_prep] at hM12
                        have qT := part_f b _ w12 F2 hM12 1 (by omega) (by omega)
                        have HM12 : Hid (MF w12 b (owS 2 [1, 2] ps) F2) := hM12
                        have HK12 : Hid (Kept F2 w9 w12) := HK.out.trans' k12
                        clear qP hO hM12 k12
                        go_wp2_with fail
                        refine qT.mono ?_
                        rintro x w13 ⟨_, hO⟩
                        obtain ⟨e13, t13⟩ := (hO.2 _ _ (ow_1 2 [1, 2])).1 (by simp [partE, may])
                        have e13' : x = .returned (.tuple #[.int .i64 0, .int .i64 71]) := e13.trans (by simp [partE, may])
                        subst e13'
                        have hMj : MF w13 b (owS 2 [1, 2] ps) F2 := HM12.out.no t13
                        have HK13 : Hid (Kept F2 w9 w13) := HK12.out.trans' (kept_of t13)
                        clear qT hO e13 t13 HM12 HK12
                        have qC := commit_f b _ w13 F2 hMj 1 (by omega) (by omega)
                        clear hMj
                        go_wp2_with fail
                        refine qC.mono ?_
                        rintro x w14 ⟨_, hO⟩
                        obtain ⟨rfl, hM14, k14⟩ := (hO.2 _ (ow_1 2 [1, 2])).2 (by simp)
                        rw [show (fun t : Tx => (owS 2 [1, 2] ps).fin t.x 3) ⟨1, 2, ps⟩ = (owS 2 [1, 2] ps).fin 1 3 from rfl, ow_fin] at hM14
                        have HK14 : Hid (Kept F2 w9 w14) := HK13.out.trans' k14
                        have HM14 : Hid (MF w14 b (owS 3 [2] ps) F2) := hM14
                        have qS := snapshot_f b _ w14 F2 hM14
                        clear qC hO hM14 k14
                        go_wp2_with fail
                        refine qS.mono ?_
                        rintro x w15 ⟨⟨v15, rfl, hv15⟩, t15⟩
                        clear qS
                        have e15 : Value.agg #[.int .i64 ((owS 3 [2] ps).on.headD (owS 3 [2] ps).nx : Nat), .int .i64 (owS 3 [2] ps).nx, v15] = .agg #[.int .i64 2, .int .i64 nx, v15] := by rw [Hnx.out]; rfl
                        rw [e15]
                        clear e15
                        have hv15' : w15.ownsRow w14.heap.size 3 1 v15 1 (icl [2]) := hv15
                        obtain ⟨to, tc, rfl⟩ := row_slice hv15'
                        obtain ⟨w16, hw16⟩ : ∃ w16, w16 = w15.alloc (.cells #[.int .i64 2, .int .i64 nx, .slice to 1 tc] 38) := ⟨_, rfl⟩
                        have t16 : Tch (fun _ => False) w15 w16 := by rw [hw16]; exact Tch.alloc _ _ _
                        have hT16 : w16.heap[w15.heap.size]? = some (.cells #[.int .i64 2, .int .i64 nx, .slice to 1 tc] 38 (0, 0)) := by rw [hw16]; exact alloc_new _ _
                        obtain ⟨T1, hT1⟩ : ∃ T1, T1 = w15.heap.size := ⟨_, rfl⟩
                        have HT1 : Hid (T1 = w15.heap.size) := hT1
                        rw [← hT1] at hT16
                        have hM16 : MF w16 b (owS 3 [2] ps) F2 := HM14.out.no (t15.trans' t16)
                        have q17 := commit_f b _ w16 F2 hM16 1 (by omega) (by omega)
                        have HM16 : Hid (MF w16 b (owS 3 [2] ps) F2) := hM16
                        have HG : Hid (∀ W, Tch (fun _ => False) w16 W → (W.cell? ⟨T1, 0, none⟩ = some (.int .i64 2) ∧ W.cell? ⟨T1, 1, none⟩ = some (.int .i64 nx) ∧ W.cell? ⟨T1, 2, none⟩ = some (.slice to 1 tc)) ∧ IR W to [2] ∧ Kept F2 w9 W) := fun W tW => by
                          have h1 := (tW.block T1 (blk_lt hT16) (fun h => h)).trans hT16
                          exact ⟨⟨by rw [blk_cell h1]; rfl, by rw [blk_cell h1]; rfl, by rw [blk_cell h1]; rfl⟩, IR.of_own (l := [2]) (own_tch (own_tch hv15' t16 (fun _ _ h => h)) tW (fun _ _ h => h)), HK14.out.trans' (kept_of ((t15.trans' t16).trans' tW))⟩
                        have Hw16 : Hid (w16 = w15.alloc (.cells #[.int .i64 2, .int .i64 nx, .slice to 1 tc] 38)) := hw16
                        clear hv15 hv15' t15 t16 hT16 hT1 hM16 hw16 HM14 HK14
                        go_wp2_with fail
                        have hw16 := Hw16.out
                        rw [← hw16, ← HT1.out]
                        clear hw16
                        refine q17.mono ?_
                        rintro x w17 ⟨_, hO⟩
                        obtain ⟨rfl, t17⟩ := (hO.2 _ (ow_1 3 [2])).1 (by simp)
                        have q18 := abort_f b _ w17 F2 (HM16.out.no t17) 1 (by omega) (by omega)
                        have Ht17 : Hid (Tch (fun _ => False) w16 w17) := t17
                        clear q17 hO t17
                        go_wp2_with fail
                        refine q18.mono ?_
                        rintro x w18 ⟨_, hO⟩
                        obtain ⟨rfl, t18⟩ := (hO.2 _ (ow_1 3 [2])).1 (by simp)
                        have Ht18 : Hid (Tch (fun _ => False) w16 w18) := Ht17.out.trans' t18
                        clear q18 hO t18 Ht17
                        go_wp2_with fail
                        go_loopw [25] (fun i wr => ∃ j : Nat, i = .int .i64 j ∧ 1 ≤ j ∧ j ≤ nx ∧ Tch (fun _ => False) w16 wr) (fun i _ => nx - (intOf i).toNat)
                        case atStart => exact ⟨1, rfl, by omega, by omega, Ht18.out⟩
                        case round =>
                          obtain ⟨j, rfl, hj1, hjn, tj⟩ := hrel
                          obtain ⟨wj, hwj⟩ : ∃ wj, wj = wr := ⟨_, rfl⟩
                          subst hwj
                          have hMj : MF wj b (owS 3 [2] ps) F2 := HM16.out.no tj
                          have qn := next_f b _ wj _ hMj
                          have qn' : Calls Try.prog 14 #[.pointer (some ⟨b, 0, none⟩)] wj fun x w' => x = .returned (.int .i64 nx) ∧ w' = wj := by rw [Hnx.out]; exact qn
                          have Htj : Hid (Tch (fun _ => False) w16 wj) := tj
                          have HMj : Hid (MF wj b (owS 3 [2] ps) F2) := hMj
                          clear qn tj hMj
                          go_wp2_with fail
                          refine qn'.mono ?_
                          rintro x w10 ⟨rfl, hw10⟩
                          obtain rfl := hw10.symm
                          clear qn' hw10
                          by_cases hjlt : (j : Int) < nx
                          · have hjl : j < nx := by omega
                            by_cases hj2 : j = 2
                            · subst hj2
                              go_wp2_with fail
                              refine wp_region_quiet_below (by kernel_rfl) (by kernel_rfl) ?_
                              repeat (go_big_quiet_step (fail))
                              refine wpQuiet_nil ?_
                              rintro w10 ⟨pp, rfl⟩
                              have Ht10 : Hid (Tch (fun _ => False) w16 (grow (redrawn wj pp.d) pp.os)) := Htj.out.trans' (tch_regrown wj pp)
                              go_wp2_with fail
                              go_roundw
                              case rel => exact ⟨3, by go_num, by omega, by omega, Ht10.out⟩
                              case measure => simp [intOf]; omega
                            · obtain ⟨I, hI⟩ : ∃ I, I = inE ps j := ⟨_, rfl⟩
                              obtain ⟨⟨s0, s1, s2⟩, hI1, hKj⟩ := HG.out wj Htj.out
                              obtain ⟨⟨z0, z1, z2⟩, hI2, hin9, _, _⟩ := HF.out wj hKj
                              have c9 := hin9 j hjl
                              have qa := fun W (tW : Tch (fun _ => False) wj W) => sees_f b _ W F2 (HMj.out.no tW) 2 nx [2] to tc (by decide) (hI1.no tW) 2 j (by omega) (by omega) (by omega) (by omega)
                              have qb := fun W (tW : Tch (fun _ => False) wj W) => sees_f b _ W F2 (HMj.out.no tW) 1 nx [1, 2] so sc (by decide) (hI2.no tW) 2 j (by omega) (by omega) (by omega) (by omega)
                              rw [ow_sees_two Hps.out [2] 2 nx [2] hj1 (by rw [← Hnx.out]; exact hjl) hj2] at qa
                              rw [ow_sees_two Hps.out [2] 1 nx [1, 2] hj1 (by rw [← Hnx.out]; exact hjl) hj2] at qb
                              have ea : (inE ps j && (decide ((3 : Nat) = 3) && (decide ((1 : Int) < (nx : Int)) && !decide ((1 : Int) ∈ ([2] : List Int))))) = (I && true) := by rw [hI, decide_eq_true (show (1 : Int) < (nx : Int) by omega)]; simp
                              have eb : (inE ps j && (decide ((3 : Nat) = 3) && (decide ((1 : Int) < (nx : Int)) && !decide ((1 : Int) ∈ ([1, 2] : List Int))))) = false := by simp
                              rw [ea] at qa
                              rw [eb] at qb
                              rw [← hI] at c9
                              have k0 := cell_regrown s0; have k1 := cell_regrown s1; have k3 := cell_regrown s2; have k5 := cell_regrown c9; have k6 := cell_regrown z0; have k7 := cell_regrown z1; have k8 := cell_regrown z2
                              have hc1 : ∀ d os, Calls Try.prog 15 #[.pointer (some ⟨b, 0, none⟩), .agg #[.int .i64 2, .int .i64 nx, .slice to 1 tc], .int .i64 2, .int .i64 j] (grow (redrawn wj d) os) fun e' w'' => e' = .returned (.bool (I && true)) ∧ ∃ p : Regrown, w'' = grow (redrawn wj p.d) p.os := fun d os => Calls.tch_regrown_of (qa _ (tch_regrown wj ⟨d, os⟩))
                              have hc2 : ∀ d os, Calls Try.prog 15 #[.pointer (some ⟨b, 0, none⟩), .agg #[.int .i64 1, .int .i64 nx, .slice so 2 sc], .int .i64 2, .int .i64 j] (grow (redrawn wj d) os) fun e' w'' => e' = .returned (.bool false) ∧ ∃ p : Regrown, w'' = grow (redrawn wj p.d) p.os := fun d os => Calls.tch_regrown_of (qb _ (tch_regrown wj ⟨d, os⟩))
                              clear s0 s1 s2 z0 z1 z2 hin9 c9 qa qb ea eb hI1 hI2 hKj hI
                              cases I
                              all_goals
                                go_wp2_with fail
                                have hj9 : ((j : Int) != 2) = true := by simp; omega
                                have hj8 : ¬ (j : Int) = 2 := by omega
                                refine wp_region_quiet_below (by kernel_rfl) (by kernel_rfl) ?_
                                repeat (go_big_quiet_step (fail))
                                go_big_quiet_step ((go_at_call 15; exact hc1 _ _))
                                repeat (go_big_quiet_step (fail))
                                go_big_quiet_step ((go_at_call 15; exact hc2 _ _))
                                repeat (go_big_quiet_step (fail))
                                refine wpQuiet_nil ?_
                                rintro w10 ⟨pp, rfl⟩
                                have Ht10 : Hid (Tch (fun _ => False) w16 (grow (redrawn wj pp.d) pp.os)) := Htj.out.trans' (tch_regrown wj pp)
                                clear k0 k1 k3 k5 k6 k7 k8 hc1 hc2
                                go_wp2_with fail
                                go_roundw
                                case rel => exact ⟨j + 1, by go_num, by omega, by omega, Ht10.out⟩
                                case measure => simp [intOf]; omega
                          · have HEnd : Hid (Tch (fun _ => False) w wj) := (HF.out wj (HG.out wj Htj.out).2.2).2.2.2.2
                            go_wp2_with fail
                            go_ret
                            exact ⟨rfl, HEnd.out⟩
end Go.Proofs.Ytkokmgoplldcfaa
