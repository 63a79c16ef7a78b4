import Derived.Test.YtkcmpipipelgoaaHNote
import Derived.Test.YtkcmpipipelgoaaLays
import Derived.Lib.SlKeysI
/- forget. -/
namespace Go.Proofs.Ytkcmpipipelgoaa
open Go.RowKit Go
set_option maxRecDepth 100000

/-- The notes while those of a number go: k of them have gone. -/
def nD (K : Int → List Nt) (f : Int → Nat) (i : Int) (k : Nat) (x p : Int) : Option Value := if x = i then (if (f i : Int) + k ≤ p then nG K f x p else none) else nG K f x p
theorem nD_zero (K : Int → List Nt) (f : Int → Nat) (i : Int) : nD K f i 0 = nG K f := by
  funext x p
  unfold nD
  by_cases h : x = i
  · subst h
    rw [if_pos rfl]
    by_cases h2 : (f x : Int) + (0 : Nat) ≤ p
    · rw [if_pos h2]
    · rw [if_neg h2]
      unfold nG
      rw [if_neg (by omega)]
  · rw [if_neg h]
theorem nD_at (K : Int → List Nt) (f : Int → Nat) (i : Int) (k : Nat) (h : k < (K i).length) : (nD K f i k i ((f i : Int) + k)).isSome = true := by
  unfold nD
  rw [if_pos rfl, if_pos (Int.le_refl _)]
  obtain ⟨n, hn⟩ : ∃ n, (K i)[k]? = some n := ⟨_, List.getElem?_eq_getElem h⟩
  rw [nG_get K f i k hn]
  rfl
theorem nD_gone (K : Int → List Nt) (f : Int → Nat) (i : Int) (k : Nat) : nD K f i (k + 1) i ((f i : Int) + k) = none := by
  unfold nD
  rw [if_pos rfl, if_neg (by omega)]
theorem nD_else (K : Int → List Nt) (f : Int → Nat) (i : Int) (k : Nat) (x y : Int) (h : ¬ (x = i ∧ y = (f i : Int) + k)) : nD K f i (k + 1) x y = nD K f i k x y := by
  unfold nD
  by_cases hx : x = i
  · subst hx
    rw [if_pos rfl, if_pos rfl]
    by_cases h1 : (f x : Int) + k ≤ y
    · rw [if_pos h1, if_pos (by have : y ≠ (f x : Int) + k := fun e => h ⟨rfl, e⟩; omega)]
    · rw [if_neg h1, if_neg (by omega)]
  · rw [if_neg hx, if_neg hx]
theorem nD_end (K : Int → List Nt) (f : Int → Nat) (i : Int) (u fi' : Nat) (hu : u ≤ (K i).length) (hf : fi' = if (K i).length = u then 0 else f i + u) : nD K f i u = nG (updK K i ((K i).drop u)) (updK f i fi') := by
  funext x p
  unfold nD
  by_cases hx : x = i
  · subst hx
    rw [if_pos rfl]
    unfold nG
    rw [updK_same, updK_same]
    by_cases he : (K x).length = u
    · rw [if_pos he] at hf
      rw [List.drop_eq_nil_of_le (by omega)]
      simp only [List.getElem?_nil, Option.map_none]
      by_cases h1 : (f x : Int) + u ≤ p
      · rw [if_pos h1, if_pos (by omega), List.getElem?_eq_none (by omega)]
        simp
      · rw [if_neg h1]
        simp
    · rw [if_neg he] at hf
      by_cases h1 : (f x : Int) + u ≤ p
      · rw [if_pos h1, if_pos (by omega), if_pos (by omega), List.getElem?_drop]
        congr 2
        omega
      · rw [if_neg h1, if_neg (by omega)]
  · rw [if_neg hx]
    unfold nG
    rw [updK_ne _ _ hx, updK_ne _ _ hx]
theorem sG_mid (K : Int → List Nt) (f : Int → Nat) (i : Int) (u fi' : Nat) (x : Int) (h : x ≠ i) : sG (updK K i ((K i).drop u)) (updK f i fi') x = sG K f x := by
  unfold sG
  rw [updK_ne _ _ h, updK_ne _ _ h]

set_option maxHeartbeats 2000000 in
theorem forget_w {w : World} {F : Nat → Prop} {b mb sb ns : Nat} {h : Hs} (H : HW w F b mb sb ns h) (i : Int) (hi : inR i) (hT : h.T < 70368744177664) (hne : h.K i ≠ []) :
    Calls Try.prog 27 #[.pointer (some ⟨b, 0, none⟩), .int .i64 i] w fun r w' => r = .returned (.int .i64 (fgN (h.K i) h.b)) ∧ (∃ ns', HW w' F b mb sb ns' (h.fg i)) ∧ Tch (fun g => g = b ∨ g = mb ∨ g = sb) w w' := by
  have hle := fgN_le (h.K i) h.b
  have HU : Hid (fgN (h.K i) h.b = if (wasL (h.K i) h.b).th = true then upL (h.K i) h.b - 1 else upL (h.K i) h.b) := rfl
  have hu1 : (wasL (h.K i) h.b).th = true → 1 ≤ upL (h.K i) h.b := fun e => by have := (wasL_th e).1; omega
  obtain ⟨u0, hu0⟩ : ∃ u0, u0 = upL (h.K i) h.b := ⟨_, rfl⟩
  obtain ⟨u, hu⟩ : ∃ u, u = fgN (h.K i) h.b := ⟨_, rfl⟩
  obtain ⟨n, hn⟩ : ∃ n, n = wasL (h.K i) h.b := ⟨_, rfl⟩
  obtain ⟨nt, hnt⟩ : ∃ nt, nt = n.th := ⟨_, rfl⟩
  have q1 := upTo_w H h.b i hi (by omega)
  rw [← hu0] at q1
  rw [← hu, ← hu0, ← hn, ← hnt] at HU
  rw [← hn, ← hu0, ← hnt] at hu1
  have HQ2 : Hid (∀ W, Tch (fun _ => False) w W → Calls Try.prog 25 #[.pointer (some ⟨b, 0, none⟩), .int .i64 h.b, .int .i64 i] W fun r w' => r = .returned (.agg #[.int .i64 n.l, .bool nt, .int .i64 n.t.id, .int .i64 n.t.ver, .string n.t.nm, .slice n.ao n.t.cols.length n.c, .int .i64 n.t.key]) ∧ Tch (fun _ => False) W w') := fun W tW => by
    have q := was_w (H.tch tW (fun _ _ e => e.elim)) h.b i hi (by omega)
    rw [← hn] at q
    unfold Nt.v at q
    rw [← hnt] at q
    exact q
  have hfd := fun W => fld1 (.int .i64 n.l) (.bool nt) (.int .i64 n.t.id) (.int .i64 n.t.ver) (.string n.t.nm) (.slice n.ao n.t.cols.length n.c) (.int .i64 n.t.key) W
  obtain ⟨fi, hfi⟩ : ∃ fi, fi = h.f i := ⟨_, rfl⟩
  obtain ⟨Li, hLi⟩ : ∃ Li, Li = (h.K i).length := ⟨_, rfl⟩
  have hpl : fi + Li ≤ 70368744177664 := by have := H.pl i; omega
  have hle0 : u0 ≤ Li := by rw [hu0, hLi]; exact upL_le _ _
  rw [← hLi, ← hu] at hle
  have c0 := H.c.1
  have HF : Hid (fi = h.f i ∧ Li = (h.K i).length ∧ u = fgN (h.K i) h.b) := ⟨hfi, hLi, hu⟩
  have HH : Hid (HW w F b mb sb ns h) := H
  have HT' : Hid (h.T < 70368744177664) := hT
  have HNE : Hid (h.K i ≠ []) := hne
  clear hu0 hu hn hnt hfi hLi H hT hne
  go_enter Try.func27, Try.ntmps27
  go_wp2_with fail
  refine q1.mono ?_
  rintro e w1 ⟨rfl, t1⟩
  clear q1 c0
  have q2 := HQ2.out w1 t1
  have c0 := (HH.out.tch t1 (fun _ _ e => e.elim)).c.1
  have HT1 : Hid (Tch (fun _ => False) w w1) := t1
  clear t1
  go_wp2_with fail
  refine q2.mono ?_
  rintro e w2 ⟨rfl, t2⟩
  have HT2 : Hid (Tch (fun _ => False) w w2) := HT1.out.trans' t2
  clear q2 t2 c0 HQ2
  go_upto_if 22 with (fail)
  go_cut [5] from 23 to 67 (fun s5 wc => s5 = .int .i64 u ∧ wc = w2)
  case first =>
    cases nt with
    | true =>
      have e1 : (u0 : Int) - 1 = (u : Int) := by have h9 := HU.out; rw [if_pos rfl] at h9; have := hu1 rfl; omega
      go_wp2_with fail
      go_meet
      case rel => exact ⟨rfl, rfl⟩
    | false =>
      have e1 : u0 = u := by have := HU.out; simpa using this.symm
      subst e1
      go_wp2_with fail
      go_meet
      case rel => exact ⟨rfl, rfl⟩
  case rest =>
    obtain ⟨rfl, rfl⟩ := hcut
    obtain ⟨N, hN⟩ : ∃ N, N = wc.heap.size := ⟨_, rfl⟩
    obtain ⟨w4, hw4⟩ : ∃ w4, w4 = wc.alloc (.cells #[.int .i64 fi, .int .i64 ((fi : Int) + Li)] 95) := ⟨_, rfl⟩
    have t4 : Tch (fun _ => False) wc w4 := by rw [hw4]; exact Tch.alloc _ _ _
    have H3 := HH.out.tch HT2.out (fun _ _ e => e.elim)
    have H4 := H3.tch t4 (fun _ _ e => e.elim)
    have c3 := H3.c.2.2.2
    have hs := H3.span hi
    rw [← HF.out.1, ← HF.out.2.1] at hs
    have bN : w4.heap[N]? = some (.cells #[.int .i64 fi, .int .i64 ((fi : Int) + Li)] 95 (0, 0)) := by rw [hw4, hN]; exact alloc_new _ _
    have hNw : w.heap.size ≤ N := by rw [hN]; exact HT2.out.size
    have nmb : N ≠ mb := fun e => by have := HH.out.nm.lt; omega
    have nsb : N ≠ sb := fun e => by have := HH.out.sm.lt; omega
    have nb : N ≠ b := fun e => by have := blk_lt HH.out.blk; omega
    have HW4 : Hid (w4 = _) := hw4
    have HN : Hid (N = wc.heap.size) := hN
    have HH4 : Hid (HW w4 F b mb sb ns h) := H4
    have HBN : Hid _ := bN
    have HT4 : Hid (Tch (fun _ => False) w w4) := HT2.out.trans' t4
    have HNN : Hid (N ≠ mb ∧ N ≠ sb ∧ N ≠ b ∧ w.heap.size ≤ N) := ⟨nmb, nsb, nb, hNw⟩
    clear hw4 hN t4 H3 H4 bN hNw nmb nsb nb hfd
    go_upto_region 5 with (fail)
    rw [← HW4.out, ← HN.out]
    clear c3 hs
    have HL : Hid (∀ W, Tch (fun g => g = mb) w4 W → W.cell? ⟨b, 2, none⟩ = some (.map (some mb)) ∧ W.cell? ⟨N, 0, none⟩ = some (.int .i64 fi)) := fun W tW => ⟨by
      have := HH4.out.c.2.2.1
      exact (tW.cell (p := ⟨b, 2, none⟩) (cell_lt this) HH.out.bm).trans this, by
      have : w4.cell? ⟨N, 0, none⟩ = some (.int .i64 fi) := blk_cell HBN.out 0
      exact (tW.cell (p := ⟨N, 0, none⟩) (cell_lt this) HNN.out.1).trans this⟩
    have HM4 : Hid (NM w4 mb (h.sz - 0) (nD h.K h.f i 0)) := by show NM _ _ _ _; rw [nD_zero]; exact HH4.out.nm
    go_wp2_with fail
    go_loopg [7, 32] u (fun kx s7 s32 wr => ∃ k : Nat, s32 = .int .i64 k ∧ u - k ≤ kx ∧ k ≤ u ∧ Hid (Tch (fun g => g = mb) w4 wr ∧ NM wr mb (h.sz - k) (nD h.K h.f i k)))
    case atStart => exact ⟨0, rfl, by omega, by omega, Tch.refl _ _, HM4.out⟩
    case round =>
      rename World => wr
      obtain ⟨k, rfl, hkx, hkl, J⟩ := hrel
      by_cases hk : k < u
      · have hk' : (k : Int) < (u : Int) := by omega
        obtain ⟨d2, s0⟩ := HL.out wr J.out.1
        have e1 : IntKind.i64.wrap ((fi : Int) + k) = (fi : Int) + k := wrap_ok (by omega) (by omega)
        go_wp2_with fail
        refine wp_region_drew_tail 10 (by kernel_rfl) (by kernel_rfl) ?_
        repeat (quiet_step (fail))
        refine wpQuiet_nil ?_
        rintro w7 ⟨q, rfl⟩
        obtain ⟨w5, hw5⟩ : ∃ w5, w5 = wr.drewN q := ⟨_, rfl⟩
        have t5 : Tch (fun _ => False) wr w5 := by rw [hw5]; exact (Tch.refl _ _).drewN q
        rw [← hw5]
        have hD5 := fun ty => (J.out.2.tch t5 (fun e => e)).del (i := i) (p := (fi : Int) + k) hi (by unfold inR; omega) (by rw [HF.out.1]; exact nD_at _ _ _ _ (by have := HF.out.2.1; omega)) ty (g' := nD h.K h.f i (k + 1)) (by rw [HF.out.1]; exact nD_gone _ _ _ _) (fun x y hxy => nD_else _ _ _ _ _ _ (by rw [← HF.out.1]; exact hxy))
        obtain ⟨w6, hr6, hM6, t6⟩ := hD5 0
        have HJ : Hid (Tch (fun g => g = mb) w4 w6 ∧ NM w6 mb (h.sz - (k + 1)) (nD h.K h.f i (k + 1))) := ⟨(J.out.1.trans' (t5.mono (fun _ _ e => e.elim))).trans' t6, by rw [show h.sz - (k + 1) = h.sz - k - 1 by omega]; exact hM6⟩
        clear hD5 hM6 t6 t5 hw5 d2 s0 e1
        go_wp2_with fail
        go_roundg (u - (k + 1))
        case measure => omega
        case rel => exact ⟨k + 1, rfl, by omega, by omega, HJ⟩
      · have hk' : ¬ (k : Int) < (u : Int) := by omega
        obtain rfl : k = u := by omega
        have bN := (J.out.1.block N (blk_lt HBN.out) HNN.out.1).trans HBN.out
        have s0 : wr.cell? ⟨N, 0, none⟩ = some (.int .i64 fi) := blk_cell bN 0
        have f0 := blk_frozen bN 0
        obtain ⟨w5, hw5⟩ : ∃ w5, w5 = wr.setCell ⟨N, 0, none⟩ (.int .i64 ((fi : Int) + k)) := ⟨_, rfl⟩
        have t5 : Tch (fun g => g = N) wr w5 := by rw [hw5]; exact Tch.setCell _ _ _ _ rfl
        have b5 : w5.heap[N]? = some (.cells #[.int .i64 ((fi : Int) + k), .int .i64 ((fi : Int) + Li)] 95 (0, 0)) := by rw [hw5, blk_set bN]; simp
        have hM5 := J.out.2.tch t5 (fun e => HNN.out.1 e.symm)
        have hS5 := (HH4.out.sm.tch J.out.1 (fun e => HH.out.ms e.symm)).tch t5 (fun e => HNN.out.2.1 e.symm)
        have bb5 := (t5.block b (by have := blk_lt HH4.out.blk; have := J.out.1.size; omega) (fun e => HNN.out.2.2.1 e.symm)).trans ((J.out.1.block b (blk_lt HH4.out.blk) HH.out.bm).trans HH4.out.blk)
        have HW5 : Hid (w5 = _) := hw5
        have HM5 : Hid (NM w5 mb (h.sz - k) (nD h.K h.f i k)) := hM5
        have HS5 : Hid (SM w5 sb ns (sG h.K h.f)) := hS5
        have HB5 : Hid _ := And.intro b5 bb5
        have HT5 : Hid (Tch (fun g => g = b ∨ g = mb ∨ g = sb) w w5) := ((HT4.out.mono (fun _ _ e => e.elim)).trans J.out.1 (fun _ _ e => .inr (.inl e))).trans t5 (fun g hg e => by have := HNN.out.2.2.2; have e' : g = N := e; omega)
        clear hw5 t5 b5 hM5 hS5 bb5 bN
        go_upto_region 11 with (fail)
        rw [← HW5.out]
        clear s0 f0
        have d3 : w5.cell? ⟨b, 3, none⟩ = some (.map (some sb)) := blk_cell HB5.out.2 3
        have s0 : w5.cell? ⟨N, 0, none⟩ = some (.int .i64 ((fi : Int) + k)) := blk_cell HB5.out.1 0
        have s1 : w5.cell? ⟨N, 1, none⟩ = some (.int .i64 ((fi : Int) + Li)) := blk_cell HB5.out.1 1
        go_wp2_with fail
        refine wp_region_drew_tail 6 (by kernel_rfl) (by kernel_rfl) ?_
        repeat (quiet_step (fail))
        refine wpQuiet_nil ?_
        rintro w7 ⟨q2, rfl⟩
        obtain ⟨w6, hw6⟩ : ∃ w6, w6 = w5.drewN q2 := ⟨_, rfl⟩
        have t6 : Tch (fun _ => False) w5 w6 := by rw [hw6]; exact (Tch.refl _ _).drewN q2
        rw [← hw6]
        have hS6 := HS5.out.tch t6 (fun e => e)
        have hns : ns ≤ h.T := HH.out.nl
        have hsome : (sG h.K h.f i).isSome = true := by
          unfold sG
          rw [if_neg (by have := HNE.out; simpa using this)]
          rfl
        obtain ⟨gg, hgg⟩ : ∃ gg : Int → Option Value, gg = fun x => if x = i then some (spanV ((fi : Int) + k) ((fi : Int) + Li)) else sG h.K h.f x := ⟨_, rfl⟩
        obtain ⟨w7, hr7, hS7, t7⟩ := hS6.put (i := i) hi (by have := HT'.out; unfold maxLen; omega) (spanV ((fi : Int) + k) ((fi : Int) + Li)) (g' := gg) (by rw [hgg]; exact if_pos rfl) (fun x hx => by rw [hgg]; exact if_neg hx)
        rw [if_pos hsome] at hS7
        unfold spanV at hr7
        have t57 : Tch (fun g => g = sb) w5 w7 := (t6.mono (fun _ _ e => e.elim)).trans' t7
        have bN7 := (t57.block N (blk_lt HB5.out.1) HNN.out.2.1).trans HB5.out.1
        have bb7 := (t57.block b (blk_lt HB5.out.2) HH.out.bs).trans HB5.out.2
        have hM7 := HM5.out.tch t57 HH.out.ms
        have HT7 : Hid (Tch (fun g => g = b ∨ g = mb ∨ g = sb) w w7) := HT5.out.trans t57 (fun _ _ e => .inr (.inr e))
        have HS7 : Hid (SM w7 sb ns gg) := hS7
        have HGG : Hid (gg = fun x => if x = i then some (spanV ((fi : Int) + k) ((fi : Int) + Li)) else sG h.K h.f x) := hgg
        have HM7 : Hid (NM w7 mb (h.sz - k) (nD h.K h.f i k)) := hM7
        have HB7 : Hid _ := bb7
        have HFin : Hid (∀ W ns', NM W mb (h.sz - k) (nD h.K h.f i k) → SM W sb ns' (sG (updK h.K i ((h.K i).drop k)) (updK h.f i (fgF h i))) → W.heap[b]? = some (.cells #[.int .i64 h.b, .int .i64 h.l, .map (some mb), .map (some sb)] 73 (0, 0)) → Tch (fun g => g = b ∨ g = mb ∨ g = sb) w W → ns' ≤ ns → HW W F b mb sb ns' (h.fg i)) := fun W ns' hM hS hb tW hn' => by
          have ek := HF.out.2.2
          have eL := HF.out.2.1
          have ef := HF.out.1
          have hff : fgF h i = if (h.K i).length = k then 0 else h.f i + k := by unfold fgF; rw [← ek]
          have eK : ∀ j, (h.fg i).K j = updK h.K i ((h.K i).drop k) j := fun j => by unfold Hs.fg; rw [← ek]
          have e1 : (h.fg i).K = updK h.K i ((h.K i).drop k) := funext eK
          have e2 : (h.fg i).f = updK h.f i (fgF h i) := rfl
          have e3 : (h.fg i).sz = h.sz - k := by unfold Hs.fg; rw [← ek]
          have hsub : ∀ j m, m ∈ (h.fg i).K j → m ∈ h.K j := fun j m hm => by
            rw [eK] at hm
            by_cases hji : j = i
            · subst hji; rw [updK_same] at hm; exact List.mem_of_mem_drop hm
            · rw [updK_ne _ _ hji] at hm; exact hm
          refine { blk := hb, nm := ?_, sm := ?_, fb := HH.out.fb, fm := HH.out.fm, fs := HH.out.fs, bm := HH.out.bm, bs := HH.out.bs, ms := HH.out.ms, nt := fun j m hm => ?_, f0 := fun j hj => ?_, pl := fun j => ?_, sz := ?_, nl := ?_, id := fun j hj => ?_, tot := by rw [e1, e3]; exact HH.out.tot.fg i k (by omega) }
          · rw [e1, e2, e3, ← nD_end h.K h.f i k (fgF h i) (by omega) hff]; exact hM
          · rw [e1, e2]; exact hS
          · exact (HH.out.nt j m (hsub j m hm)).tch tW (fun g _ e => .inr e)
          · rw [eK] at hj
            rw [e2]
            by_cases hji : j = i
            · subst hji
              rw [updK_same] at hj
              rw [updK_same, hff, if_pos]
              have := congrArg List.length hj
              rw [List.length_drop, List.length_nil] at this
              omega
            · rw [updK_ne _ _ hji] at hj
              rw [updK_ne _ _ hji]
              exact HH.out.f0 j hj
          · have hpj := HH.out.pl j
            rw [eK, e2]
            show _ ≤ h.T
            by_cases hji : j = i
            · subst hji
              rw [updK_same, updK_same, hff, List.length_drop]
              split <;> omega
            · rw [updK_ne _ _ hji, updK_ne _ _ hji]
              exact hpj
          · rw [e3]
            show _ ≤ h.T
            have := HH.out.sz
            omega
          · show ns' ≤ h.T
            omega
          · refine HH.out.id j (fun e => hj ?_)
            rw [eK]
            by_cases hji : j = i
            · subst hji; rw [updK_same, e, List.drop_nil]
            · rw [updK_ne _ _ hji]; exact e
        clear d3 s0 s1 hw6 t6 hS6 hS7 hgg t7 t57 bb7 hM7
        have s0 : w7.cell? ⟨N, 0, none⟩ = some (.int .i64 ((fi : Int) + k)) := blk_cell bN7 0
        have s1 : w7.cell? ⟨N, 1, none⟩ = some (.int .i64 ((fi : Int) + Li)) := blk_cell bN7 1
        have d3 : w7.cell? ⟨b, 3, none⟩ = some (.map (some sb)) := blk_cell HB7.out 3
        clear bN7
        by_cases hkL : k = Li
        · have hbe : ((fi : Int) + k == (fi : Int) + Li) = true := by simp [hkL]
          obtain ⟨w8, hr8, hS8, t8⟩ := HS7.out.del (i := i) hi 0 (g' := sG (updK h.K i ((h.K i).drop k)) (updK h.f i (fgF h i))) (by unfold sG; rw [updK_same, List.drop_eq_nil_of_le (by have := HF.out.2.1; omega)]; rfl) (fun x hx => by rw [sG_mid _ _ _ _ _ _ hx, HGG.out]; exact (if_neg hx).symm)
          have HT8 : Hid (Tch (fun g => g = b ∨ g = mb ∨ g = sb) w w8) := HT7.out.trans t8 (fun _ _ e => .inr (.inr e))
          have HW8 : Hid (∃ ns', HW w8 F b mb sb ns' (h.fg i)) := ⟨_, HFin.out w8 _ (HM7.out.tch t8 HH.out.ms) hS8 ((t8.block b (blk_lt HB7.out) HH.out.bs).trans HB7.out) HT8.out (by split <;> omega)⟩
          clear hS8 t8 hkL
          go_wp2_with fail
          go_ret
          exact ⟨by rw [HF.out.2.2]; rfl, HW8.out, HT8.out⟩
        · have hbe : ((fi : Int) + k == (fi : Int) + Li) = false := by simp; omega
          have HW8 : Hid (∃ ns', HW w7 F b mb sb ns' (h.fg i)) := ⟨ns, HFin.out w7 _ HM7.out (by
            have e9 : gg = sG (updK h.K i ((h.K i).drop k)) (updK h.f i (fgF h i)) := by
              funext x
              by_cases hx : x = i
              · subst hx
                have hl9 : gg x = some (spanV ((fi : Int) + k) ((fi : Int) + Li)) := by rw [HGG.out]; exact if_pos rfl
                rw [hl9]
                unfold sG
                have hff : fgF h x = fi + k := by unfold fgF; rw [← HF.out.2.2, ← HF.out.2.1, if_neg (by omega), HF.out.1]
                rw [updK_same, updK_same, hff, if_neg (by have := HF.out.2.1; simp; omega), List.length_drop, ← HF.out.2.1]
                have e7 : ((fi + k : Nat) : Int) = (fi : Int) + k := by omega
                have e8 : ((fi + k : Nat) : Int) + ((Li - k : Nat) : Int) = (fi : Int) + Li := by omega
                rw [e8, e7]
              · rw [sG_mid _ _ _ _ _ _ hx, HGG.out]; exact if_neg hx
            rw [← e9]; exact HS7.out) HB7.out HT7.out (Nat.le_refl _)⟩
          clear hkL
          go_wp2_with fail
          go_ret
          exact ⟨by rw [HF.out.2.2]; rfl, HW8.out, HT7.out⟩
end Go.Proofs.Ytkcmpipipelgoaa
/- numbers: those that have notes, rising. -/
namespace Go.Proofs.Ytkcmpipipelgoaa
set_option maxRecDepth 100000
open Go.RowKit Go Go.ChangeMaps Go.Sort Go.Shelf
open Go.Maps (Keyed)

theorem keys_sm {w : World} {sb ns : Nat} {g : Int → Option Value} (h : SM w sb ns g) : ∃ D : DataW Value, w.ownsMap Try.prog 3 heldE sb ns D ∧ Maps.size D = ns ∧ (intKeys D).Nodup ∧ ∀ x, x ∈ intKeys D ↔ (g x).isSome = true := by
  obtain ⟨f, ⟨D, ho, hn, hf⟩, hg⟩ := h
  refine ⟨D, ho, hn, ?_⟩
  have htd := ho.tidy law_int
  obtain ⟨es, clock, hb, Ft, hs, hD⟩ := ho
  obtain ⟨es', hD', hp⟩ := htd
  have hk : ∀ p ∈ es', ∃ x, p.1 = .int .i64 x := fun p hp' => by
    rw [hD'] at hD
    injection hD with hD
    rw [hD] at hp'
    obtain ⟨v, hv⟩ := Maps.keys_perm (WideShapes.sorted_perm _).symm (Maps.fit_keys Ft) p hp'
    obtain ⟨x, _, hx, _⟩ := Maps.keyOf_i64 Try.underlying3 hv
    exact ⟨x, hx⟩
  constructor
  · rw [hD']
    show (es'.map fun p => Go.intOf p.1).Nodup
    refine List.pairwise_map.2 (hp.imp_of_mem fun {p q} hp' hq' hne e => hne ?_)
    obtain ⟨a, ha⟩ := hk p hp'
    obtain ⟨b, hb⟩ := hk q hq'
    rw [ha, hb] at e ⊢
    exact congrArg _ e
  · intro x
    rw [← hg x, ← (hf _).1, hD', Maps.has_eq, List.any_eq_true]
    show x ∈ es'.map (fun p => Go.intOf p.1) ↔ _
    rw [List.mem_map]
    constructor
    · rintro ⟨p, hp', rfl⟩
      obtain ⟨a, ha⟩ := hk p hp'
      exact ⟨p, hp', by rw [ha]; simp [Lit.sameKey, Go.intOf]⟩
    · rintro ⟨p, hp', hs⟩
      obtain ⟨a, ha⟩ := hk p hp'
      rw [ha] at hs
      exact ⟨p, hp', by rw [ha]; simpa [Lit.sameKey, Go.intOf] using hs⟩
/-- The numbers that have notes, rising. -/
def IdsOf (K : Int → List Nt) (ids : List Int) : Prop := ids.Pairwise (fun a b => a < b) ∧ ∀ i, i ∈ ids ↔ K i ≠ []
theorem sorts_any (m : Nat) : AnyZI.SortsIn Try.prog Try.sortedL_ren Fence.wide m :=
  ⟨fun blk off cap ss W hH hblk hsz => callsIn_wide.2 (AnyM.slices_Sort_int Try.sortL blk off cap ss W hH hblk hsz), fun p cap W => callsIn_wide.2 (AnyM.slices_Sort_int_none Try.sortL p cap W)⟩
theorem keys_any (mb : Option Nat) (W : World) : CallsIn Fence.wide 5 Try.prog 49 #[.map mb] W fun e w' => e = .returned (.func (.func 60) #[] #[.pointer (some ⟨W.heap.size, 0, none⟩)]) ∧ w' = W.alloc (.cells #[.map mb] 71) :=
  AnyZI.keys_in Try.keysL Fence.wide 5 trivial rfl mb W

set_option maxHeartbeats 1000000 in
theorem sorted_any {H : Type} (b nn : Nat) (D0 : DataW H) (R : Value → Option (DataW H × List MemPlace)) (w : World) (hown : w.ownsMap Try.prog 3 R b nn D0) (hmax : Maps.size D0 ≤ maxLen) (hbytes : Maps.size D0 * 8 ≤ 140737488355328) :
    CallsIn Fence.wide 5 Try.prog 48 #[.func (.func 60) #[] #[.pointer (some ⟨w.heap.size, 0, none⟩)]] (w.alloc (.cells #[.map (some b)] 71)) fun e w' => ∃ (v : Value) (ss : List Int), e = .returned v ∧ ss.Perm (intKeys D0) ∧
      w'.ownsRow (w.alloc (.cells #[.map (some b)] 71)).heap.size 3 1 v ss.length ((ss.mergeSort (fun x y => decide (x ≤ y))).map encZ) ∧ Below (w.alloc (.cells #[.map (some b)] 71)).heap.size (w.alloc (.cells #[.map (some b)] 71)) w' := by
  have hbl := hown.lt
  have hseq : SeqGives Fence.wide 2 Try.prog 60 #[.pointer (some ⟨w.heap.size, 0, none⟩)] encZ (fun ss => ss.Perm (intKeys D0)) (Maps.size D0) (w.alloc (.cells #[.map (some b)] 71)) :=
    AnyZI.keys_gives (ρ := Try.keysL_ren) { Try.keysL with } Fence.wide _ trivial rfl (by omega) w.heap.size b nn D0 _ (by simp) (by simp) (by
      obtain ⟨es, clock, hb, Ft, hs, hD⟩ := hown
      exact ⟨es, clock, (Below.heap_alloc _ _ b hbl).trans hb, Ft, hs, hD⟩)
  exact (AnyZI.sorted_in Try.sortedL Fence.wide 5 trivial trivial trivial trivial rfl (by omega) (sorts_any _) (enters_of Try.func59 (by kernel_rfl) rfl) 60 #[.pointer (some ⟨w.heap.size, 0, none⟩)] trivial (enters_of Try.func60 (by kernel_rfl) rfl) _ _ hmax hbytes _ hseq).mono
    fun e w' ⟨v, ss, h1, h2, h3, _, h5⟩ => ⟨v, ss, h1, h2, h3, h5⟩

theorem ids_sort {K : Int → List Nt} {f : Int → Nat} {L ss : List Int} (hnd : L.Nodup) (hm : ∀ x, x ∈ L ↔ (sG K f x).isSome = true) (hp : ss.Perm L) : IdsOf K (ss.mergeSort (fun x y => decide (x ≤ y))) := by
  have tr : ∀ a b c : Int, leI a b = true → leI b c = true → leI a c = true := fun a b c h1 h2 => by simp only [leI, decide_eq_true_eq] at *; exact Int.le_trans h1 h2
  have tot : ∀ a b : Int, (leI a b || leI b a) = true := fun a b => by simp only [leI, Bool.or_eq_true, decide_eq_true_eq]; exact Int.le_total a b
  have hs := List.pairwise_mergeSort tr tot ss
  have hpp : (ss.mergeSort (fun x y => decide (x ≤ y))).Perm L := (List.mergeSort_perm ss leI).trans hp
  have hn2 : (ss.mergeSort (fun x y => decide (x ≤ y))).Nodup := hpp.nodup_iff.2 hnd
  refine ⟨?_, fun i => ?_⟩
  · have h2 := List.Pairwise.and hs hn2
    refine h2.imp (fun {a b} h => ?_)
    have h3 := h.1
    have h4 : a ≠ b := h.2
    simp only [leI, decide_eq_true_eq] at h3
    omega
  · rw [hpp.mem_iff, hm]
    unfold sG
    cases K i <;> simp

set_option maxHeartbeats 1000000 in
theorem numbers_w {w : World} {F : Nat → Prop} {b mb sb ns : Nat} {h : Hs} (H : HW w F b mb sb ns h) (hT : h.T < 17592186044416) :
    Calls Try.prog 26 #[.pointer (some ⟨b, 0, none⟩)] w fun r w' => ∃ v ids, r = .returned v ∧ IdsOf h.K ids ∧ ids.length ≤ h.T ∧ w'.ownsRow w.heap.size 3 1 v ids.length (ids.map encZ) ∧ Tch (fun _ => False) w w' := by
  obtain ⟨D, ho, hn, hnd, hm⟩ := keys_sm H.sm
  have hnl := H.nl
  have c3 := H.c.2.2.2
  have hM := sorted_any sb ns D heldE w ho (by rw [hn]; unfold maxLen; omega) (by rw [hn]; omega)
  have HS : Hid (∀ ss : List Int, ss.Perm (intKeys D) → IdsOf h.K (ss.mergeSort (fun x y => decide (x ≤ y))) ∧ (ss.mergeSort (fun x y => decide (x ≤ y))).length = ss.length ∧ ss.length ≤ h.T) := fun ss hp => by
    refine ⟨ids_sort hnd hm hp, List.length_mergeSort _, ?_⟩
    have h1 : (intKeys D).length = Maps.size D := by
      have := ho.isMap
      obtain ⟨es, rfl⟩ := this
      simp [intKeys, Maps.size]
    rw [hp.length_eq, h1, hn]
    exact hnl
  clear ho hn hnd hm hnl H
  refine (callsIn_wide (n := 6)).1 ?_
  have hfK : Fence.wide.fn 49 := trivial
  have hfS : Fence.wide.fn 48 := trivial
  refine callsIn_of_wp Try.func26 rfl trivial ?_ rfl
  simp only [Try.ntmps26, List.size_toArray, List.length_cons, List.length_nil, Nat.reduceAdd, Nat.reduceSub, Array.replicate_succ, Array.replicate_zero, List.push_toArray, List.append_toArray, List.nil_append, List.cons_append]
  gi_wp2_with (first
    | (gi_at_call 49; refine (keys_any _ _).mono ?_; rintro e w' ⟨rfl, rfl⟩)
    | (gi_at_call 48; refine hM.mono ?_; rintro e w' ⟨v, ss, rfl, hS, hrow, hbl⟩))
  go_ret
  obtain ⟨e1, e2, e3⟩ := HS.out ss hS
  refine ⟨v, _, rfl, e1, by rw [e2]; exact e3, ?_, ?_⟩
  · rw [e2]
    exact ownsRow_base_a hrow (by simp)
  · exact (Tch.alloc (fun _ => False) w _).trans' (Tch.of_below hbl (Nat.le_refl _))
end Go.Proofs.Ytkcmpipipelgoaa
