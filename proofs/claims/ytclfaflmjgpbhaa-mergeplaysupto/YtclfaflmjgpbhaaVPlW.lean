/- MergePlays: the law. -/
import Derived.Test.YtclfaflmjgpbhaaVPl1
namespace Go.Proofs.Ytclfaflmjgpbhaa
open Go.RowKit Go

set_option maxHeartbeats 16000000 in
set_option maxRecDepth 2000000 in
theorem pl_law : PLaw := by
  intro W lo lc ops hA h0 hE hl hcap hmx
  obtain ⟨n, hn⟩ : ∃ n, n = W.heap.size := ⟨_, rfl⟩
  have q1 := vnew_any W W
  rw [← hn] at q1
  have HA : Hid _ := hA
  have H0 : Hid _ := h0
  have HE : Hid _ := hE
  have HL : Hid (ops.length ≤ 1048576) := hl
  have Hn : Hid (n = W.heap.size) := hn
  obtain ⟨N0, hN0⟩ : ∃ N0, N0 = ops.length := ⟨_, rfl⟩
  have HN0 : Hid (N0 = ops.length) := hN0
  have hN1 : N0 ≤ 1048576 := by omega
  have hlc : N0 ≤ lc := by omega
  have hmx' : lc ≤ 9223372036854775807 := hmx
  rw [← hN0]
  clear hA h0 hE hl hcap hmx hn hN0
  go_enter Try.func4, Try.ntmps4
  go_wp2_with fail
  refine q1.mono ?_
  rintro e w1 ⟨rfl, ⟨cap, hm1⟩, t1, hz1⟩
  obtain ⟨w2, hw2⟩ : ∃ w2, w2 = w1.alloc (.cells #[.slice none 0 0, .slice none 0 0] 38) := ⟨_, rfl⟩
  obtain ⟨w3, hw3⟩ : ∃ w3, w3 = w2.alloc (.cells #[.slice none 0 0, .int .i64 0, .int .i64 0, .int .i64 0, .int .i64 0, .slice none 0 0, .slice none 0 0, .int .i64 0, .int .i64 0, .int .i64 0, .int .i64 0, .slice none 0 0, .slice none 0 0] 42) := ⟨_, rfl⟩
  obtain ⟨w4, hw4⟩ : ∃ w4, w4 = w3.alloc (.cells #[.int .i64 5, .int .i64 1, .int .i64 0, .int .i64 0, .slice none 0 0, .slice none 0 0, .int .i64 9, .int .i64 0, .int .i64 0, .int .i64 0, .slice none 0 0, .slice none 0 0] 27) := ⟨_, rfl⟩
  obtain ⟨w5, hw5⟩ : ∃ w5, w5 = w4.alloc (.cells #[.int .i64 1, .slice (some ⟨n + 4, 0, none⟩) 2 2, .int .i64 3, .slice none 0 0, .int .i64 2, .slice none 0 0] 45) := ⟨_, rfl⟩
  have hz2 : w2.heap.size = n + 3 := by rw [hw2, World.size_alloc, hz1]
  have hz3 : w3.heap.size = n + 4 := by rw [hw3, World.size_alloc, hz2]
  have hz4 : w4.heap.size = n + 5 := by rw [hw4, World.size_alloc, hz3]
  have t2 : Tch (fun _ => False) w1 w2 := by rw [hw2]; exact Tch.alloc _ _ _
  have t3 : Tch (fun _ => False) w2 w3 := by rw [hw3]; exact Tch.alloc _ _ _
  have t4 : Tch (fun _ => False) w3 w4 := by rw [hw4]; exact Tch.alloc _ _ _
  have t5 : Tch (fun _ => False) w4 w5 := by rw [hw5]; exact Tch.alloc _ _ _
  have b2 : w2.heap[n + 2]? = some (.cells #[.slice none 0 0, .slice none 0 0] 38 (0, 0)) := by rw [hw2, ← hz1]; exact alloc_new _ _
  have b3 : w3.heap[n + 3]? = some (.cells (bkC (.slice none 0 0) k0 k0) 42 (0, 0)) := by rw [hw3, ← hz2]; exact alloc_new _ _
  have b4 : w4.heap[n + 4]? = some (.cells (kcl [lt1, lt2]).toArray 27 (0, 0)) := by rw [hw4, ← hz3]; exact alloc_new _ _
  have b5 : w5.heap[n + 5]? = some (.cells (opcl (lits (n + 4))).toArray 45 (0, 0)) := by rw [hw5, ← hz4]; exact alloc_new _ _
  have tW5 : Tch (fun _ => False) W w5 := (((t1.trans' t2).trans' t3).trans' t4).trans' t5
  obtain ⟨gs, sc, V, hr, hc1, hc2, hat, hgs, hgV, tV⟩ := scr_app w5 n lo lc ops b5 (fun hne => by
    obtain ⟨g, o, e, hg, hx⟩ := HA.out hne
    exact ⟨g, o, e, fun j v hv => (tW5.cell (p := ⟨g, o + j, none⟩) (cell_lt (hx j v hv)) (fun h => h)).trans (hx j v hv)⟩) H0.out HL.out
  rw [← HN0.out] at hr hc1
  obtain ⟨NN, hNN⟩ : ∃ NN, NN = 3 + N0 := ⟨_, rfl⟩
  rw [← hNN] at hr hc1
  have HNN : Hid (NN = 3 + N0) := hNN
  have hNN2 : NN ≤ 1048579 := by omega
  obtain ⟨Z, hZ⟩ : ∃ Z : Nat → Prop, Z = fun b => b < n ∨ b = n + 4 ∨ b = gs := ⟨_, rfl⟩
  have hw5s : w5.heap.size = n + 6 := by rw [hw5, World.size_alloc, hz4]
  have tWV : Tch (fun b => n + 3 < b) W V := (tW5.mono (fun _ _ h => h.elim)).trans tV (fun b _ e => by show n + 3 < b; have e' : b = n + 5 := e; omega)
  have b4V : V.heap[n + 4]? = some (.cells (kcl [lt1, lt2]).toArray 27 (0, 0)) := by
    rw [tV.block (n + 4) (by omega) (by show ¬ n + 4 = n + 5; omega), t5.block (n + 4) (by omega) (fun h => h)]; exact b4
  have nilRd : ∀ w : World, RdR w none 0 0 [] := fun w => ⟨rfl, fun _ h => (by cases h), by omega, .inl ⟨rfl, rfl, rfl⟩⟩
  have nilIn : RowIn W none 0 0 := ⟨nilRd W, rfl, fun _ h => (by cases h), Nat.le_refl _, Nat.zero_le _, Nat.zero_le _⟩
  have HSC : Hid (SC V Z W gs (lits (n + 4) ++ ops)) := by
    refine ⟨by rw [hZ]; exact .inr (.inr rfl), hat, fun p hp => ?_⟩
    rcases List.mem_append.1 hp with hp | hp
    · simp only [lits, List.mem_cons, List.not_mem_nil, or_false] at hp
      rcases hp with rfl | rfl | rfl
      · refine ⟨by simp, by simp, by simp, fun _ => ⟨n + 4, 0, by rw [hZ]; exact .inr (.inl rfl), rfl, fun j v hv => by rw [Nat.zero_add, blk_cell b4V, List.getElem?_toArray]; exact hv⟩, fun c hc => ?_⟩
        simp only [List.mem_cons, List.not_mem_nil, or_false] at hc
        rcases hc with rfl | rfl
        · exact ⟨⟨nilIn, nilIn⟩, nilRd V, nilRd V, fun _ h => (by cases h), fun _ h => (by cases h)⟩
        · exact ⟨⟨nilIn, nilIn⟩, nilRd V, nilRd V, fun _ h => (by cases h), fun _ h => (by cases h)⟩
      · exact ⟨by simp, by simp, by simp, fun h => absurd rfl h, fun c hc => by cases hc⟩
      · exact ⟨by simp, by simp, by simp, fun h => absurd rfl h, fun c hc => by cases hc⟩
    · obtain ⟨hrl, hci, hb⟩ := HE.out p hp
      have hrV : RL (DW W) W.heap.size V p.ua p.uc p.u := hrl.tch tWV (fun g hg e => by have := Hn.out; have e' : n + 3 < g := e; omega)
      refine ⟨hrV.len, hrV.cap, hb, fun hne => ?_, fun c hc => ?_⟩
      · obtain ⟨g, o, hg, e, hx⟩ := hrV.at' hne
        exact ⟨g, o, by rw [hZ]; exact .inl (by have := Hn.out; omega), e, hx⟩
      · obtain ⟨r1, r2, r3, r4⟩ := hrV.rd c hc
        exact ⟨hci c hc, r1, r2, fun a ha h0 => by rw [hZ]; exact .inl (by have := Hn.out; have := r3 a ha h0; omega), fun a ha h0 => by rw [hZ]; exact .inl (by have := Hn.out; have := r4 a ha h0; omega)⟩
  have HST : Hid (StP V Z W V (n + 1) (n + 2) (n + 3) none 0 0 0 ⟨begO n, n, cap, [], fun _ => 0, fun _ => ⟨0, none, 0, [], []⟩, fun _ => k0, [], .slice none 0 0, .slice none 0 0, [], [], [], fun _ => 0, .slice none 0 0, [], k0, k0, k0, []⟩) := by
    have hmV : MP W V (n + 1) n cap [] (fun _ => 0) (fun _ => ⟨0, none, 0, [], []⟩) (fun _ => k0) (fun _ => False) [] := ((((hm1.no t2).no t3).no t4).no t5).keep tV (fun b hb e => by
      have e' : b = n + 5 := e
      rcases hb with e1 | e1 | ⟨j, hj, _⟩ | ⟨j, c, u, e1, _⟩
      · omega
      · omega
      · simp at hj
      · simp at e1)
    have b2V : V.heap[n + 2]? = some (.cells #[.slice none 0 0, .slice none 0 0] 38 (0, 0)) := by
      rw [tV.block (n + 2) (by omega) (by show ¬ n + 2 = n + 5; omega), t5.block (n + 2) (by omega) (fun h => h), t4.block (n + 2) (by omega) (fun h => h), t3.block (n + 2) (by omega) (fun h => h)]; exact b2
    have b3V : V.heap[n + 3]? = some (.cells (bkC (.slice none 0 0) k0 k0) 42 (0, 0)) := by
      rw [tV.block (n + 3) (by omega) (by show ¬ n + 3 = n + 5; omega), t5.block (n + 3) (by omega) (fun h => h), t4.block (n + 3) (by omega) (fun h => h)]; exact b3
    refine StP.begin hmV b2V b3V (Tch.refl _ _) (fun b hb => ?_)
    have hVs : n + 6 ≤ V.heap.size := by have := tV.size; omega
    rw [hZ] at hb
    rcases hb with e | e | e
    · exact ⟨by omega, by omega⟩
    · exact ⟨by omega, by omega⟩
    · exact ⟨by omega, by omega⟩
  have HEND : Hid (∀ w, Tch (fun b => ¬ Z b) V w → Tch (fun _ => False) W w) := fun w tw => (tWV.trans tw (fun b hb e => absurd (show Z b by rw [hZ]; exact .inl (by have := Hn.out; omega)) e)).mono (fun b hb e => by have := Hn.out; have e' : n + 3 < b := e; omega)
  have HW2 : Hid (w2 = _) := hw2
  have HW3 : Hid (w3 = _) := hw3
  have HZ1 : Hid (w1.heap.size = n + 2) := hz1
  have HZ2 : Hid (w2.heap.size = n + 3) := hz2
  rw [hw5, hw4, ← hz3] at hr
  have e5 : n + 5 = w3.heap.size + 1 := by omega
  rw [e5] at hr
  clear q1 hm1 t1 hz1 hw2 hw3 hw4 hw5 hz2 hz3 hz4 t2 t3 t4 t5 b2 b3 b4 b5 tW5 hat hgs hgV tV hZ hw5s tWV b4V nilRd nilIn e5 hNN
  go_upto_region 3 with (fail)
  rw [← HW2.out, HZ1.out]
  go_upto_region 6 with (fail)
  rw [← HW3.out, HZ2.out]
  go_upto_region 8 with (at_builtin; refine wpList_app _ rfl _ _ 33 rfl rfl _ _ rfl rfl hr ?_)
  clear hr
  go_wp2_with fail
  go_loopg [6, 7] NN (fun kx s6 s7 wr => ∃ (i : Nat) (so : Option Addr) (m sc' : Nat) (s : Sv), s6 = .slice so m sc' ∧ s7 = .int .i64 i ∧ NN - i ≤ kx ∧ i ≤ NN ∧ Hid (StP V Z W wr (n + 1) (n + 2) (n + 3) so m sc' i s))
  case atStart => exact ⟨0, none, 0, 0, _, rfl, rfl, by omega, by omega, HST⟩
  case round =>
    obtain ⟨i, so, m, sc', s, rfl, rfl, hk, hin, I⟩ := hrel
    rename World => wr
    by_cases hi : i < NN
    · have hi' : (i : Int) < (NN : Int) := by omega
      obtain ⟨p, hp⟩ : ∃ p, (lits (n + 4) ++ ops)[i]? = some p := ⟨_, List.getElem?_eq_getElem (by have := HNN.out; have := HN0.out; simp [lits]; omega)⟩
      obtain ⟨y0, y1⟩ := HSC.out.get hp I.out.q.w0
      have HP : Hid ((lits (n + 4) ++ ops)[i]? = some p) := hp
      clear hp
      go_upto_block 2 with fail
      go_cut [6, 8, 9, 10, 11, 12, 13, 14, 15, 16, 17] from 37 to 221 (fun s6 _ _ _ _ _ _ _ _ _ _ wc => ∃ (so : Option Addr) (m sc' : Nat) (s : Sv), s6 = .slice so m sc' ∧ Hid (StP V Z W wc (n + 1) (n + 2) (n + 3) so m sc' (i + 1) s))
      case first =>
        by_cases h1 : p.k = 1
        · as_aux_lemma =>
          have hb1 : (p.k == 1) = true := by simp [h1]
          clear h1
          obtain ⟨sb, hsb⟩ : ∃ sb, sb = wr.heap.size := ⟨_, rfl⟩
          obtain ⟨wz, hwz⟩ : ∃ wz, wz = wr.alloc (.cells #[.slice none 0 0, .int .i64 0, .bool false] 48) := ⟨_, rfl⟩
          have HK0 : Hid (K1 W wr sb p.u 0 0 wz none 0 [] none 0 []) := by rw [hsb, hwz]; exact K1.begin W wr p.u
          have HOP : Hid (OpS V Z W p) := HSC.out.el p (List.mem_of_getElem? HP.out)
          obtain ⟨mu, hmu⟩ : ∃ mu, mu = p.u.length := ⟨_, rfl⟩
          have Hmu : Hid (mu = p.u.length) := hmu
          have hmu2 : mu ≤ 1048576 := by rw [hmu]; exact HOP.out.bd
          have hmuc : mu ≤ p.uc := by rw [hmu]; exact HOP.out.len
          have hucm := HOP.out.cap
          have HWZ : Hid (wz = _) := hwz
          have HSB : Hid (sb = wr.heap.size) := hsb
          clear hwz hsb hmu
          go_upto_region 14 with (fail)
          rw [← HWZ.out, ← HSB.out]
          clear y0 y1
          go_wp2_with fail
          go_loopg [9, 10] mu (fun kx s9 s10 wx => ∃ (k : Nat) (la : Option Addr) (lc : Nat) (L' : List Rc) (lo : Option Addr) (ld : Nat) (l' : List Rc), s9 = .slice lo k ld ∧ s10 = .int .i64 k ∧ mu - k ≤ kx ∧ k ≤ mu ∧ Hid (K1 W wr sb p.u k k wx la lc L' lo ld l'))
          case atStart => exact ⟨0, none, 0, [], none, 0, [], rfl, rfl, by omega, by omega, HK0⟩
          case round =>
            rename World => wx
            obtain ⟨k, la, lc, L', lo, ld, l', rfl, rfl, hkk, hkm, J⟩ := hrel
            have tvz : Tch (fun b => ¬ Z b) V wx := I.out.q.vz J.out.tch
            obtain ⟨-, y1⟩ := HSC.out.get HP.out tvz
            rw [← Hmu.out] at y1
            by_cases hk2 : k < mu
            · skip
              have hk2' : (k : Int) < (mu : Int) := by omega
              obtain ⟨c, hc⟩ : ∃ c, p.u[k]? = some c := ⟨_, List.getElem?_eq_getElem (by have := Hmu.out; omega)⟩
              obtain ⟨ge, oe, hzg, hua, hx, hch, rdo, rdn⟩ := HOP.out.get hc tvz
              rw [hua] at y1
              obtain ⟨x0, x1, x2, x3, x4, x5⟩ := And.intro (hx 0 _ rfl) (And.intro (hx 1 _ rfl) (And.intro (hx 2 _ rfl) (And.intro (hx 3 _ rfl) (And.intro (hx 4 _ rfl) (hx 5 _ rfl)))))
              rw [Nat.add_zero] at x0
              have y0 : wx.cell? ⟨sb, 0, none⟩ = some (.slice la k lc) := blk_cell J.out.blk 0
              obtain ⟨i0, hi0, hz0, hz1, hz2⟩ := info_parts info_ch
              have nsb : ¬ (Value.slice la k lc).ownBlock = some sb := fun e => by obtain ⟨cu, hcu⟩ := own_ty J.out.ow1 e; exact ne_ty hcu J.out.blk (by decide) rfl
              have nzz : ∀ g, Z g → ¬ (Value.slice la k lc).ownBlock = some g := fun g hz e => by have h1 := (J.out.ow1.lt g e).1; have h2 := (I.out.q.lo g hz).2; have h3 := I.out.q.w0.size; omega
              have HK1 : Hid (∀ Wy, Tch (fun g => (Value.slice la k lc).ownBlock = some g) wx Wy → Wy.cell? ⟨sb, 0, none⟩ = some (.slice la k lc) ∧ Wy.cell? ⟨gs, i * 2 + 1, none⟩ = some (.slice (some ⟨ge, oe, none⟩) mu p.uc) ∧ Wy.cell? ⟨ge, oe + k * 6, none⟩ = some (.int .i64 c.l) ∧ Wy.cell? ⟨ge, oe + k * 6 + 1, none⟩ = some (.int .i64 c.x) ∧ Wy.cell? ⟨ge, oe + k * 6 + 2, none⟩ = some (.int .i64 c.k) ∧ Wy.cell? ⟨ge, oe + k * 6 + 3, none⟩ = some (.int .i64 c.t) ∧ Wy.cell? ⟨ge, oe + k * 6 + 4, none⟩ = some (.slice c.oa c.ol c.oc) ∧ Wy.cell? ⟨ge, oe + k * 6 + 5, none⟩ = some (.slice c.na c.nl c.nc)) := fun Wy ty => by
                have hzs : Z gs := HSC.out.zg
                exact ⟨(ty.cell (p := ⟨sb, 0, none⟩) (cell_lt y0) nsb).trans y0, (ty.cell (p := ⟨gs, i * 2 + 1, none⟩) (cell_lt y1) (nzz _ hzs)).trans y1,
                  (ty.cell (p := ⟨ge, oe + k * 6, none⟩) (cell_lt x0) (nzz _ hzg)).trans x0, (ty.cell (p := ⟨ge, oe + k * 6 + 1, none⟩) (cell_lt x1) (nzz _ hzg)).trans x1, (ty.cell (p := ⟨ge, oe + k * 6 + 2, none⟩) (cell_lt x2) (nzz _ hzg)).trans x2,
                  (ty.cell (p := ⟨ge, oe + k * 6 + 3, none⟩) (cell_lt x3) (nzz _ hzg)).trans x3, (ty.cell (p := ⟨ge, oe + k * 6 + 4, none⟩) (cell_lt x4) (nzz _ hzg)).trans x4, (ty.cell (p := ⟨ge, oe + k * 6 + 5, none⟩) (cell_lt x5) (nzz _ hzg)).trans x5⟩
              obtain ⟨C, hC⟩ : ∃ C : List Value → World → Prop, C = fun s Wy => match s with
                | [] => Tch (fun _ => False) wx Wy
                | [x] => ∃ c', x = rcV c' ∧ Cpy W wx.heap.size Wy c c' ∧ Tch (fun _ => False) wx Wy
                | [x, y] => ∃ c' g, x = rcV c' ∧ y = .slice (some ⟨g, 0, none⟩) 1 1 ∧ At Wy g 0 (kc6 c') ∧ Cpy W wx.heap.size Wy c c' ∧ Tch (fun _ => False) wx Wy
                | [_, _, z] => ∃ c' o5 c5, z = .slice o5 (k + 1) c5 ∧ Wy.ownsRow wr.heap.size 27 6 z (k + 1) (kcl (L' ++ [c'])) ∧ Cpy W wx.heap.size Wy c c' ∧ (∀ g, z.ownBlock = some g → (Value.slice la k lc).ownBlock = some g ∨ wx.heap.size ≤ g) ∧ Tch (fun g => (Value.slice la k lc).ownBlock = some g) wx Wy
                | _ => False := ⟨_, rfl⟩
              have hK : ∀ s Wy, C s Wy → Wy.cell? ⟨sb, 0, none⟩ = some (.slice la k lc) ∧ Wy.cell? ⟨gs, i * 2 + 1, none⟩ = some (.slice (some ⟨ge, oe, none⟩) mu p.uc) ∧ Wy.cell? ⟨ge, oe + k * 6, none⟩ = some (.int .i64 c.l) ∧ Wy.cell? ⟨ge, oe + k * 6 + 1, none⟩ = some (.int .i64 c.x) ∧ Wy.cell? ⟨ge, oe + k * 6 + 2, none⟩ = some (.int .i64 c.k) ∧ Wy.cell? ⟨ge, oe + k * 6 + 3, none⟩ = some (.int .i64 c.t) ∧ Wy.cell? ⟨ge, oe + k * 6 + 4, none⟩ = some (.slice c.oa c.ol c.oc) ∧ Wy.cell? ⟨ge, oe + k * 6 + 5, none⟩ = some (.slice c.na c.nl c.nc) := fun s Wy h => by
                rw [hC] at h
                match s, h with
                | [], h => exact HK1.out Wy (h.mono (fun _ _ h => h.elim))
                | [_], ⟨_, _, _, h⟩ => exact HK1.out Wy (h.mono (fun _ _ h => h.elim))
                | [_, _], ⟨_, _, _, _, _, _, h⟩ => exact HK1.out Wy (h.mono (fun _ _ h => h.elim))
                | [_, _, _], ⟨_, _, _, _, _, _, _, h⟩ => exact HK1.out Wy h
              have h6 : ∀ Wy, C [] Wy → Calls Try.prog 9 #[.agg #[.int .i64 c.l, .int .i64 c.x, .int .i64 c.k, .int .i64 c.t, .slice c.oa c.ol c.oc, .slice c.na c.nl c.nc]] Wy fun x w' => ∃ c' : Rc, x = .returned (.agg #[.int .i64 c'.l, .int .i64 c'.x, .int .i64 c'.k, .int .i64 c'.t, .slice c'.oa c'.ol c'.oc, .slice c'.na c'.nl c'.nc]) ∧ C [.agg #[.int .i64 c'.l, .int .i64 c'.x, .int .i64 c'.k, .int .i64 c'.t, .slice c'.oa c'.ol c'.oc, .slice c'.na c'.nl c'.nc]] w' := fun Wy h => by
                rw [hC] at h
                refine (copied_any c (DW W c).1 (DW W c).2 Wy (rdo.no h) (rdn.no h)).mono ?_
                rintro x w' ⟨c', rfl, hs, ho, t'⟩
                exact ⟨c', rfl, by rw [hC]; exact ⟨c', rfl, ⟨hs, ho.low h.size, hch⟩, h.trans' t'⟩⟩
              have h7 : ∀ (c' : Rc) Wy, C [rcV c'] Wy → C [rcV c', .slice (some ⟨Wy.heap.size, 0, none⟩) 1 1] (Wy.alloc (.cells #[.int .i64 c'.l, .int .i64 c'.x, .int .i64 c'.k, .int .i64 c'.t, .slice c'.oa c'.ol c'.oc, .slice c'.na c'.nl c'.nc] 27)) := fun c' Wy h => by
                rw [hC] at h ⊢
                obtain ⟨d, e, r, t⟩ := h
                have e' : c' = d := by
                  obtain ⟨_, _, _, _, _, _, _, _, _, _⟩ := c'
                  obtain ⟨_, _, _, _, _, _, _, _, _, _⟩ := d
                  simpa [rcV, and_assoc] using e
                subst e'
                exact ⟨c', Wy.heap.size, rfl, rfl, blk_at (alloc_new Wy (.cells (kc6 c').toArray 27)), r.tch (Tch.alloc (fun _ => False) _ _) (fun _ _ _ h => h), t.allocR _⟩
              have h8 : ∀ (c' : Rc) (g : Nat) Wy, C [rcV c', .slice (some ⟨g, 0, none⟩) 1 1] Wy → ∃ o5 c5 w', (Builtin.append_ #[28, 28] 28 #[.slice la k lc, .slice (some ⟨g, 0, none⟩) 1 1]).run Try.prog Wy = .ok (.slice o5 (k + 1) c5) w' ∧ C [rcV c', .slice (some ⟨g, 0, none⟩) 1 1, .slice o5 (k + 1) c5] w' := fun c' g Wy h => by
                rw [hC] at h
                obtain ⟨d, g', e, e2, hat, r, t⟩ := h
                have e' : c' = d := by
                  obtain ⟨_, _, _, _, _, _, _, _, _, _⟩ := c'
                  obtain ⟨_, _, _, _, _, _, _, _, _, _⟩ := d
                  simpa [rcV, and_assoc] using e
                subst e'
                have e2' : g = g' := by simpa using e2
                subst e2'
                have hoy := own_tch J.out.ow1 t (fun _ _ h => h)
                obtain ⟨v', w', hr', hown, hgr, _, hat'⟩ := run_append_own_at (P := Try.prog) Wy wr.heap.size 28 28 27 i0 _ 6 80 Try.underlying28 hi0 hz0 hz1 hz2 rfl (by decide) _ _ _ hoy ⟨g, 0, none⟩ 1 1 (kc6 c') rfl (fun j u hu => by rw [add_plain]; exact hat j u hu) (kc6_one _) (by unfold maxLen; omega) (by omega) (Nat.le_trans J.out.tch.size t.size)
                obtain ⟨o5, c5, rfl⟩ := row_slice hown
                have tg : Tch (fun g => (Value.slice la k lc).ownBlock = some g) Wy w' := Tch.of_grown hgr (fun g e => e)
                have nV : ∀ g cur, Wy.heap[g]? = some (.cells cur 76 (0, 0)) → ¬ (Value.slice la k lc).ownBlock = some g := fun g cur hg e => by obtain ⟨cu, hcu⟩ := own_ty hoy e; exact ne_ty hg hcu (by decide) rfl
                refine ⟨o5, c5, w', hr', ?_⟩
                rw [hC]
                refine ⟨c', o5, c5, rfl, by rw [kcl_snoc]; exact hown, r.tch tg nV, fun b eb => ?_, (t.mono (fun _ _ h => h.elim)).trans' tg⟩
                have eb' : (Value.slice o5 (k + 1) c5).ownBlock = some b := eb
                rcases hat' with e1 | e1
                · rw [e1] at eb'; exact .inl eb'
                · rw [e1] at eb'; injection eb' with eb'; have := t.size; exact .inr (by omega)
              have h0' : C [] wx.drew := by rw [hC]; exact (Tch.refl _ _).drew
              have hsh1 : ∀ y Wy, C [y] Wy → ∃ c', y = rcV c' := fun y Wy h => by
                rw [hC] at h
                obtain ⟨c', e, _⟩ := h
                exact ⟨c', e⟩
              have hsh2 : ∀ x y Wy, C [x, y] Wy → ∃ g, y = .slice (some ⟨g, 0, none⟩) 1 1 := fun x y Wy h => by
                rw [hC] at h
                obtain ⟨_, g, _, e, _⟩ := h
                exact ⟨g, e⟩
              have hsh3 : ∀ x y z Wy, C [x, y, z] Wy → ∃ o5 c5, z = .slice o5 (k + 1) c5 := fun x y z Wy h => by
                rw [hC] at h
                obtain ⟨_, o5, c5, e, _⟩ := h
                exact ⟨o5, c5, e⟩
              have Hfin : Hid (∀ x y o5 c5 Wy, C [x, y, .slice o5 (k + 1) c5] Wy → ∃ c', Wy.cell? ⟨sb, 0, none⟩ = some (.slice la k lc) ∧ (∀ j, Wy.frozen? ⟨sb, j, none⟩ = false) ∧ K1 W wr sb p.u (k + 1) k (Wy.setCell ⟨sb, 0, none⟩ (.slice o5 (k + 1) c5)) o5 c5 (L' ++ [c']) lo ld l') := fun x y o5 c5 Wy h => by
                rw [hC] at h
                obtain ⟨c', o5', c5', e, h1, h2, h3, h4⟩ := h
                exact ⟨c', J.out.one hc h2 h1 h3 h4⟩
              have HCC : Hid (p.u[k]? = some c) := hc
              have HUA : Hid (p.ua = some ⟨ge, oe, none⟩) := hua
              clear hC hx rdo rdn hc hch x0 x1 x2 x3 x4 x5 hi0 hz0 hz1 hz2 tvz nsb nzz HK1 hua
              go_wp2_with fail
              refine wp_region_ordv [13, 14, 15] C 16 [0, 1, 2, 3, 4, 5, 6, 7, 8, 9, 10, 11, 12, 13, 14, 15] (by kernel_rfl) (by kernel_rfl) h0' ?_
              clear h0' y0 y1
              refine ordv_read rfl (by go_simp) (by rfl) ?_
              apply Exists.intro
              refine ⟨fun s' Wy hW b K Q hK' => ?_, fun K hK' => ?_⟩
              · obtain ⟨y0, y1, x0, x1, x2, x3, x4, x5⟩ := hK _ Wy hW
                go_simp
                exact hK' Wy hW
              go_simp
              refine hK' _ ?_
              clear hK' K
              refine ordv_read rfl (by go_simp) (by rfl) ?_
              apply Exists.intro
              refine ⟨fun s' Wy hW b K Q hK' => ?_, fun K hK' => ?_⟩
              · obtain ⟨y0, y1, x0, x1, x2, x3, x4, x5⟩ := hK _ Wy hW
                go_simp
                exact hK' Wy hW
              go_simp
              refine hK' _ ?_
              clear hK' K
              refine ordv_read rfl (by go_simp) (by rfl) ?_
              apply Exists.intro
              refine ⟨fun s' Wy hW b K Q hK' => ?_, fun K hK' => ?_⟩
              · obtain ⟨y0, y1, x0, x1, x2, x3, x4, x5⟩ := hK _ Wy hW
                go_simp
                exact hK' Wy hW
              go_simp
              refine hK' _ ?_
              clear hK' K
              refine ordv_read rfl (by go_simp) (by rfl) ?_
              apply Exists.intro
              refine ⟨fun s' Wy hW b K Q hK' => ?_, fun K hK' => ?_⟩
              · obtain ⟨y0, y1, x0, x1, x2, x3, x4, x5⟩ := hK _ Wy hW
                go_simp
                exact hK' Wy hW
              go_simp
              refine hK' _ ?_
              clear hK' K
              refine ordv_read rfl (by go_simp) (by rfl) ?_
              apply Exists.intro
              refine ⟨fun s' Wy hW b K Q hK' => ?_, fun K hK' => ?_⟩
              · obtain ⟨y0, y1, x0, x1, x2, x3, x4, x5⟩ := hK _ Wy hW
                go_simp
                exact hK' Wy hW
              go_simp
              refine hK' _ ?_
              clear hK' K
              refine ordv_read rfl (by go_simp) (by rfl) ?_
              apply Exists.intro
              refine ⟨fun s' Wy hW b K Q hK' => ?_, fun K hK' => ?_⟩
              · obtain ⟨y0, y1, x0, x1, x2, x3, x4, x5⟩ := hK _ Wy hW
                go_simp
                exact hK' Wy hW
              go_simp
              refine hK' _ ?_
              clear hK' K
              refine ordv_read rfl (by go_simp) (by rfl) ?_
              apply Exists.intro
              refine ⟨fun s' Wy hW b K Q hK' => ?_, fun K hK' => ?_⟩
              · obtain ⟨y0, y1, x0, x1, x2, x3, x4, x5⟩ := hK _ Wy hW
                go_simp
                exact hK' Wy hW
              go_simp
              refine hK' _ ?_
              clear hK' K
              refine ordv_read rfl (by go_simp) (by rfl) ?_
              apply Exists.intro
              refine ⟨fun s' Wy hW b K Q hK' => ?_, fun K hK' => ?_⟩
              · obtain ⟨y0, y1, x0, x1, x2, x3, x4, x5⟩ := hK _ Wy hW
                go_simp
                exact hK' Wy hW
              go_simp
              refine hK' _ ?_
              clear hK' K
              refine ordv_read rfl (by go_simp) (by rfl) ?_
              apply Exists.intro
              refine ⟨fun s' Wy hW b K Q hK' => ?_, fun K hK' => ?_⟩
              · obtain ⟨y0, y1, x0, x1, x2, x3, x4, x5⟩ := hK _ Wy hW
                go_simp
                exact hK' Wy hW
              go_simp
              refine hK' _ ?_
              clear hK' K
              refine ordv_read rfl (by go_simp) (by rfl) ?_
              apply Exists.intro
              refine ⟨fun s' Wy hW b K Q hK' => ?_, fun K hK' => ?_⟩
              · obtain ⟨y0, y1, x0, x1, x2, x3, x4, x5⟩ := hK _ Wy hW
                go_simp
                exact hK' Wy hW
              go_simp
              refine hK' _ ?_
              clear hK' K
              refine ordv_read rfl (by go_simp) (by rfl) ?_
              apply Exists.intro
              refine ⟨fun s' Wy hW b K Q hK' => ?_, fun K hK' => ?_⟩
              · obtain ⟨y0, y1, x0, x1, x2, x3, x4, x5⟩ := hK _ Wy hW
                go_simp
                exact hK' Wy hW
              go_simp
              refine hK' _ ?_
              clear hK' K
              refine ordv_read rfl (by go_simp) (by rfl) ?_
              apply Exists.intro
              refine ⟨fun s' Wy hW b K Q hK' => ?_, fun K hK' => ?_⟩
              · obtain ⟨y0, y1, x0, x1, x2, x3, x4, x5⟩ := hK _ Wy hW
                go_simp
                exact hK' Wy hW
              go_simp
              refine hK' _ ?_
              clear hK' K
              refine ordv_read rfl (by go_simp) (by rfl) ?_
              apply Exists.intro
              refine ⟨fun s' Wy hW b K Q hK' => ?_, fun K hK' => ?_⟩
              · obtain ⟨y0, y1, x0, x1, x2, x3, x4, x5⟩ := hK _ Wy hW
                go_simp
                exact hK' Wy hW
              go_simp
              refine hK' _ ?_
              clear hK' K
              refine ordv_turn rfl (by go_simp) (by rfl) (fun Wy hW b K Q hK' => ?_) (fun y hy K hK' => ?_)
              · go_simp
                go_at_call 9
                refine (h6 Wy hW).mono ?_
                rintro x w' ⟨c', rfl, h1⟩
                exact hK' _ w' h1
              obtain ⟨c', rfl⟩ : ∃ c', y = rcV c' := by
                obtain ⟨W', hW'⟩ := hy
                exact hsh1 y W' hW'
              clear hy h6
              unfold rcV at hK'
              go_simp
              refine hK' _ ?_
              clear hK' K
              refine ordv_turn rfl (by go_simp) (by rfl) (fun Wy hW b K Q hK' => ?_) (fun y hy K hK' => ?_)
              · go_simp
                exact hK' _ _ (h7 c' Wy hW)
              obtain ⟨g, rfl⟩ : ∃ g, y = .slice (some ⟨g, 0, none⟩) 1 1 := by
                obtain ⟨W', hW'⟩ := hy
                exact hsh2 _ y W' hW'
              clear hy h7
              go_simp
              refine hK' _ ?_
              clear hK' K
              refine ordv_turn rfl (by go_simp) (by rfl) (fun Wy hW => ?_) (fun y hy K hK' => ?_)
              · obtain ⟨to', tc', w', hr', h1⟩ := h8 c' g Wy hW
                exact yv_append (.tmp 66) (.tmp 76) 28 rfl (.slice la k lc) (.slice (some ⟨g, 0, none⟩) 1 1) rfl rfl hr' h1
              obtain ⟨o5, c5, rfl⟩ : ∃ o5 c5, y = .slice o5 (k + 1) c5 := by
                obtain ⟨W', hW'⟩ := hy
                exact hsh3 _ _ y W' hW'
              clear hy h8 hsh1 hsh2 hsh3
              go_simp
              refine hK' _ ?_
              clear hK' K
              refine ordv_nil ?_
              intro w5 hw5
              obtain ⟨c2, y0, fO, P5⟩ := Hfin.out _ _ _ _ w5 hw5
              obtain ⟨w6, hw6⟩ : ∃ w6, w6 = w5.setCell ⟨sb, 0, none⟩ (.slice o5 (k + 1) c5) := ⟨_, rfl⟩
              rw [← hw6] at P5
              have tv6 : Tch (fun b => ¬ Z b) V w6 := I.out.q.vz P5.tch
              obtain ⟨-, y1⟩ := HSC.out.get HP.out tv6
              rw [← Hmu.out, HUA.out] at y1
              obtain ⟨ge', oe', -, hua', hx, hch, rdo, rdn⟩ := HOP.out.get HCC.out tv6
              have e2 : ge = ge' ∧ oe = oe' := by simpa using HUA.out.symm.trans hua'
              obtain ⟨rfl, rfl⟩ := e2
              obtain ⟨x0, x1, x2, x3, x4, x5⟩ := And.intro (hx 0 _ rfl) (And.intro (hx 1 _ rfl) (And.intro (hx 2 _ rfl) (And.intro (hx 3 _ rfl) (And.intro (hx 4 _ rfl) (hx 5 _ rfl)))))
              rw [Nat.add_zero] at x0
              have q8 := copied_any c (DW W c).1 (DW W c).2 w6 rdo rdn
              unfold rcV at q8
              have f0 := fO 0
              have HP5 : Hid _ := And.intro P5 hch
              have HW6 : Hid (w6 = _) := hw6
              clear hK hw5 Hfin fO P5 hx hch rdo rdn tv6 hua' hw6
              go_upto_region 19 with (fail)
              rw [← HW6.out]
              clear y0 f0
              go_wp2_with fail
              refine q8.mono ?_
              rintro e w7 ⟨c3, rfl, sm3, ow3, t7⟩
              clear q8 x0 x1 x2 x3 x4 x5 y1
              obtain ⟨i0, hi0, hz0, hz1, hz2⟩ := info_parts info_ch
              obtain ⟨w8, hw8⟩ : ∃ w8, w8 = w7.alloc (.cells #[.int .i64 c3.l, .int .i64 c3.x, .int .i64 c3.k, .int .i64 c3.t, .slice c3.oa c3.ol c3.oc, .slice c3.na c3.nl c3.nc] 27) := ⟨_, rfl⟩
              have t8 : Tch (fun _ => False) w6 w8 := by rw [hw8]; exact t7.allocR _
              have b8 : w8.heap[w7.heap.size]? = some (.cells (kc6 c3).toArray 27 (0, 0)) := by rw [hw8]; exact alloc_new _ _
              have ho8 := own_tch HP5.out.1.ow2 t8 (fun _ _ h => h)
              obtain ⟨v9, w9, hr9, hown9, hgr9, _, hat9⟩ := run_append_own_at (P := Try.prog) w8 wr.heap.size 28 28 27 i0 _ 6 80 Try.underlying28 hi0 hz0 hz1 hz2 rfl (by decide) _ _ _ ho8 ⟨w7.heap.size, 0, none⟩ 1 1 (kc6 c3) rfl (fun j u hu => by rw [add_plain, Nat.zero_add, blk_cell b8, List.getElem?_toArray]; exact hu) (kc6_one _) (by unfold maxLen; omega) (by omega) (Nat.le_trans HP5.out.1.tch.size t8.size)
              obtain ⟨o9, c9, rfl⟩ := row_slice hown9
              have t9 : Tch (fun g => (Value.slice lo k ld).ownBlock = some g) w8 w9 := Tch.of_grown hgr9 (fun g e => e)
              have ow8 : OwnC w6.heap.size w8 c3 (DW W c).1 (DW W c).2 := by rw [hw8]; exact ow3.tch (Tch.alloc (fun _ => False) _ _) (fun _ _ _ h => h)
              have HK9 : Hid (K1 W wr sb p.u (k + 1) (k + 1) w9 o5 c5 (L' ++ [c2]) o9 c9 (l' ++ [c3])) := by
                refine HP5.out.1.two HCC.out ⟨sm3, ow8.tch t9 (fun g cur hg e => by obtain ⟨cu, hcu⟩ := own_ty ho8 e; exact ne_ty hg hcu (by decide) rfl), HP5.out.2⟩ (by rw [kcl_snoc]; exact hown9) (fun b eb => ?_) ((t8.mono (fun _ _ h => h.elim)).trans' t9)
                have eb' : (Value.slice o9 (k + 1) c9).ownBlock = some b := eb
                rcases hat9 with e1 | e1
                · rw [e1] at eb'; exact .inl eb'
                · rw [e1] at eb'; injection eb' with eb'; have := t8.size; exact .inr (by omega)
              rw [hw8] at hr9
              clear hi0 hz0 hz1 hz2 hw8 t8 b8 ho8 hown9 hgr9 hat9 t9 ow8 sm3 ow3 t7
              go_wp2_with (at_builtin; refine wpList_app _ rfl _ _ 28 rfl rfl _ _ rfl rfl hr9 ?_)
              go_roundg (mu - (k + 1))
              case measure => omega
              case rel => exact ⟨k + 1, o5, c5, _, o9, c9, _, rfl, rfl, by omega, by omega, HK9⟩
            · skip
              have hk2' : ¬ (k : Int) < (mu : Int) := by omega
              obtain rfl : mu = k := by omega
              have hK1 : K1 W wr sb p.u p.u.length p.u.length wx la lc L' lo ld l' := by have := J.out; rw [Hmu.out] at this; exact this
              obtain ⟨so', sc2, w1, hr, o1, hA1⟩ := StP.made I.out hK1 HOP.out.bd (fun c hc => (HOP.out.ch c hc).1) (by omega)
              have q1 := hA1.add (by omega)
              unfold fS at q1
              have hll : l'.length = mu := by rw [Hmu.out]; exact hK1.sw.2.2.1
              have HI : Hid (s.A.length % 10 = 0 ∧ s.A.length ≤ 20 * i ∧ s.ls.length ≤ i ∧ s.rs.length ≤ i) := ⟨I.out.q.a1, I.out.q.a2, I.out.q.lt, I.out.q.rt⟩
              clear hK1 hA1 tvz
              go_upto_region 21 with (at_builtin; refine wpList_app _ rfl _ _ 43 rfl rfl _ _ rfl rfl hr ?_)
              clear hr y1
              have hmf : ∀ (fn : Fn) (first cap : Array Value) (w : World), (Instr.makeFunc fn first cap).run Try.prog w = .ok (.func fn first cap) w := fun _ _ _ _ => rfl
              go_wp2_with fail
              refine q1.mono ?_
              rintro e w2 ⟨rfl, o2, g2, cap2, L2, P2, H2, hA2⟩
              have q2 := hA2.add HI.out.1 HI.out.2.1 HI.out.2.2.1 HI.out.2.2.2 (by omega)
              rw [hll] at q2
              clear q1 hA2 hmf
              go_wp2_with fail
              refine q2.mono ?_
              rintro e w3 ⟨rfl, s3, hs3⟩
              have HS3 : Hid _ := hs3
              clear q2 hs3
              go_wp2_with fail
              go_meet
              case rel => exact ⟨so', m + 1, sc2, s3, rfl, HS3⟩
        · skip
          by_cases h2 : p.k = 2
          · as_aux_lemma =>
            have hb1 : (p.k == 1) = false := by simp [h1]
            have hb2 : (p.k == 2) = true := by simp [h2]
            have q1 := I.out.next1 (by omega)
            unfold rcV at q1
            have hlt := I.out.q.lt
            have hrt := I.out.q.rt
            go_wp2_with fail
            refine q1.mono ?_
            rintro e w1 ⟨d, a, c, o1, g1, cap1, L1, H1, rs1, rfl, hN1, hcs1⟩
            obtain ⟨w2, hw2⟩ : ∃ w2, w2 = w1.alloc (.cells #[.int .i64 a.l, .int .i64 a.x, .int .i64 a.k, .int .i64 a.t, .slice a.oa a.ol a.oc, .slice a.na a.nl a.nc] 27) := ⟨_, rfl⟩
            obtain ⟨A1, hA1⟩ : ∃ A1, A1 = w1.heap.size := ⟨_, rfl⟩
            have t2 : Tch (fun _ => False) w1 w2 := by rw [hw2]; exact Tch.alloc _ _ _
            have bA2 : w2.heap[A1]? = some (.cells (kc6 a).toArray 27 (0, 0)) := by rw [hw2, hA1]; exact alloc_new _ _
            obtain ⟨hN1b, hcs1b⟩ := hN1.box hcs1 t2
            have q2 := hN1b.next2 hcs1b I.out.q.a1 I.out.q.a2 hlt hrt (by omega)
            unfold rcV at q2
            have HW2 : Hid (w2 = _) := hw2
            have HA1 : Hid (A1 = w1.heap.size) := hA1
            have HB2 : Hid _ := bA2
            clear q1 hw2 hA1 t2 bA2 hN1 hcs1 hN1b hcs1b hlt hrt
            go_upto_region 25 with (fail)
            rw [← HW2.out, ← HA1.out]
            go_wp2_with fail
            refine q2.mono ?_
            rintro e w3 ⟨c2, nx', rfl, hN2, k3⟩
            clear q2
            have bA3 : w3.heap[A1]? = some (.cells (kc6 a).toArray 27 (0, 0)) := (k3 A1 (blk_lt HB2.out) (newO_ge (by have := HA1.out; omega))).trans HB2.out
            obtain ⟨s2, hs2⟩ : ∃ s2 : Sv, s2 = { s with o := newO o1 w1.heap.size 10, g := g1, cap := cap1, L := L1, H := H1, rs := rs1, nx := nx' } := ⟨_, rfl⟩
            have ho2 : ∀ b, w1.heap.size ≤ b → s2.o b = 10 := fun b hb => by rw [hs2]; exact newO_ge hb
            have hsA : s2.A = s.A ∧ s2.held = s.held ∧ s2.was = s.was := by rw [hs2]; exact ⟨rfl, rfl, rfl⟩
            rw [← hs2] at hN2
            have HLS : Hid (s2.ls.length ≤ i + 1 ∧ s2.rs.length ≤ i + 1) := by have h1 := hN2.p.q.lt; have h2 := hN2.p.q.rt; exact ⟨by omega, by omega⟩
            obtain ⟨w4, hw4⟩ : ∃ w4, w4 = w3.alloc (.cells #[.int .i64 c2.l, .int .i64 c2.x, .int .i64 c2.k, .int .i64 c2.t, .slice c2.oa c2.ol c2.oc, .slice c2.na c2.nl c2.nc] 27) := ⟨_, rfl⟩
            obtain ⟨A3, hA3⟩ : ∃ A3, A3 = w3.heap.size := ⟨_, rfl⟩
            have t4 : Tch (fun _ => False) w3 w4 := by rw [hw4]; exact Tch.alloc _ _ _
            have bC4 : w4.heap[A3]? = some (.cells (kc6 c2).toArray 27 (0, 0)) := by rw [hw4, hA3]; exact alloc_new _ _
            have bA4 := (t4.block A1 (blk_lt bA3) (fun h => h)).trans bA3
            have hN4 := hN2.no t4
            have q3 := alike_two hN4.ca hN4.cc
            unfold rcV at q3
            obtain ⟨x0, x1, x2, x3, x4, x5⟩ := box_get bA4
            obtain ⟨z0, z1, z2, z3, z4, z5⟩ := box_get bC4
            have hA31 : w1.heap.size ≤ A3 := by have h1 := blk_lt bA3; have h2 := HA1.out; omega
            have HW4 : Hid (w4 = _) := hw4
            have HA3 : Hid (A3 = w3.heap.size) := hA3
            have H4 : Hid _ := And.intro hN4 (And.intro bA4 (And.intro bC4 (And.intro ho2 (And.intro hsA hA31))))
            clear hw4 hA3 t4 bA3 bC4 bA4 hN2 hN4 hs2 k3 ho2 hsA hA31
            go_upto_region 26 with (fail)
            rw [← HW4.out, ← HA3.out]
            go_wp2_with fail
            refine q3.mono ?_
            rintro e w5 ⟨rfl, t5⟩
            clear q3 x0 x1 x2 x3 x4 x5 z0 z1 z2 z3 z4 z5
            obtain ⟨hN4, bA4, bC4, ho2, hsA, hA31⟩ := H4.out
            have hN5 := hN4.no t5
            have bA5 := (t5.block A1 (blk_lt bA4) (fun h => h)).trans bA4
            have bC5 := (t5.block A3 (blk_lt bC4) (fun h => h)).trans bC4
            obtain ⟨hd, hhd⟩ : ∃ hd, hd = s2.held := ⟨_, rfl⟩
            obtain ⟨ws, hws⟩ : ∃ ws, ws = s2.was := ⟨_, rfl⟩
            obtain ⟨C, hC⟩ : ∃ C : List Value → World → Prop, C = fun _ Wy => Tch (fun _ => False) w5 Wy := ⟨_, rfl⟩
            have hK : ∀ s' Wy, C s' Wy → (Wy.cell? ⟨n + 3, 1, none⟩ = some (.int .i64 hd.l) ∧ Wy.cell? ⟨n + 3, 2, none⟩ = some (.int .i64 hd.x) ∧ Wy.cell? ⟨n + 3, 3, none⟩ = some (.int .i64 hd.k) ∧ Wy.cell? ⟨n + 3, 4, none⟩ = some (.int .i64 hd.t) ∧ Wy.cell? ⟨n + 3, 5, none⟩ = some (.slice hd.oa hd.ol hd.oc) ∧ Wy.cell? ⟨n + 3, 6, none⟩ = some (.slice hd.na hd.nl hd.nc)) ∧ Wy.cell? ⟨n + 3, 7, none⟩ = some (.int .i64 ws.l) ∧ Wy.cell? ⟨n + 3, 8, none⟩ = some (.int .i64 ws.x) ∧ Wy.cell? ⟨n + 3, 9, none⟩ = some (.int .i64 ws.k) ∧ Wy.cell? ⟨n + 3, 10, none⟩ = some (.int .i64 ws.t) ∧ Wy.cell? ⟨n + 3, 11, none⟩ = some (.slice ws.oa ws.ol ws.oc) ∧ Wy.cell? ⟨n + 3, 12, none⟩ = some (.slice ws.na ws.nl ws.nc) := fun s' Wy h => by
              rw [hC] at h
              rw [hhd, hws]
              exact bk_get (hN5.no h).p.q.bk
            have h6 : ∀ {s'} Wy, C s' Wy → Calls Try.prog 15 #[.agg #[.int .i64 hd.l, .int .i64 hd.x, .int .i64 hd.k, .int .i64 hd.t, .slice hd.oa hd.ol hd.oc, .slice hd.na hd.nl hd.nc], .agg #[.int .i64 ws.l, .int .i64 ws.x, .int .i64 ws.k, .int .i64 ws.t, .slice ws.oa ws.ol ws.oc, .slice ws.na ws.nl ws.nc]] Wy fun x w' => x = .returned (.bool true) ∧ C s' w' := fun {s'} Wy h => by
              rw [hC] at h
              have hh := (hN5.no h).p.q.ch
              rw [hhd, hws]
              refine (alike_two hh.h hh.s).mono ?_
              rintro x w' ⟨rfl, t'⟩
              exact ⟨rfl, by rw [hC]; exact h.trans' t'⟩
            have h0' : C [] w5.drew := by rw [hC]; exact (Tch.refl _ _).drew
            have Hfin : Hid (∀ s' Wy, C s' Wy → Tch (fun _ => False) w5 Wy) := fun s' Wy h => by rw [hC] at h; exact h
            have H5 : Hid _ := And.intro hN5 (And.intro bA5 (And.intro bC5 (And.intro ho2 (And.intro hsA (And.intro hA31 (And.intro hhd hws))))))
            clear hC hN4 bA4 bC4 ho2 hsA hA31 hN5 bA5 bC5 hhd hws t5
            go_wp2_with fail
            refine wp_region_ordv [] C 9 [0, 1, 2, 3, 4, 5, 6, 7, 8] (by kernel_rfl) (by kernel_rfl) h0' ?_
            clear h0'
            refine ordv_read rfl (by go_simp) (by rfl) ?_
            apply Exists.intro
            refine ⟨fun s' Wy hW b K Q hK' => ?_, fun K hK' => ?_⟩
            · obtain ⟨⟨x0, x1, x2, x3, x4, x5⟩, z0, z1, z2, z3, z4, z5⟩ := hK _ Wy hW
              go_simp
              exact hK' Wy hW
            go_simp
            refine hK' _ ?_
            clear hK' K
            refine ordv_read rfl (by go_simp) (by rfl) ?_
            apply Exists.intro
            refine ⟨fun s' Wy hW b K Q hK' => ?_, fun K hK' => ?_⟩
            · obtain ⟨⟨x0, x1, x2, x3, x4, x5⟩, z0, z1, z2, z3, z4, z5⟩ := hK _ Wy hW
              go_simp
              exact hK' Wy hW
            go_simp
            refine hK' _ ?_
            clear hK' K
            refine ordv_read rfl (by go_simp) (by rfl) ?_
            apply Exists.intro
            refine ⟨fun s' Wy hW b K Q hK' => ?_, fun K hK' => ?_⟩
            · obtain ⟨⟨x0, x1, x2, x3, x4, x5⟩, z0, z1, z2, z3, z4, z5⟩ := hK _ Wy hW
              go_simp
              exact hK' Wy hW
            go_simp
            refine hK' _ ?_
            clear hK' K
            refine ordv_read rfl (by go_simp) (by rfl) ?_
            apply Exists.intro
            refine ⟨fun s' Wy hW b K Q hK' => ?_, fun K hK' => ?_⟩
            · obtain ⟨⟨x0, x1, x2, x3, x4, x5⟩, z0, z1, z2, z3, z4, z5⟩ := hK _ Wy hW
              go_simp
              exact hK' Wy hW
            go_simp
            refine hK' _ ?_
            clear hK' K
            refine ordv_read rfl (by go_simp) (by rfl) ?_
            apply Exists.intro
            refine ⟨fun s' Wy hW b K Q hK' => ?_, fun K hK' => ?_⟩
            · obtain ⟨⟨x0, x1, x2, x3, x4, x5⟩, z0, z1, z2, z3, z4, z5⟩ := hK _ Wy hW
              go_simp
              exact hK' Wy hW
            go_simp
            refine hK' _ ?_
            clear hK' K
            refine ordv_read rfl (by go_simp) (by rfl) ?_
            apply Exists.intro
            refine ⟨fun s' Wy hW b K Q hK' => ?_, fun K hK' => ?_⟩
            · obtain ⟨⟨x0, x1, x2, x3, x4, x5⟩, z0, z1, z2, z3, z4, z5⟩ := hK _ Wy hW
              go_simp
              exact hK' Wy hW
            go_simp
            refine hK' _ ?_
            clear hK' K
            refine ordv_read rfl (by go_simp) (by rfl) ?_
            apply Exists.intro
            refine ⟨fun s' Wy hW b K Q hK' => ?_, fun K hK' => ?_⟩
            · obtain ⟨⟨x0, x1, x2, x3, x4, x5⟩, z0, z1, z2, z3, z4, z5⟩ := hK _ Wy hW
              go_simp
              exact hK' Wy hW
            go_simp
            refine hK' _ ?_
            clear hK' K
            refine ordv_read rfl (by go_simp) (by rfl) ?_
            apply Exists.intro
            refine ⟨fun s' Wy hW b K Q hK' => ?_, fun K hK' => ?_⟩
            · obtain ⟨⟨x0, x1, x2, x3, x4, x5⟩, z0, z1, z2, z3, z4, z5⟩ := hK _ Wy hW
              go_simp
              exact hK' Wy hW
            go_simp
            refine hK' _ ?_
            clear hK' K
            refine ordv_read rfl (by go_simp) (by rfl) ?_
            apply Exists.intro
            refine ⟨fun s' Wy hW b K Q hK' => ?_, fun K hK' => ?_⟩
            · go_simp
              go_at_call 15
              refine (h6 Wy hW).mono ?_
              rintro x w' ⟨rfl, hw'⟩
              exact hK' w' hw'
            go_simp
            refine hK' _ ?_
            clear hK' K
            refine ordv_nil ?_
            intro w6 hw6
            have t6 := Hfin.out _ w6 hw6
            clear hK hw6 Hfin h6
            obtain ⟨hN5, bA5, bC5, ho2, hsA, hA31, hhd, hws⟩ := H5.out
            have hN6 := hN5.no t6
            have bA6 := (t6.block A1 (blk_lt bA5) (fun h => h)).trans bA5
            have bC6 := (t6.block A3 (blk_lt bC5) (fun h => h)).trans bC5
            have q4 := hN6.rows (by omega)
            rw [← hhd, ← hws] at q4
            obtain ⟨⟨-, -, -, -, x5, -⟩, -⟩ := bk_get hN6.p.q.bk
            rw [← hhd] at x5
            have H6 : Hid _ := And.intro bA6 (And.intro bC6 (And.intro ho2 (And.intro hsA hA31)))
            clear hN5 bA5 bC5 hsA ho2 hA31 hhd hws t6 hN6 bA6 bC6
            go_wp2_with fail
            refine q4.mono ?_
            rintro e w7 ⟨rfl, ⟨rv1, hb7⟩, k7, q5⟩
            obtain ⟨⟨-, -, -, -, -, x6⟩, -⟩ := bk_get hb7
            clear q4 x5 hb7 k7
            go_wp2_with fail
            refine q5.mono ?_
            rintro e w8 ⟨rfl, o8, rv8, A8, hN8, hA8, k8⟩
            clear q5 x6
            obtain ⟨bA6, bC6, ho2, hsA, hA31⟩ := H6.out
            have bA8 := (k8 A1 (blk_lt bA6) (ho2 A1 (by have := HA1.out; omega))).1.trans bA6
            have bC8 := (k8 A3 (blk_lt bC6) (ho2 A3 hA31)).1.trans bC6
            have q6 := alike_two hN8.ca hN8.cc
            unfold rcV at q6
            obtain ⟨x0, x1, x2, x3, x4, x5⟩ := box_get bA8
            obtain ⟨z0, z1, z2, z3, z4, z5⟩ := box_get bC8
            have HA8 : Hid (A8.length = s.A.length + 20) := by rw [← hsA.1]; exact hA8
            have H8 : Hid _ := And.intro hN8 (And.intro bA8 bC8)
            clear bA6 bC6 ho2 hsA hA31 hN8 bA8 bC8 hA8 k8
            go_wp2_with fail
            refine q6.mono ?_
            rintro e w9 ⟨rfl, t9⟩
            clear q6 x0 x1 x2 x3 x4 x5 z0 z1 z2 z3 z4 z5
            obtain ⟨hN8, bA8, bC8⟩ := H8.out
            have bk9 := (t9.block (n + 3) (blk_lt hN8.bk) (fun h => h)).trans hN8.bk
            have hN9 := hN8.step t9 (fun b _ h => h.elim) (fun _ _ => rfl) bk9
            have bA9 := (t9.block A1 (blk_lt bA8) (fun h => h)).trans bA8
            have bC9 := (t9.block A3 (blk_lt bC8) (fun h => h)).trans bC8
            obtain ⟨w10, hw10⟩ : ∃ w10, w10 = (((((w9.setCell ⟨n + 3, 1, none⟩ (.int .i64 a.l)).setCell ⟨n + 3, 2, none⟩ (.int .i64 a.x)).setCell ⟨n + 3, 3, none⟩ (.int .i64 a.k)).setCell ⟨n + 3, 4, none⟩ (.int .i64 a.t)).setCell ⟨n + 3, 5, none⟩ (.slice a.oa a.ol a.oc)).setCell ⟨n + 3, 6, none⟩ (.slice a.na a.nl a.nc) := ⟨_, rfl⟩
            obtain ⟨hN10, t10⟩ := hN9.hold hw10
            have bC10 := (t10.block A3 (blk_lt bC9) (ne_ty bC9 bk9 (by decide))).trans bC9
            have q7 := copied_any c2 (DW W c).1 (DW W c).2 w10 hN10.cc.ro hN10.cc.rn
            unfold rcV at q7
            obtain ⟨x0, x1, x2, x3, x4, x5⟩ := box_get bA9
            obtain ⟨z0, z1, z2, z3, z4, z5⟩ := box_get bC10
            obtain ⟨⟨m1, m2, m3, m4, m5, m6⟩, -⟩ := bk_get bk9
            have fm := blk_frozen bk9
            have HW10 : Hid (w10 = _) := hw10
            have H10 : Hid _ := hN10
            clear hN8 bA8 bC8 bk9 hN9 bA9 bC9 hw10 hN10 t10 bC10 t9
            go_upto_region 32 with (fail)
            rw [← HW10.out]
            clear x0 x1 x2 x3 x4 x5 m1 m2 m3 m4 m5 m6 fm
            go_wp2_with fail
            refine q7.mono ?_
            rintro e w11 ⟨c3, rfl, sm3, ow3, t11⟩
            clear q7 z0 z1 z2 z3 z4 z5
            have hN10 := H10.out
            have bk11 := (t11.block (n + 3) (blk_lt hN10.bk) (fun h => h)).trans hN10.bk
            have hN11 := hN10.step (o' := newO o8 w10.heap.size 9) t11 (fun b _ h => h.elim) (fun b hb => newO_lt hb) bk11
            obtain ⟨w12, hw12⟩ : ∃ w12, w12 = (((((w11.setCell ⟨n + 3, 7, none⟩ (.int .i64 c3.l)).setCell ⟨n + 3, 8, none⟩ (.int .i64 c3.x)).setCell ⟨n + 3, 9, none⟩ (.int .i64 c3.k)).setCell ⟨n + 3, 10, none⟩ (.int .i64 c3.t)).setCell ⟨n + 3, 11, none⟩ (.slice c3.oa c3.ol c3.oc)).setCell ⟨n + 3, 12, none⟩ (.slice c3.na c3.nl c3.nc) := ⟨_, rfl⟩
            obtain ⟨hN12, t12⟩ := hN11.wasd hw12
            have cp3 : Cpy W 0 w12 c c3 := (Cpy.keep ⟨hN10.cc.sm.trans sm3, ow3.low (Nat.zero_le _), hN10.cc.ch⟩ t12 (fun b hb e => by
              obtain ⟨cv, hcv⟩ : ∃ cur, w11.heap[b]? = some (.cells cur 76 (0, 0)) := hb.elim (fun e => own_ty ow3.o e) (fun e => own_ty ow3.n e)
              subst e; exact ne_ty hcv bk11 (by decide) rfl))
            have HS : Hid (∃ s', StP V Z W w12 (n + 1) (n + 2) (n + 3) so m sc' (i + 1) s' ∧ s'.ls = s2.ls) := hN12.done cp3 (n := w10.heap.size) (fun b hb => (ow3.lt hb).1) (fun b hb _ => newO_ge hb) (by have := HA8.out; have := I.out.q.a1; omega) (by have := HA8.out; have := I.out.q.a2; omega) HLS.out.1 HLS.out.2
            obtain ⟨-, m1, m2, m3, m4, m5, m6⟩ := bk_get bk11
            have fm := blk_frozen bk11
            have HW12 : Hid (w12 = _) := hw12
            clear hN10 bk11 hN11 hw12 hN12 t12 cp3 sm3 ow3 t11
            go_upto_region 33 with (fail)
            rw [← HW12.out]
            clear m1 m2 m3 m4 m5 m6 fm
            obtain ⟨s9, hs9, -⟩ := HS.out
            have HS9 : Hid _ := hs9
            clear hs9
            cases d with
            | true =>
              go_wp2_with fail
              go_meet
              case rel => exact ⟨so, m, sc', s9, rfl, HS9⟩
            | false =>
              go_wp2_with fail
              go_meet
              case rel => exact ⟨so, m, sc', s9, rfl, HS9⟩
          · skip
            by_cases h3 : p.k = 3
            · as_aux_lemma =>
              have hb1 : (p.k == 1) = false := by simp [h1]
              have hb2 : (p.k == 2) = false := by simp [h2]
              have hb3 : (p.k == 3) = true := by simp [h3]
              have q1 := vheld_any I.out.q.cm.mp
              have q2 := rvheld_any 0 wr (n + 2) s.vL s.vA s.hd s.ls s.nx I.out.q.cr.rv (by have := I.out.q.lt; omega) (fun l hl => by have := I.out.q.cr.lz l hl; omega)
              rw [I.out.q.held] at q1
              obtain ⟨hh, hhh⟩ : ∃ hh, hh = cnt (rsOf s.ls s.nx) s.ls.length := ⟨_, rfl⟩
              rw [← hhh] at q1 q2
              clear hhh
              go_wp2_with fail
              refine q1.mono ?_
              rintro e w2 ⟨rfl, hw2⟩
              subst hw2
              go_wp2_with fail
              refine q2.mono ?_
              rintro e w3 ⟨rfl, t3⟩
              have HS : Hid (StP V Z W w3 (n + 1) (n + 2) (n + 3) so m sc' (i + 1) s) := ⟨(I.out.no t3).q.up (by omega), (I.out.no t3).cs⟩
              clear q1 q2 t3
              go_wp2_with fail
              go_meet
              case rel => exact ⟨so, m, sc', s, rfl, HS⟩
            · skip
              by_cases h4 : p.k = 4
              · as_aux_lemma =>
                have hb1 : (p.k == 1) = false := by simp [h1]
                have hb2 : (p.k == 2) = false := by simp [h2]
                have hb3 : (p.k == 3) = false := by simp [h3]
                have hb4 : (p.k == 4) = true := by simp [h4]
                have q1 := vadd_nil (n + 1) wr
                have q2 := I.out.nilAdd (by omega)
                go_wp2_with fail
                refine q1.mono ?_
                rintro e w2 ⟨rfl, hw2⟩
                subst hw2
                go_wp2_with fail
                refine q2.mono ?_
                rintro e w3 ⟨rfl, s', hq, hcs, hls⟩
                obtain ⟨so', sc2, w4, hr, s2, hst⟩ := hq.nilRow hcs hls (by omega)
                have HS : Hid (StP V Z W w4 (n + 1) (n + 2) (n + 3) so' (m + 1) sc2 (i + 1) s2) := hst
                clear q1 q2 hq hcs hls hst
                go_wp2_with (at_builtin; refine wpList_app _ rfl _ _ 43 rfl rfl _ _ rfl rfl hr ?_)
                go_meet
                case rel => exact ⟨so', m + 1, sc2, s2, rfl, HS⟩
              · as_aux_lemma =>
                have hb1 : (p.k == 1) = false := by simp [h1]
                have hb2 : (p.k == 2) = false := by simp [h2]
                have hb3 : (p.k == 3) = false := by simp [h3]
                have hb4 : (p.k == 4) = false := by simp [h4]
                have HS : Hid (StP V Z W wr (n + 1) (n + 2) (n + 3) so m sc' (i + 1) s) := ⟨I.out.q.up (by omega), I.out.cs⟩
                go_wp2_with fail
                go_meet
                case rel => exact ⟨so, m, sc', s, rfl, HS⟩
      case rest =>
        as_aux_lemma =>
        obtain ⟨so, m, sc', s, rfl, J⟩ := hcut
        obtain ⟨loA, lcA, z1, hchk⟩ := J.out.chk
        have HCH : Hid _ := hchk
        have hm2 : m ≤ 1048580 := by have := J.out.cs.ml; have := J.out.q.lt; omega
        have q5 := still_any (n + 3) (bkC s.rv s.held s.was) s.A s.rv (fun b => s.o b ≠ 3) wc J.out.q.bk rfl J.out.q.cb (by have := J.out.q.a2; omega)
        clear hchk y0 y1
        go_wp2_with fail
        go_loopg [18, 19] m (fun kx s18 s19 wq => ∃ q : Nat, s18 = .int .i64 q ∧ m - q ≤ kx ∧ q ≤ m ∧ wq = wc)
        case atStart => exact ⟨0, rfl, by omega, by omega, rfl⟩
        case round =>
          obtain ⟨q, rfl, hkq, hqm, rfl⟩ := hrel
          by_cases hq : q < m
          · have hq' : (q : Int) < (m : Int) := by omega
            obtain ⟨gA, gr, sb, nq, rfl, rfl, hnq, x1, x2, x3, x4⟩ := HCH.out q hq
            go_wp2_with fail
            go_roundg (m - (q + 1))
            case measure => omega
            case rel => exact ⟨q + 1, rfl, by omega, by omega, rfl⟩
          · have hq' : ¬ (q : Int) < (m : Int) := by omega
            go_wp2_with fail
            refine q5.mono ?_
            rintro e w9 ⟨rfl, hw9⟩
            subst hw9
            clear q5 z1
            go_wp2_with fail
            go_roundg (NN - (i + 1))
            case measure => omega
            case rel => exact ⟨i + 1, so, m, sc', s, rfl, rfl, by omega, by omega, J⟩
    · have hi' : ¬ (i : Int) < (NN : Int) := by omega
      go_wp2
      go_ret
      exact ⟨rfl, HEND.out _ I.out.q.w0⟩
end Go.Proofs.Ytclfaflmjgpbhaa
