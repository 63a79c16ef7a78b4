import Derived.Test.YtjambfbibeihiaaGreatStK
/- ended: what both tell in the end. -/
namespace Go.Proofs.YtjambfbibeihiaaGreat
set_option maxRecDepth 100000
open Go.RowKit Go.ChangeMaps Go.Sort

theorem Ev.box {K : Nat → Prop} {w w' : World} {ω ω' : Nat → Nat} {B : Nat} {o : Obj} (e : Ev K w ω w' ω') (h : w.heap[B]? = some o) (hk : ¬ K (ω B)) : w'.heap[B]? = some o ∧ ω' B = ω B :=
  ⟨(e.tch.block B (blk_lt h) hk).trans h, (e.old B (blk_lt h)).elim id (fun e => absurd e.1 hk)⟩
theorem getL_of_mem {m : List (Nm × Fl)} {p : Nm × Fl} (h : p ∈ m) : ∃ f, getL p.1 m = some f := by
  cases hg : getL p.1 m with
  | some f => exact ⟨f, rfl⟩
  | none =>
    exfalso
    unfold getL at hg
    rw [Option.map_eq_none_iff] at hg
    have := List.find?_eq_none.1 hg p h
    simp at this
theorem torn_read {d : Dsk} {K : Nm → Nat} {n : Nm} (hn : n ∈ d.m.map (·.1)) (ho : okN n = true) : ((d.torn K).size n).2 = 0 ∧ ((d.torn K).read n 0 ((d.torn K).size n).1).2 = 0 := by
  obtain ⟨p, hp, rfl⟩ := List.mem_map.1 hn
  have hp' : (p.1, keepF K p.1 p.2) ∈ (d.torn K).m := List.mem_map.2 ⟨p, hp, rfl⟩
  obtain ⟨f, hf⟩ := getL_of_mem hp'
  have ha : (d.torn K).ask p.1 = 0 := by
    unfold Dsk.ask Dsk.refuse
    have hd : (d.torn K).dead = false := rfl
    simp only [] at hf
    rw [ho, hd, hf]; rfl
  unfold Dsk.size Dsk.read
  simp only [ha, ne_eq, not_true_eq_false, if_false]
  refine ⟨trivial, ?_⟩
  rw [if_neg (by omega)]

theorem size_le {d : Dsk} (h : Bd d) (n : Nm) : (d.size n).1 ≤ 9223372036854775807 := by
  unfold Dsk.size
  split
  · simp
  · show ((d.file n).bs.length : Int) ≤ _
    unfold Dsk.file
    cases hg : getL n d.m with
    | none => simp
    | some f =>
      have h1 := h.room
      have h2 := h.cap
      have h3 : f.bs.length ≤ d.used := sumF_mem lenF (getL_mem hg)
      simp only [Option.getD_some]
      omega
theorem nm_ok {n : Nm} (h : okN n = true) : n.length ≤ 40 := by
  unfold okN at h
  simp at h
  omega

def Ended (w : World) (ω : Nat → Nat) (bb T k : Nat) (w' : World) : Prop := ∃ ω' hN wN hF wF, BO w' ω' bb (T + 2) hN wN hF wF ∧ Ev (KS k) w ω w' ω' ∧ K0 w ω w' ω'
set_option maxHeartbeats 2000000 in
theorem ended_any {w : World} {ω : Nat → Nat} {bb T k db rb : Nat} {d : Dsk} {c : Int} {hN wN hF wF : Value} (hb : BO w ω bb T hN wN hF wF) (hp : PR w ω k db rb d) (hk : 1 ≤ k ∧ k ≤ 3) (hl : d.m.length + 20 ≤ 1099511627776) (hT : T + 1 ≤ 4294967296) (hnk : Nok d) :
    Calls Tryz.prog 8 #[pairV db rb c, .pointer (some ⟨bb, 0, none⟩)] w fun x w' => x = .returned (.bool true) ∧ Ended w ω bb T k w' := by
  obtain ⟨B, hB⟩ : ∃ B, B = w.heap.size := ⟨_, rfl⟩
  obtain ⟨w0, hw0⟩ : ∃ w0, w0 = w.alloc (.cells (pairC db rb c) 26) := ⟨_, rfl⟩
  have t0 : Tch (fun _ => False) w w0 := by rw [hw0]; exact Tch.alloc _ _ _
  have e0 : Ev (fun i => i = 0) w ω w0 (ext ω w.heap.size 0) := Ev.ofNo 0 rfl t0
  have b0 : w0.heap[B]? = some (.cells (pairC db rb c) 26 (0, 0)) := by rw [hw0, hB]; exact box_one w _
  have o0 : ext ω w.heap.size 0 B = 0 := ext_ge (by omega)
  have hb0 := hb.ev e0 (fun i h1 _ h => by omega)
  have hp0 := hp.ev e0 (by omega) (by omega)
  obtain ⟨ω0, hω0⟩ : ∃ ω0, ω0 = ext ω w.heap.size 0 := ⟨_, rfl⟩
  rw [← hω0] at e0 o0 hb0 hp0
  have E0 : Ev (KS k) w ω w0 ω0 := e0.mono (fun i h => Or.inl h)
  have Z0 : K0 w ω w0 ω0 := by rw [hω0]; exact K0.start t0
  clear e0 hω0 t0 hb hp
  have cells0 : ∀ W : World, W.heap[B]? = some (.cells (pairC db rb c) 26 (0, 0)) → W.cell? ⟨B, 0, none⟩ = some (.pointer (some ⟨db, 0, none⟩)) ∧ W.cell? ⟨B, 1, none⟩ = some (.pointer (some ⟨rb, 0, none⟩)) ∧ W.cell? ⟨B, 2, none⟩ = some (.int .i64 c) := fun W h => ⟨by rw [blk_cell h]; rfl, by rw [blk_cell h]; rfl, by rw [blk_cell h]; rfl⟩
  have HC : Hid _ := cells0
  obtain ⟨c0, c1, c2⟩ := cells0 _ b0
  clear cells0
  have HW0 : Hid (w0 = w.alloc (.cells (pairC db rb c) 26) ∧ B = w.heap.size) := ⟨hw0, hB⟩
  clear hw0 hB
  go_enter Tryz.func8, Tryz.ntmps8
  go_wp2_with fail
  rw [← HW0.out.1, ← HW0.out.2]
  refine (asks_files bb T k db rb d c 0 0 false ⟨#[]⟩ ⟨#[]⟩ none 0 0 hN wN hF wF ω0 w0 hb0 (by omega) hp0 hk hl).mono ?_
  rintro x w1 ⟨rfl, ω1, hN1, wN1, hF1, wF1, hb1, hp1, e1⟩
  obtain ⟨b1, o1⟩ := e1.box b0 (by rw [o0]; show ¬ 5 ≤ 0; omega)
  rw [o0] at o1
  have E1 : Ev (KS k) w ω w1 ω1 := E0.trans (e1.mono (fun i h => Or.inr (Or.inr (Or.inr h))))
  have Z1 := Z0.ev e1 (by show ¬ 5 ≤ 0; omega) E0.tch.size
  clear c0 c1 c2 b0 o0 hb0 hp0 e1 E0 Z0
  obtain ⟨c0, c1, c2⟩ := HC.out _ b1
  go_wp2_with fail
  refine (asks_list bb (T + 1) k db rb d c 0 0 false ⟨#[]⟩ ⟨#[]⟩ none 0 0 hN1 wN1 hF1 wF1 ω1 w1 hb1 (by omega) hp1 hk hl).mono ?_
  rintro x w2 ⟨rfl, ω2, hN2, wN2, hF2, wF2, hb2, hp2, e2⟩
  obtain ⟨b2, o2⟩ := e2.box b1 (by rw [o1]; show ¬ 5 ≤ 0; omega)
  rw [o1] at o2
  have E2 : Ev (KS k) w ω w2 ω2 := E1.trans (e2.mono (fun i h => Or.inr (Or.inr (Or.inr h))))
  have Z2 := Z1.ev e2 (by show ¬ 5 ≤ 0; omega) E1.tch.size
  clear c0 c1 c2 b1 o1 hb1 hp1 e2 E1 Z1
  obtain ⟨c0, c1, c2⟩ := HC.out _ b2
  obtain ⟨rv, acts, hR, hR'⟩ := id hp2.rf
  have hrl := rlist_any rb d rv acts w2 hR (by omega)
  obtain ⟨n, hn⟩ : ∃ n, n = d.m.length := ⟨_, rfl⟩
  rw [← hn] at hrl
  have Hn : Hid (n = d.m.length) := hn
  have hnb : n ≤ 1099511627776 := by omega
  clear hn
  go_wp2_with fail
  refine hrl.mono ?_
  rintro x w3 ⟨lv, rfl, hown, t3⟩
  have e3 : Ev (fun i => i = 0) w2 ω2 w3 (ext ω2 w2.heap.size 0) := Ev.ofNo 0 rfl t3
  have L3 : LO w3 (ext ω2 w2.heap.size 0) 0 9 1 lv n _ := LO.fresh 0 hown
  have b3 : w3.heap[B]? = some (.cells (pairC db rb c) 26 (0, 0)) := (t3.block B (blk_lt b2) (fun h => h)).trans b2
  have o3 : ext ω2 w2.heap.size 0 B = 0 := by rw [ext_lt (blk_lt b2)]; exact o2
  have hb3 := hb2.ev e3 (fun i h1 _ h => by omega)
  have hp3 := hp2.ev e3 (by omega) (by omega)
  have E3 : Ev (KS k) w ω w3 (ext ω2 w2.heap.size 0) := E2.trans (e3.mono (fun i h => Or.inl h))
  have Z3 : K0 w ω w3 (ext ω2 w2.heap.size 0) := Z2.zero t3 (fun _ h => h.elim) E2.tch.size
  obtain ⟨ω3, hω3⟩ : ∃ ω3, ω3 = ext ω2 w2.heap.size 0 := ⟨_, rfl⟩
  rw [← hω3] at L3 o3 hb3 hp3 E3 Z3
  rw [scl_names] at L3
  obtain ⟨ns, hns⟩ : ∃ ns, ns = d.m.map (·.1) := ⟨_, rfl⟩
  have hnl : ns.length = n := by rw [hns, Hn.out]; simp
  rw [← hns] at L3
  rw [hnl] at L3
  obtain ⟨nI, hnI⟩ : ∃ nI : Nat → ByteArray, nI = fun i => ⟨(ns.getD i []).toArray⟩ := ⟨_, rfl⟩
  rw [← hnI] at L3
  have HNI : Hid (∀ i, i < n → (nI i).data.toList ∈ d.m.map (·.1) ∧ okN (nI i).data.toList = true) := fun i hi => by
    have h1 : (nI i).data.toList = ns[i]'(by omega) := by rw [hnI]; simp [show i < ns.length by omega]
    have h2 : ns[i]'(by omega) ∈ d.m.map (·.1) := by rw [← hns]; exact List.getElem_mem _
    rw [h1]
    refine ⟨h2, ?_⟩
    obtain ⟨q, hq, e⟩ := List.mem_map.1 h2
    rw [← e]; exact hnk q hq
  obtain ⟨lo, lc, hlv⟩ := rowN_of L3.1
  subst hlv
  clear c0 c1 c2 b2 o2 hb2 hp2 e3 E2 hω3 t3 hown hR hR' hnI hns hnl hrl
  have HB3 : Hid (∀ W, Tch (fun _ => False) w3 W → W.cell? ⟨B, 0, none⟩ = some (.pointer (some ⟨db, 0, none⟩)) ∧ W.cell? ⟨B, 1, none⟩ = some (.pointer (some ⟨rb, 0, none⟩)) ∧ W.cell? ⟨B, 2, none⟩ = some (.int .i64 c)) := fun W t => HC.out W ((t.block B (blk_lt b3) (fun h => h)).trans b3)
  have HL3 : Hid (∀ W, Tch (fun _ => False) w3 W → SLs W lo n nI) := fun W t => (L3.tch t (fun _ _ h => h.elim)).sls
  have hBd := Bd.of hp3.df (by omega)
  have HD : Hid (∀ W, Tch (fun _ => False) w3 W → DF W db d (oth ω3 k w3)) := fun W t => hp3.df.no t
  have HR : Hid (∀ W, Tch (fun _ => False) w3 W → RF W rb d (oth ω3 (k + 1) w3)) := fun W t => hp3.rf.no t
  go_wp2_with fail
  go_loopw [6, 8] (fun y i wr => ∃ j : Nat, i = .int .i64 j ∧ y = .bool true ∧ j ≤ n ∧ ∃ q, wr = w3.drewN q) (fun _ i _ => n - (intOf i).toNat)
  case atStart => exact ⟨0, rfl, rfl, by omega, 0, rfl⟩
  case round =>
    obtain ⟨j, rfl, rfl, hj, q, hwr⟩ := hrel
    have tq : Tch (fun _ => False) w3 wr := by rw [hwr]; exact (Tch.refl _ w3).drewN q
    have HQ : Hid (wr = w3.drewN q) := hwr
    clear hwr
    obtain ⟨c0, c1, c2⟩ := HB3.out wr tq
    by_cases hjn : (j : Int) < n
    · obtain ⟨lg, lf, rfl, hlc⟩ := HL3.out wr tq j (by omega)
      obtain ⟨hm1, hm2⟩ := HNI.out j (by omega)
      have hz : (nI j).size ≤ maxLen := by have := nm_ok hm2; unfold maxLen; simp at this; omega
      obtain ⟨nm, hnm⟩ : ∃ nm, nm = nI j := ⟨_, rfl⟩
      rw [← hnm] at hlc hz
      have H1 : Hid (∀ q, _) := fun q => pending_f db d _ (wr.drewN q) nm (HD.out (wr.drewN q) (tq.drewN q)) hz
      have H2 : Hid (∀ q, _) := fun q => rpending_f rb d _ (wr.drewN q) nm (HR.out (wr.drewN q) (tq.drewN q)) hBd
      generalize (d.pending nm.data.toList : Int) = X at *
      clear hm1 hm2 hnm
      go_wp2_with fail
      go_quiet ((first | (go_at_call 35; exact Calls.quiet_of (H1.out _)) | (go_at_call 29; exact Calls.quiet_of (H2.out _))))
      go_wp2_with fail
      go_roundw
      case rel => exact ⟨j + 1, by go_num, by first | rfl | trivial, by omega, q + nq, by rw [HQ.out, World.drewN_drewN]⟩
      case measure => simp [intOf]; omega
    · have hp4 := hp3.drewN q
      rw [← HQ.out] at hp4
      clear HL3 HD HR
      have hb4 := hb3.ev ((Ev.refl (fun _ => False) w3 ω3).drewN q) (fun _ _ _ h => h)
      rw [← HQ.out] at hb4
      have L4 := L3.drewN q
      rw [← HQ.out] at L4
      have b4 : wr.heap[B]? = some (.cells (pairC db rb c) 26 (0, 0)) := (tq.block B (blk_lt b3) (fun h => h)).trans b3
      have E4 := E3.drewN q
      rw [← HQ.out] at E4
      have Z4 := Z3.ev ((Ev.refl (fun _ => False) w3 ω3).drewN q) (fun h => h) E3.tch.size
      rw [← HQ.out] at Z4
      have hcr := crashes_any k db rb d c none 0 0 (fun _ => ⟨#[]⟩) (fun _ => 0) ω3 wr hp4 hk (by omega) (fun i hi => by omega) (fun a h1 _ => by omega) (fun _ => ⟨rfl, rfl⟩) (by omega)
      clear hb3 hp3 L3 b3 E3 HB3 hp4
      go_wp2_with fail
      refine hcr.mono ?_
      rintro x w5 ⟨rfl, ω5, d5, hp5, ⟨hl5, hn5, e, hres⟩, e5⟩
      clear hcr c0 c1 c2
      obtain ⟨K5, hK5⟩ : ∃ K, d5 = d.torn K := by
        rcases hres with ⟨⟨j, hj, _⟩, _⟩ | ⟨_, _, h⟩
        · omega
        · exact ⟨_, h⟩
      obtain ⟨b5, o5⟩ := e5.box b4 (by rw [o3]; omega)
      have L5 := L4.ev e5 (by omega)
      have hb5 := hb4.ev e5 (fun i h1 h2 h => by omega)
      have E5 : Ev (KS k) w ω w5 ω5 := E4.trans (e5.mono (fun i h => by rcases h with h | h | h <;> omega))
      have Z5 := Z4.ev e5 (by omega) E4.tch.size
      have hBd5 := Bd.of hp5.df (by omega)
      have HSz : Hid (∀ j, j < n → ((nI j).size ≤ maxLen ∧ (d5.size (nI j).data.toList).1 ≤ 9223372036854775807) ∧ (d5.read (nI j).data.toList 0 (d5.size (nI j).data.toList).1).2 = 0) := fun j hj => by
        obtain ⟨h1, h2⟩ := HNI.out j hj
        refine ⟨⟨by have := nm_ok h2; unfold maxLen; simp at this; omega, size_le hBd5 _⟩, ?_⟩
        rw [hK5]; exact (torn_read h1 h2).2
      have HB5 : Hid (∀ W, Tch (fun _ => False) w5 W → W.cell? ⟨B, 0, none⟩ = some (.pointer (some ⟨db, 0, none⟩)) ∧ W.cell? ⟨B, 1, none⟩ = some (.pointer (some ⟨rb, 0, none⟩)) ∧ W.cell? ⟨B, 2, none⟩ = some (.int .i64 c)) := fun W t => HC.out W ((t.block B (blk_lt b5) (fun h => h)).trans b5)
      have HL5 : Hid (∀ W, Tch (fun _ => False) w5 W → SLs W lo n nI) := fun W t => (L5.tch t (fun _ _ h => h.elim)).sls
      have HD : Hid (∀ W, Tch (fun _ => False) w5 W → DF W db d5 (oth ω5 k w5)) := fun W t => hp5.df.no t
      have HR : Hid (∀ W, Tch (fun _ => False) w5 W → RF W rb d5 (oth ω5 (k + 1) w5)) := fun W t => hp5.rf.no t
      have HE5 : Hid (∀ q, Ended w ω bb T k (w5.drewN q)) := fun q => ⟨ω5, _, _, _, _, hb5.ev ((Ev.refl (fun _ => False) w5 ω5).drewN q) (fun _ _ _ h => h), E5.drewN q, Z5.ev ((Ev.refl (fun _ => False) w5 ω5).drewN q) (fun h => h) E5.tch.size⟩
      clear hb4 L4 b4 E4 b5 o5 L5 hb5 E5 hp5 hK5 hres e5 hn5 o3 tq HQ HNI
      go_wp2_with fail
      go_loopw [9, 10] (fun z i wr => ∃ j : Nat, i = .int .i64 j ∧ z = .bool true ∧ j ≤ n ∧ ∃ q, wr = w5.drewN q) (fun _ i _ => n - (intOf i).toNat)
      case atStart => exact ⟨0, rfl, rfl, by omega, 0, rfl⟩
      case round =>
        obtain ⟨j, rfl, rfl, hj, q, hwr⟩ := hrel
        have tq : Tch (fun _ => False) w5 wr := by rw [hwr]; exact (Tch.refl _ w5).drewN q
        have HQ : Hid (wr = w5.drewN q) := hwr
        clear hwr
        by_cases hjn : (j : Int) < n
        · obtain ⟨⟨hz, hsz⟩, hrd⟩ := HSz.out j (by omega)
          obtain ⟨c0, c1, c2⟩ := HB5.out wr tq
          obtain ⟨lg, lf, rfl, hlc⟩ := HL5.out wr tq j (by omega)
          obtain ⟨nm, hnm⟩ : ∃ nm, nm = nI j := ⟨_, rfl⟩
          rw [← hnm] at hlc hz hsz hrd
          have HLC : Hid (∀ W, Tch (fun _ => False) w5 W → W.cell? ⟨lg, lf + j, none⟩ = some (.string nm)) := fun W t => by
            obtain ⟨lg', lf', e1, e2⟩ := HL5.out W t j (by omega)
            injection e1 with e1
            injection e1 with e1 e3
            subst e1 e3
            rw [hnm]; exact e2
          clear hnm
          have H1 : Hid (∀ q, _) := fun q => rsize_f rb d5 _ (wr.drewN q) nm (HR.out (wr.drewN q) (tq.drewN q)) hBd5
          have H2 : Hid (∀ W, Tch (fun _ => False) w5 W → _) := fun W t => read_f db d5 _ W nm 0 (d5.size nm.data.toList).1 (HD.out W t) hsz
          have H3 : Hid (∀ W, Tch (fun _ => False) w5 W → _) := fun W t => rread_f rb d5 _ W nm 0 (d5.size nm.data.toList).1 (HR.out W t) hBd5 (by omega) hsz
          rw [hrd] at H2 H3
          generalize (d5.size nm.data.toList).1 = Z1 at *
          generalize (d5.size nm.data.toList).2 = Z2 at *
          generalize (⟨(d5.read nm.data.toList 0 Z1).1.toArray⟩ : ByteArray) = RD at *
          clear hrd hz hsz
          have twr : Tch (fun _ => False) w5 wr := tq
          have HQwr : Hid (∃ q, wr = w5.drewN q) := ⟨q, HQ.out⟩
          clear tq HQ
          go_wp2_with fail
          go_quiet ((go_at_call 36; exact Calls.quiet_of (H1.out _)))
          obtain ⟨wx, hwx⟩ : ∃ W, W = wr.drewN nq := ⟨_, rfl⟩
          have twx : Tch (fun _ => False) w5 wx := by rw [hwx]; exact twr.drewN nq
          have HQwx : Hid (∃ q, wx = w5.drewN q) := by obtain ⟨q0, hq0⟩ := HQwr.out; exact ⟨q0 + nq, by rw [hwx, hq0, World.drewN_drewN]⟩
          rw [← hwx]
          clear hwx c0 c1 c2 hlc twr HQwr H1
          obtain ⟨c0, c1, c2⟩ := HB5.out wx twx
          have hlc := HLC.out wx twx
          have H2x : Hid (∀ q, _) := fun q => H2.out (wx.drewN q) (twx.drewN q)
          go_wp2_with fail
          go_quiet ((go_at_call 37; exact Calls.quiet_of_same (H2x.out _)))
          obtain ⟨wy, hwy⟩ : ∃ W, W = wx.drewN nq := ⟨_, rfl⟩
          have twy : Tch (fun _ => False) w5 wy := by rw [hwy]; exact twx.drewN nq
          have HQwy : Hid (∃ q, wy = w5.drewN q) := by obtain ⟨q0, hq0⟩ := HQwx.out; exact ⟨q0 + nq, by rw [hwy, hq0, World.drewN_drewN]⟩
          rw [← hwy]
          clear hwy c0 c1 c2 hlc twx HQwx H2x
          obtain ⟨c0, c1, c2⟩ := HB5.out wy twy
          have hlc := HLC.out wy twy
          have H3x : Hid (∀ q, _) := fun q => H3.out (wy.drewN q) (twy.drewN q)
          go_wp2_with fail
          go_quiet ((go_at_call 38; exact Calls.quiet_of (H3x.out _)))
          obtain ⟨wz, hwz⟩ : ∃ W, W = wy.drewN nq := ⟨_, rfl⟩
          have twz : Tch (fun _ => False) w5 wz := by rw [hwz]; exact twy.drewN nq
          have HQwz : Hid (∃ q, wz = w5.drewN q) := by obtain ⟨q0, hq0⟩ := HQwy.out; exact ⟨q0 + nq, by rw [hwz, hq0, World.drewN_drewN]⟩
          rw [← hwz]
          clear hwz c0 c1 c2 hlc twy HQwy H3x
          obtain ⟨c0, c1, c2⟩ := HB5.out wz twz
          have hlc := HLC.out wz twz
          obtain ⟨q9, hq9⟩ := HQwz.out
          have HQ9 : Hid (wz = w5.drewN q9) := hq9
          clear hq9
          go_wp2_with fail
          go_roundw
          case rel => exact ⟨j + 1, by go_num, by first | rfl | trivial, by omega, q9, HQ9.out⟩
          case measure => simp [intOf]; omega
        · have k1 := HE5.out q
          rw [← HQ.out] at k1
          go_wp2_with fail
          go_ret
          exact ⟨rfl, k1⟩
end Go.Proofs.YtjambfbibeihiaaGreat
