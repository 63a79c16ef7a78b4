import Derived.Test.YtkcmpipipelgoaaD2
import Derived.Test.YtkcmpipipelgoaaHList
/- The document's list grows; Gone. -/
namespace Go.Proofs.Ytkcmpipipelgoaa
open Go.RowKit Go
set_option maxRecDepth 100000

theorem info_nt : (Try.prog.info? 89).map (fun i => (i.zero, i.size, i.bytes)) = some (some (.agg #[.int .i64 0, .int .i64 0, .bool false, .int .i64 0, .int .i64 0, .string ⟨#[]⟩, .slice none 0 0, .int .i64 0]), 8, 88) := by kernel_rfl
theorem Dn.one (n : Dn) : ∀ u ∈ n.cs, u.oneCell' = true := fun u hu => by
  simp only [Dn.cs, List.mem_cons, List.not_mem_nil, or_false] at hu
  rcases hu with rfl | rfl | rfl | rfl | rfl | rfl | rfl | rfl <;> rfl
theorem ncl_snoc (L : List Dn) (n : Dn) : ncl (L ++ [n]) = ncl L ++ n.cs := by rw [ncl_append]; simp [ncl]
/-- A list of notes, its owner's, by one more. -/
theorem notes_app {w : World} {base : Nat} {lo : Option Addr} {lc : Nat} {L : List Dn} (h : w.ownsRow base 89 8 (.slice lo L.length lc) L.length (ncl L)) (n : Dn) (hl : L.length ≤ 1099511627776) (hb : base ≤ w.heap.size) :
    ∃ o c w', (Builtin.append_ #[84, 84] 84 #[.slice lo L.length lc, .slice (some ⟨w.heap.size, 0, none⟩) 1 1]).run Try.prog (w.alloc (.cells #[.int .i64 n.l, .int .i64 n.i, .bool n.g, .int .i64 n.t.id, .int .i64 n.t.ver, .string n.t.nm, .slice n.ao n.t.cols.length n.c, .int .i64 n.t.key] 89)) = .ok (.slice o (L.length + 1) c) w'
      ∧ w'.ownsRow base 89 8 (.slice o (L.length + 1) c) (L.length + 1) (ncl (L ++ [n])) ∧ Tch (fun g => ob lo = some g) w w' ∧ (ob o = ob lo ∨ ∃ g, ob o = some g ∧ w.heap.size ≤ g ∧ g < w'.heap.size) := by
  obtain ⟨i0, hi0, hz0, hz1, hz2⟩ := info_parts info_nt
  obtain ⟨w6, hw6⟩ : ∃ w6, w6 = w.alloc (.cells n.cs.toArray 89) := ⟨_, rfl⟩
  have t6 : Tch (fun _ => False) w w6 := by rw [hw6]; exact Tch.alloc _ _ _
  have b6 : w6.heap[w.heap.size]? = some (.cells n.cs.toArray 89 (0, 0)) := by rw [hw6]; exact alloc_new _ _
  have ho6 : w6.ownsRow base 89 8 (.slice lo L.length lc) L.length (ncl L) := own_tch h t6 (fun _ _ e => e)
  obtain ⟨v7, w7, hr7, hown7, hgr7, _, hat7⟩ := run_append_own_at (P := Try.prog) w6 base 84 84 89 i0 _ 8 88 Try.underlying84 hi0 hz0 hz1 hz2 rfl (by decide) _ _ _ ho6 ⟨w.heap.size, 0, none⟩ 1 1 n.cs rfl (fun j u hu => by rw [add_plain, Nat.zero_add, blk_cell b6, List.getElem?_toArray]; exact hu) n.one (by unfold maxLen; omega) (by omega) (by have := t6.size; omega)
  obtain ⟨o7, c7, rfl⟩ := row_slice hown7
  refine ⟨o7, c7, w7, ?_, ?_, ?_, ?_⟩
  · rw [hw6] at hr7; exact hr7
  · rw [ncl_snoc]; exact hown7
  · have t7 : Tch (fun g => (Value.slice lo L.length lc).ownBlock = some g) w6 w7 := Tch.of_grown hgr7 (fun g e => e)
    exact (t6.mono (fun _ _ e => e.elim)).trans (t7.mono (fun g _ e => by rw [ob_eq] at e; exact e)) (fun g _ e => e)
  · rw [ob_eq, ob_eq] at hat7
    rcases hat7 with e | e
    · exact .inl e
    · refine .inr ⟨_, e, t6.size, (hown7.lt _ (by rw [ob_eq]; exact e)).2⟩
/-- The last position is written. -/
theorem DW.last {w : World} {F : Nat → Prop} {b : Nat} {lo : Option Addr} {lc : Nat} {h : Dh} (H : DW w F b lo lc h) (x : Int) : DW (w.setCell ⟨b, 1, none⟩ (.int .i64 x)) F b lo lc ⟨h.b, x, h.L⟩ := by
  have t : Tch (fun g => g = b) w (w.setCell ⟨b, 1, none⟩ (.int .i64 x)) := Tch.setCell (fun g => g = b) w ⟨b, 1, none⟩ _ rfl
  refine ⟨by rw [blk_set (i := 1) H.blk]; rfl, own_tch H.own t (fun g e e2 => ?_), H.fb, fun g e => ⟨(H.fl g e).1, (H.fl g e).2.1, Nat.lt_of_lt_of_le (H.fl g e).2.2 t.size⟩, fun n hn => (H.nt n hn).tch t (fun g _ e => .inr (.inl e))⟩
  rw [ob_eq] at e
  exact (H.fl g e).2.1 e2
/-- The list has grown by a note, and is laid down again. -/
theorem DW.grown {w w' : World} {F : Nat → Prop} {b : Nat} {lo o : Option Addr} {lc c : Nat} {h : Dh} (H : DW w F b lo lc h) (n : Dn) (hn : NtIn w (own2 F b lo) n.nt) (hF : ∀ g, F g → g < w.heap.size)
    (ho : w'.ownsRow 0 89 8 (.slice o (h.L.length + 1) c) (h.L.length + 1) (ncl (h.L ++ [n]))) (t : Tch (fun g => ob lo = some g) w w') (hat : ob o = ob lo ∨ ∃ g, ob o = some g ∧ w.heap.size ≤ g ∧ g < w'.heap.size) :
    DW (w'.setCell ⟨b, 2, none⟩ (.slice o (h.L.length + 1) c)) F b o c ⟨h.b, h.l, h.L ++ [n]⟩ := by
  have hbl := blk_lt H.blk
  have b' : w'.heap[b]? = some (.cells #[.int .i64 h.b, .int .i64 h.l, .slice lo h.L.length lc] 86 (0, 0)) := (t.block b hbl (fun e => (H.fl b e).2.1 rfl)).trans H.blk
  have t2 : Tch (fun g => g = b) w' (w'.setCell ⟨b, 2, none⟩ (.slice o (h.L.length + 1) c)) := Tch.setCell (fun g => g = b) w' ⟨b, 2, none⟩ _ rfl
  have hlen : (h.L ++ [n]).length = h.L.length + 1 := by simp
  have hoF : ∀ g, ob o = some g → ¬ F g ∧ g ≠ b ∧ g < w'.heap.size := fun g e => by
    rcases hat with e1 | ⟨g', e1, e2, e3⟩
    · rw [e1] at e
      exact ⟨(H.fl g e).1, (H.fl g e).2.1, Nat.lt_of_lt_of_le (H.fl g e).2.2 t.size⟩
    · rw [e1] at e
      injection e with e
      subst e
      exact ⟨fun e4 => by have := hF _ e4; omega, by omega, e3⟩
  have hnt : ∀ m : Dn, NtIn w (own2 F b lo) m.nt → NtIn (w'.setCell ⟨b, 2, none⟩ (.slice o (h.L.length + 1) c)) (own2 F b o) m.nt := fun m hm => by
    have h1 := hm.tch t (fun g _ e => .inr (.inr e))
    have h2 := h1.tch t2 (fun g _ e => .inr (.inl e))
    refine ⟨h2.sl, h2.no, h2.le, fun g q e => ⟨fun e2 => ?_, (h2.nf g q e).2⟩⟩
    have h3 := hm.nf g q e
    rcases e2 with e2 | e2 | e2
    · exact h3.1 (.inl e2)
    · exact h3.1 (.inr (.inl e2))
    · rcases hat with e4 | ⟨g', e4, e5, _⟩
      · exact h3.1 (.inr (.inr (by rw [← e4]; exact e2)))
      · rw [e4] at e2
        injection e2 with e2
        have := h3.2
        omega
  refine ⟨?_, ?_, H.fb, fun g e => ⟨(hoF g e).1, (hoF g e).2.1, Nat.lt_of_lt_of_le (hoF g e).2.2 t2.size⟩, fun m hm => ?_⟩
  · have e1 : (w'.setCell ⟨b, 2, none⟩ (.slice o (h.L.length + 1) c)).heap[b]? = some (.cells #[.int .i64 h.b, .int .i64 h.l, .slice o (h.L ++ [n]).length c] 86 (0, 0)) := by
      rw [hlen, blk_set (i := 2) b']
      rfl
    exact e1
  · show World.ownsRow _ 0 89 8 (.slice o (h.L ++ [n]).length c) (h.L ++ [n]).length (ncl (h.L ++ [n]))
    rw [hlen]
    exact own_tch ho t2 (fun g e e2 => by rw [ob_eq] at e; exact (hoF g e).2.1 e2)
  · have hm' : m ∈ h.L ++ [n] := hm
    rcases List.mem_append.1 hm' with e | e
    · exact hnt m (H.nt m e)
    · rw [List.mem_singleton.1 e]; exact hnt n hn
/-- A note is laid behind the list. -/
theorem DW.note {w : World} {F : Nat → Prop} {b : Nat} {lo : Option Addr} {lc : Nat} {h : Dh} (H : DW w F b lo lc h) (n : Dn) (hn : NtIn w (own2 F b lo) n.nt) (hF : ∀ g, F g → g < w.heap.size) (hl : h.L.length ≤ 1099511627776) :
    ∃ o c w', (Builtin.append_ #[84, 84] 84 #[.slice lo h.L.length lc, .slice (some ⟨w.heap.size, 0, none⟩) 1 1]).run Try.prog (w.alloc (.cells #[.int .i64 n.l, .int .i64 n.i, .bool n.g, .int .i64 n.t.id, .int .i64 n.t.ver, .string n.t.nm, .slice n.ao n.t.cols.length n.c, .int .i64 n.t.key] 89)) = .ok (.slice o (h.L.length + 1) c) w'
      ∧ w'.cell? ⟨b, 2, none⟩ = some (.slice lo h.L.length lc) ∧ (∀ i, w'.frozen? ⟨b, i, none⟩ = false) ∧ DW (w'.setCell ⟨b, 2, none⟩ (.slice o (h.L.length + 1) c)) F b o c ⟨h.b, h.l, h.L ++ [n]⟩ ∧ Tch (fun g => ¬ F g) w (w'.setCell ⟨b, 2, none⟩ (.slice o (h.L.length + 1) c)) := by
  obtain ⟨o, c, w', hr, ho, t, hat⟩ := notes_app H.own n hl (Nat.zero_le _)
  have b' : w'.heap[b]? = some (.cells #[.int .i64 h.b, .int .i64 h.l, .slice lo h.L.length lc] 86 (0, 0)) := (t.block b (blk_lt H.blk) (fun e => (H.fl b e).2.1 rfl)).trans H.blk
  have t1 : Tch (fun g => ¬ F g) w w' := t.mono (fun g _ e => (H.fl g e).1)
  exact ⟨o, c, w', hr, blk_cell b' 2, blk_frozen b', H.grown n hn hF ho t hat, t1.setCellR ⟨b, 2, none⟩ _ H.fb⟩
def dgoneE (h : Dh) (x i : Int) : Int := if x ≤ h.l then 171 else if (dwas h.L h.l i).th = true then 0 else 170
/-- The document's note that says gone. -/
def dnG (x i : Int) : Dn := ⟨x, i, true, tblZ, none, 0⟩
def Dh.gone (h : Dh) (x i : Int) : Dh := if dgoneE h x i = 0 then ⟨h.b, x, h.L ++ [dnG x i]⟩ else h
theorem dnG_in (w : World) (G : Nat → Prop) (x i : Int) : NtIn w G (dnG x i).nt := ⟨SL.nil _ _, fun _ => ⟨rfl, rfl⟩, Nat.zero_le _, fun g o e => by cases e⟩

set_option maxHeartbeats 2000000 in
theorem dgone_f {w : World} {F : Nat → Prop} {b : Nat} {h : Dh} (H : DF w F b h) (x i : Int) (hl : h.L.length ≤ 1099511627776) (hFl : ∀ g, F g → g < w.heap.size) :
    Calls Try.prog 33 #[.pointer (some ⟨b, 0, none⟩), .int .i64 x, .int .i64 i] w fun r w' => r = .returned (.int .i64 (dgoneE h x i)) ∧ DF w' F b (h.gone x i) ∧ Tch (fun g => ¬ F g) w w' := by
  obtain ⟨lo, lc, H⟩ := H
  have q1 := newest_w H h.l i (by omega)
  have HE : Hid (dgoneE h x i = if x ≤ h.l then 171 else if (dwas h.L h.l i).th = true then 0 else 170) := rfl
  have HG : Hid (h.gone x i = if dgoneE h x i = 0 then ⟨h.b, x, h.L ++ [dnG x i]⟩ else h) := rfl
  have HH : Hid (DW w F b lo lc h) := H
  have HFl : Hid (∀ g, F g → g < w.heap.size) := hFl
  have HK : Hid (nwK h.L h.l i ≤ h.L.length) := nwK_le _ _ _
  have HSL : Hid (∀ (S : Nat → Prop) W, Tch S w W → (∀ g, g < w.heap.size → S g → ¬ F g) → Tch (fun g => ¬ F g) w W) := fun S W tW hS => tW.mono hS
  have c1 : w.cell? ⟨b, 1, none⟩ = some (.int .i64 h.l) := blk_cell H.blk 1
  have c2 : w.cell? ⟨b, 2, none⟩ = some (.slice lo h.L.length lc) := blk_cell H.blk 2
  have cf := blk_frozen H.blk
  have H1 := H.last x
  obtain ⟨w1, hw1⟩ : ∃ w1, w1 = w.setCell ⟨b, 1, none⟩ (.int .i64 x) := ⟨_, rfl⟩
  rw [← hw1] at H1
  have t1 : Tch (fun g => g = b) w w1 := by rw [hw1]; exact Tch.setCell (fun g => g = b) w ⟨b, 1, none⟩ _ rfl
  obtain ⟨o, c, w2, hr2, d2, df, H2, t2⟩ := H1.note (dnG x i) (dnG_in _ _ _ _) (fun g e => Nat.lt_of_lt_of_le (hFl g e) t1.size) hl
  have d1 : w1.cell? ⟨b, 2, none⟩ = some (.slice lo h.L.length lc) := blk_cell H1.blk 2
  have HR2 : Hid _ := hr2
  have HH2 : Hid (DW (w2.setCell ⟨b, 2, none⟩ (.slice o (h.L.length + 1) c)) F b o c ⟨h.b, x, h.L ++ [dnG x i]⟩) := H2
  have HT2 : Hid (Tch (fun g => ¬ F g) w (w2.setCell ⟨b, 2, none⟩ (.slice o (h.L.length + 1) c))) := (HSL.out _ _ t1 (fun g _ e => by have e' : g = b := e; rw [e']; exact H.fb)).trans t2 (fun g _ e => e)
  have HW1 : Hid (w1 = _) := hw1
  have HD1 : Hid _ := d1
  have HD2 : Hid _ := d2
  have HDF : Hid _ := df
  obtain ⟨m, hm⟩ : ∃ m, m = h.L.length := ⟨_, rfl⟩
  rw [← hm] at c2 hl HK
  have Hm : Hid (m = h.L.length) := hm
  obtain ⟨hb, hhb⟩ : ∃ y, y = h.l := ⟨_, rfl⟩
  rw [← hhb] at c1 HE q1 HK
  have Hhb : Hid (hb = h.l) := hhb
  obtain ⟨p, hp⟩ : ∃ p, p = (nwK h.L hb i : Int) - 1 := ⟨_, rfl⟩
  rw [← hp] at q1
  have HP : Hid (p = (nwK h.L hb i : Int) - 1) := hp
  have HNo : Hid (dgoneE h x i ≠ 0 → DF w F b (h.gone x i)) := fun e => by rw [HG.out, if_neg e]; exact ⟨lo, lc, HH.out⟩
  clear H H1 t1 hr2 d2 df H2 t2 hw1 hm hhb hp d1 hFl
  go_enter Try.func33, Try.ntmps33
  by_cases hle : x ≤ hb
  · have HE0 : Hid (dgoneE h x i = 171) := by show _ = _; rw [HE.out, if_pos hle]
    go_wp2_with fail
    go_ret
    exact ⟨by rw [HE0.out]; rfl, HNo.out (by rw [HE0.out]; decide), Tch.refl _ _⟩
  · go_wp2_with fail
    refine q1.mono ?_
    rintro e w9 ⟨rfl, hw9⟩
    subst hw9
    clear q1
    rcases Nat.eq_zero_or_pos (nwK h.L hb i) with h0 | h0
    · have HE0 : Hid (dgoneE h x i = 170) := by show _ = _; rw [HE.out, if_neg (by omega), dwas_zero h0]; rfl
      have hp1 : p = -1 := by rw [HP.out, h0]; rfl
      subst hp1
      clear h0
      go_wp2_with fail
      go_ret
      exact ⟨by rw [HE0.out]; rfl, HNo.out (by rw [HE0.out]; decide), Tch.refl _ _⟩
    · obtain ⟨k, hk⟩ : ∃ k, nwK h.L hb i = k + 1 := ⟨nwK h.L hb i - 1, by omega⟩
      have hpk : p = (k : Int) := by rw [HP.out, hk]; omega
      have hkm : k < m := by have := HK.out; omega
      have hkm' : (k : Int) < (m : Int) := by omega
      have hk0 : ¬ (k : Int) < 0 := by omega
      obtain ⟨n, hn⟩ : ∃ n, h.L[k]? = some n := ⟨_, List.getElem?_eq_getElem (by have := Hm.out; omega)⟩
      have HD : Hid (dwas h.L hb i = n.nt) := dwas_some hk hn
      obtain ⟨g, hg, hat⟩ := HH.out.at hn
      have z2 : w9.cell? ⟨g, k * 8 + 2, none⟩ = some (.bool n.g) := hat 2 _ rfl (by omega)
      subst hpk
      have HE' : Hid (dgoneE h x i = if n.g = true then 170 else 0) := by
        show _ = _
        rw [HE.out, if_neg (by omega), HD.out]
        cases hg : n.g <;> simp [Dn.nt, hg]
      obtain ⟨ng, hng⟩ : ∃ y, y = n.g := ⟨_, rfl⟩
      rw [← hng] at z2 HE'
      clear hn hat h0 hk hng HD
      rw [hg] at c2
      cases ng with
      | true =>
        have HE0 : Hid (dgoneE h x i = 170) := HE'.out
        go_wp2_with fail
        go_ret
        exact ⟨by rw [HE0.out]; rfl, HNo.out (by rw [HE0.out]; decide), Tch.refl _ _⟩
      | false =>
        have HE0 : Hid (dgoneE h x i = 0) := HE'.out
        have hlo : Hid (lo = some ⟨g, 0, none⟩) := hg
        clear hg
        go_upto_region 7 with (fail)
        rw [← HW1.out]
        have d1 := HD1.out
        have d2 := HD2.out
        have df := HDF.out
        have hr2 := HR2.out
        clear z2 c1 c2 cf
        go_wp2_with (at_builtin; refine wpList_app _ rfl _ _ 84 rfl rfl _ _ rfl rfl hr2 ?_)
        go_ret
        exact ⟨by rw [HE0.out]; rfl, by rw [HG.out, if_pos HE0.out]; exact ⟨o, c, HH2.out⟩, HT2.out⟩
end Go.Proofs.Ytkcmpipipelgoaa
