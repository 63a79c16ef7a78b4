import Derived.Test.YtkcmpipipelgoaaD3
import Derived.Test.YtkcmpipipelgoaaHPut
/- The document's Put. -/
namespace Go.Proofs.Ytkcmpipipelgoaa
open Go.RowKit Go
set_option maxRecDepth 100000

theorem blk_at' {w : World} {g : Nat} {xs : List Value} {t : TypeId} {p : Nat × Nat} (h : w.heap[g]? = some (.cells xs.toArray t p)) : At w g 0 xs := fun j u hu => by rw [Nat.zero_add, blk_cell h, List.getElem?_toArray]; exact hu
/-- .. where the new note lies in a block of its own already. -/
theorem notes_app2 {w : World} {lo : Option Addr} {lc : Nat} {L : List Dn} (h : w.ownsRow 0 89 8 (.slice lo L.length lc) L.length (ncl L)) (n : Dn) (g : Nat) (hg : At w g 0 n.cs) (hl : L.length ≤ 1099511627776) :
    ∃ o c w', (Builtin.append_ #[84, 84] 84 #[.slice lo L.length lc, .slice (some ⟨g, 0, none⟩) 1 1]).run Try.prog w = .ok (.slice o (L.length + 1) c) w'
      ∧ w'.ownsRow 0 89 8 (.slice o (L.length + 1) c) (L.length + 1) (ncl (L ++ [n])) ∧ Tch (fun g => ob lo = some g) w w' ∧ (ob o = ob lo ∨ ∃ g, ob o = some g ∧ w.heap.size ≤ g ∧ g < w'.heap.size) := by
  obtain ⟨i0, hi0, hz0, hz1, hz2⟩ := info_parts info_nt
  obtain ⟨v7, w7, hr7, hown7, hgr7, _, hat7⟩ := run_append_own_at (P := Try.prog) w 0 84 84 89 i0 _ 8 88 Try.underlying84 hi0 hz0 hz1 hz2 rfl (by decide) _ _ _ h ⟨g, 0, none⟩ 1 1 n.cs rfl (fun j u hu => by rw [add_plain]; exact hg j u hu) n.one (by unfold maxLen; omega) (by omega) (by omega)
  obtain ⟨o7, c7, rfl⟩ := row_slice hown7
  refine ⟨o7, c7, w7, hr7, ?_, ?_, ?_⟩
  · rw [ncl_snoc]; exact hown7
  · have t7 : Tch (fun g => (Value.slice lo L.length lc).ownBlock = some g) w w7 := Tch.of_grown hgr7 (fun g e => e)
    exact t7.mono (fun g _ e => by rw [ob_eq] at e; exact e)
  · rw [ob_eq, ob_eq] at hat7
    rcases hat7 with e | e
    · exact .inl e
    · exact .inr ⟨_, e, Nat.le_refl _, (hown7.lt _ (by rw [ob_eq]; exact e)).2⟩
def dputE (h : Dh) (x : Int) (t : Tbl) : Int := if rightE t ≠ 0 then 1 else if x ≤ h.l then 171 else 0
/-- What the document's Put gives. -/
def DPutOut (F : Nat → Prop) (b : Nat) (h : Dh) (x : Int) (t : Tbl) (w' : World) : Prop :=
  ∃ h', DF w' F b h' ∧ (dputE h x t ≠ 0 → h' = h) ∧ (dputE h x t = 0 → ∃ n : Dn, n.l = x ∧ n.i = t.id ∧ n.g = false ∧ n.t = t ∧ h' = ⟨h.b, x, h.L ++ [n]⟩)
/-- A copied table as a note of the document's. -/
theorem dnote_of {w' : World} {N : Nat} {G : Nat → Prop} (t : Tbl) (x : Int) {vo : Option Addr} {vc : Nat} (hv : w'.ownsRow N 80 3 (.slice vo t.cols.length vc) t.cols.length (ccl t.cols)) (h8 : t.cols.length ≤ 8) (hN : ∀ g, G g → g < N) : NtIn w' G (⟨x, t.id, false, t, vo, vc⟩ : Dn).nt :=
  ⟨own_sl hv, fun e => by
    have e' : vo = none := e
    subst e'
    obtain ⟨h1, h2, _⟩ := own_none hv
    exact ⟨List.eq_nil_of_length_eq_zero h1, h2⟩, h8, fun g o e => by
    have e' : vo = some ⟨g, o, none⟩ := e
    have h1 := hv.lt g (by rw [e']; rfl)
    exact ⟨fun hg => by have := hN g hg; omega, h1.2⟩⟩

set_option maxHeartbeats 2000000 in
theorem dput_f {w : World} {F : Nat → Prop} {b : Nat} {h : Dh} (H : DF w F b h) (x : Int) (t : Tbl) (ao : Option Addr) (c : Nat) (hs : SL w ao (ccl t.cols)) (hno : ao = none → t.cols = [] ∧ c = 0) (hl : h.L.length ≤ 1099511627776) (hFl : ∀ g, F g → g < w.heap.size) (hao : t.cols ≠ [] → ∀ g o, ao = some ⟨g, o, none⟩ → g ≠ b) :
    Calls Try.prog 32 #[.pointer (some ⟨b, 0, none⟩), .int .i64 x, tA t.id t.ver t.nm (.slice ao t.cols.length c) t.key] w fun r w' => r = .returned (.int .i64 (dputE h x t)) ∧ DPutOut F b h x t w' ∧ Tch (fun g => ¬ F g) w w' := by
  obtain ⟨lo, lc, H⟩ := H
  obtain ⟨N, hN⟩ : ∃ N, N = w.heap.size := ⟨_, rfl⟩
  obtain ⟨w1, hw1⟩ : ∃ w1, w1 = w.alloc (.cells #[.int .i64 t.id, .int .i64 t.ver, .string t.nm, .slice ao t.cols.length c, .int .i64 t.key] 36) := ⟨_, rfl⟩
  have t1 : Tch (fun _ => False) w w1 := by rw [hw1]; exact Tch.alloc _ _ _
  have bN : w1.heap[N]? = some (.cells #[.int .i64 t.id, .int .i64 t.ver, .string t.nm, .slice ao t.cols.length c, .int .i64 t.key] 36 (0, 0)) := by rw [hw1, hN]; exact alloc_new _ _
  have H1 := H.tch t1 (fun _ _ e => e.elim)
  have q1 := dright_any t ao c w1 (hs.no t1)
  have HE : Hid (dputE h x t = if rightE t ≠ 0 then 1 else if x ≤ h.l then 171 else 0) := rfl
  have HR : Hid (rightE t = 0 → inR t.id ∧ 1 ≤ t.id ∧ t.cols.length ≤ 8 ∧ 1 ≤ t.cols.length) := right_id
  obtain ⟨rt, hrt⟩ : ∃ rt, rt = rightE t := ⟨_, rfl⟩
  rw [← hrt] at q1 HE HR
  have HH1 : Hid (DW w1 F b lo lc h) := H1
  have HB1 : Hid _ := bN
  have HT1 : Hid (Tch (fun _ => False) w w1) := t1
  have HS1 : Hid (SL w1 ao (ccl t.cols)) := hs.no t1
  have HC : Hid (ao = none → t.cols = [] ∧ c = 0) := hno
  have HAo : Hid (t.cols ≠ [] → ∀ g o, ao = some ⟨g, o, none⟩ → g ≠ b) := hao
  have HFl : Hid (∀ g, F g → g < w.heap.size) := hFl
  have HL : Hid (h.L.length ≤ 1099511627776) := hl
  have HbN : Hid (b ≠ N ∧ ob lo ≠ some N) := ⟨by have := blk_lt H.blk; omega, fun e => by have := (H.fl N e).2.2; omega⟩
  have HW1 : Hid (w1 = _) := hw1
  have HN : Hid (N = w.heap.size) := hN
  have HNF : Hid (∀ (S : Nat → Prop) W, Tch S w W → (∀ g, g < w.heap.size → S g → ¬ F g) → Tch (fun g => ¬ F g) w W) := fun S W tW hS => tW.mono hS
  have x0 : w1.cell? ⟨N, 0, none⟩ = some (.int .i64 t.id) := blk_cell bN 0
  have x1 : w1.cell? ⟨N, 1, none⟩ = some (.int .i64 t.ver) := blk_cell bN 1
  have x2 : w1.cell? ⟨N, 2, none⟩ = some (.string t.nm) := blk_cell bN 2
  have x3 : w1.cell? ⟨N, 3, none⟩ = some (.slice ao t.cols.length c) := blk_cell bN 3
  have x4 : w1.cell? ⟨N, 4, none⟩ = some (.int .i64 t.key) := blk_cell bN 4
  clear hw1 hN hrt t1 bN H H1 hs hno hFl hl hao
  go_enter Try.func32, Try.ntmps32
  go_upto_region 1 with (fail)
  rw [← HW1.out, ← HN.out]
  go_wp2_with fail
  refine q1.mono ?_
  rintro e w2 ⟨rfl, t2⟩
  clear q1 x0 x1 x2 x3 x4
  have b2 := (t2.block N (blk_lt HB1.out) (fun e => e)).trans HB1.out
  have H2 := HH1.out.tch t2 (fun _ _ e => e.elim)
  have HH2 : Hid (DW w2 F b lo lc h) := H2
  have HB2 : Hid _ := b2
  have HT2 : Hid (Tch (fun _ => False) w w2) := HT1.out.trans' t2
  have HS2 : Hid (SL w2 ao (ccl t.cols)) := HS1.out.no t2
  have c1 : w2.cell? ⟨b, 1, none⟩ = some (.int .i64 h.l) := blk_cell H2.blk 1
  have cf := blk_frozen H2.blk
  clear b2 H2 t2
  by_cases hr : rt = 0
  · have HE1 : Hid (dputE h x t = if x ≤ h.l then 171 else 0) := by show _ = _; rw [HE.out, if_neg (by simp [hr])]
    have HR1 : Hid (inR t.id ∧ 1 ≤ t.id ∧ t.cols.length ≤ 8 ∧ 1 ≤ t.cols.length) := HR.out hr
    have hrd : decide (rt = 0) = true := by simp [hr]
    rw [hrd]
    clear hr hrd HR HE
    by_cases hle : x ≤ h.l
    · have HE0 : Hid (dputE h x t = 171) := by show _ = _; rw [HE1.out, if_pos hle]
      go_wp2_with fail
      go_ret
      refine ⟨by rw [HE0.out]; rfl, ⟨h, ⟨lo, lc, HH2.out⟩, fun _ => rfl, fun e => by rw [HE0.out] at e; cases e⟩, HNF.out _ _ HT2.out (fun _ _ e => e.elim)⟩
    · have HE0 : Hid (dputE h x t = 0) := by show _ = _; rw [HE1.out, if_neg hle]
      obtain ⟨w3, hw3⟩ : ∃ w3, w3 = w2.setCell ⟨b, 1, none⟩ (.int .i64 x) := ⟨_, rfl⟩
      have HW3 : Hid (w3 = _) := hw3
      have t3 : Tch (fun g => g = b) w2 w3 := by rw [hw3]; exact Tch.setCell (fun g => g = b) w2 ⟨b, 1, none⟩ _ rfl
      have H3 : DW w3 F b lo lc ⟨h.b, x, h.L⟩ := by rw [hw3]; exact HH2.out.last x
      have HH3 : Hid (DW w3 F b lo lc ⟨h.b, x, h.L⟩) := H3
      have HT3 : Hid (Tch (fun g => g = b) w w3) := (HT2.out.mono (fun _ _ e => e.elim)).trans' t3
      have HB3 : Hid (w3.heap[N]? = _) := (t3.block N (blk_lt HB2.out) (fun e => HbN.out.1 e.symm)).trans HB2.out
      have HS3 : Hid (SL w3 ao (ccl t.cols)) := HS2.out.tch t3 (fun g o e e2 => HAo.out (fun e9 => by have := HR1.out.2.2.2; rw [e9] at this; simp at this) g o e e2)
      clear hw3 t3 H3
      go_upto_region 7 with (fail)
      rw [← HW3.out]
      clear c1 cf
      obtain ⟨m, hm⟩ : ∃ m, m = h.L.length := ⟨_, rfl⟩
      have Hm : Hid (m = h.L.length) := hm
      obtain ⟨K0, hK0⟩ : ∃ K0 : World → Prop, K0 = fun W => Tch (fun g => ob lo = some g) w3 W := ⟨_, rfl⟩
      obtain ⟨St, hSt⟩ : ∃ St : List Value → World → Prop, St = fun s W => match s with
        | [] => Tch (fun _ => False) w3 W
        | [y] => Tch (fun _ => False) w3 W ∧ ∃ vo vc, y = tA t.id t.ver t.nm (.slice vo t.cols.length vc) t.key ∧ W.ownsRow w3.heap.size 80 3 (.slice vo t.cols.length vc) t.cols.length (ccl t.cols)
        | [y, z] => Tch (fun _ => False) w3 W ∧ ∃ vo vc g, y = tA t.id t.ver t.nm (.slice vo t.cols.length vc) t.key ∧ z = .slice (some ⟨g, 0, none⟩) 1 1 ∧ W.ownsRow w3.heap.size 80 3 (.slice vo t.cols.length vc) t.cols.length (ccl t.cols) ∧ At W g 0 (⟨x, t.id, false, t, vo, vc⟩ : Dn).cs
        | [y, _, u] => ∃ vo vc o oc, y = tA t.id t.ver t.nm (.slice vo t.cols.length vc) t.key ∧ u = .slice o (m + 1) oc ∧ DW (W.setCell ⟨b, 2, none⟩ (.slice o (m + 1) oc)) F b o oc ⟨h.b, x, h.L ++ [⟨x, t.id, false, t, vo, vc⟩]⟩
        | _ => False := ⟨_, rfl⟩
      obtain ⟨C, hC⟩ : ∃ C : List Value → World → Prop, C = fun s W => K0 W ∧ St s W := ⟨_, rfl⟩
      have hK : ∀ s W, C s W → W.cell? ⟨b, 2, none⟩ = some (.slice lo m lc) ∧ (W.cell? ⟨N, 0, none⟩ = some (.int .i64 t.id) ∧ W.cell? ⟨N, 1, none⟩ = some (.int .i64 t.ver) ∧ W.cell? ⟨N, 2, none⟩ = some (.string t.nm) ∧ W.cell? ⟨N, 3, none⟩ = some (.slice ao t.cols.length c) ∧ W.cell? ⟨N, 4, none⟩ = some (.int .i64 t.key)) ∧ (∀ i, W.frozen? ⟨b, i, none⟩ = false) := fun s W hW => by
        rw [hC] at hW
        have tW := hW.1
        rw [hK0] at tW
        have h1 := (tW.block N (blk_lt HB3.out) HbN.out.2).trans HB3.out
        have h2 := (tW.block b (blk_lt HH3.out.blk) (fun e => (HH3.out.fl b e).2.1 rfl)).trans HH3.out.blk
        exact ⟨by rw [hm]; exact blk_cell h2 2, ⟨blk_cell h1 0, blk_cell h1 1, blk_cell h1 2, blk_cell h1 3, blk_cell h1 4⟩, blk_frozen h2⟩
      have h6 : ∀ W, C [] W → Calls Try.prog 30 #[tA t.id t.ver t.nm (.slice ao t.cols.length c) t.key] W fun r w' => ∃ vo vc, r = .returned (tA t.id t.ver t.nm (.slice vo t.cols.length vc) t.key) ∧ C [tA t.id t.ver t.nm (.slice vo t.cols.length vc) t.key] w' := fun W hW => by
        rw [hC, hSt] at hW
        have tW : Tch (fun _ => False) w3 W := hW.2
        refine (dcopied_any t ao c W (HS3.out.no tW) HC.out (by have := HR1.out.2.2.1; omega)).mono ?_
        rintro r w' ⟨⟨v, rfl, hv⟩, t'⟩
        obtain ⟨vo, vc, rfl⟩ := row_slice hv
        refine ⟨vo, vc, rfl, ?_⟩
        rw [hC, hSt, hK0]
        exact ⟨(tW.trans' t').mono (fun _ _ e => e.elim), tW.trans' t', vo, vc, rfl, own_low hv tW.size⟩
      have h7 : ∀ vo vc W, C [tA t.id t.ver t.nm (.slice vo t.cols.length vc) t.key] W → C [tA t.id t.ver t.nm (.slice vo t.cols.length vc) t.key, .slice (some ⟨W.heap.size, 0, none⟩) 1 1] (W.alloc (.cells #[.int .i64 x, .int .i64 t.id, .bool false, .int .i64 t.id, .int .i64 t.ver, .string t.nm, .slice vo t.cols.length vc, .int .i64 t.key] 89)) := fun vo vc W hW => by
        rw [hC, hSt, hK0] at hW
        obtain ⟨h1, tW, vo', vc', e, hv⟩ := hW
        have e' : vo = vo' ∧ vc = vc' := by simpa [tA] using e
        obtain ⟨rfl, rfl⟩ := e'
        rw [hC, hSt, hK0]
        exact ⟨h1.allocR _, tW.allocR _, vo, vc, W.heap.size, rfl, rfl, own_tch hv (Tch.alloc (fun _ => False) _ _) (fun _ _ e => e), blk_at' (alloc_new W (.cells (⟨x, t.id, false, t, vo, vc⟩ : Dn).cs.toArray 89))⟩
      have h8 : ∀ vo vc g W, C [tA t.id t.ver t.nm (.slice vo t.cols.length vc) t.key, .slice (some ⟨g, 0, none⟩) 1 1] W → ∃ o oc w', (Builtin.append_ #[84, 84] 84 #[.slice lo m lc, .slice (some ⟨g, 0, none⟩) 1 1]).run Try.prog W = .ok (.slice o (m + 1) oc) w' ∧ C [tA t.id t.ver t.nm (.slice vo t.cols.length vc) t.key, .slice (some ⟨g, 0, none⟩) 1 1, .slice o (m + 1) oc] w' := fun vo vc g W hW => by
        rw [hC, hSt, hK0] at hW
        obtain ⟨h1, tW, vo', vc', g', e, e2, hv, hg⟩ := hW
        have e' : vo = vo' ∧ vc = vc' := by simpa [tA] using e
        obtain ⟨rfl, rfl⟩ := e'
        have e2' : g = g' := by simpa using e2
        subst e2'
        have HWd := HH3.out.tch tW (fun _ _ e => e.elim)
        obtain ⟨o, oc, w', hr, ho, t', hat⟩ := notes_app2 HWd.own ⟨x, t.id, false, t, vo, vc⟩ g hg HL.out
        have hs3 := HT3.out.size
        have hd := HWd.grown ⟨x, t.id, false, t, vo, vc⟩ (dnote_of t x hv HR1.out.2.2.1 (fun g e => by
          rcases e with e | e | e
          · have := HFl.out g e; omega
          · rw [e]; exact blk_lt HH3.out.blk
          · exact (HH3.out.fl g e).2.2)) (fun g e => by have := HFl.out g e; have := tW.size; omega) ho t' hat
        refine ⟨o, oc, w', by rw [hm]; exact hr, ?_⟩
        rw [hC, hSt, hK0]
        exact ⟨h1.trans' t', vo, vc, o, oc, rfl, rfl, by rw [hm]; exact hd⟩
      have h0' : C [] w3.drew := by
        rw [hC, hSt, hK0]; exact ⟨(Tch.refl _ _).drew, (Tch.refl _ _).drew⟩
      have hsh1 : ∀ y W, C [y] W → ∃ vo vc, y = tA t.id t.ver t.nm (.slice vo t.cols.length vc) t.key := fun y W hW => by
        rw [hC, hSt, hK0] at hW
        obtain ⟨_, _, vo, vc, rfl, _⟩ := hW
        exact ⟨vo, vc, rfl⟩
      have hsh2 : ∀ y z W, C [y, z] W → ∃ g, z = .slice (some ⟨g, 0, none⟩) 1 1 := fun y z W hW => by
        rw [hC, hSt, hK0] at hW
        obtain ⟨_, _, vo, vc, g, _, rfl, _⟩ := hW
        exact ⟨g, rfl⟩
      have hsh3 : ∀ y z u W, C [y, z, u] W → ∃ o oc, u = .slice o (m + 1) oc := fun y z u W hW => by
        rw [hC, hSt, hK0] at hW
        obtain ⟨_, vo, vc, o, oc, _, rfl, _⟩ := hW
        exact ⟨o, oc, rfl⟩
      have Hfin : Hid (∀ y z o oc W, C [y, z, .slice o (m + 1) oc] W → ∃ vo vc, DW (W.setCell ⟨b, 2, none⟩ (.slice o (m + 1) oc)) F b o oc ⟨h.b, x, h.L ++ [⟨x, t.id, false, t, vo, vc⟩]⟩ ∧ Tch (fun g => ¬ F g) w (W.setCell ⟨b, 2, none⟩ (.slice o (m + 1) oc))) := fun y z o oc W hW => by
        rw [hC, hSt, hK0] at hW
        obtain ⟨h1, vo, vc, o', oc', _, e, hd⟩ := hW
        have e' : o = o' ∧ oc = oc' := by simpa using e
        obtain ⟨rfl, rfl⟩ := e'
        refine ⟨vo, vc, hd, ?_⟩
        have ta := HNF.out _ _ HT3.out (fun g _ e => by have e' : g = b := e; rw [e']; exact HH3.out.fb)
        exact (ta.trans h1 (fun g _ e => (HH3.out.fl g e).1)).setCellR ⟨b, 2, none⟩ _ HH3.out.fb
      clear hC hSt hK0 hm
      go_wp2_with fail
      refine wp_region_ordv [9, 11, 12] C 13 [0, 1, 2, 3, 4, 5, 6, 7, 8, 9, 10, 11, 12] (by kernel_rfl) (by kernel_rfl) h0' ?_
      clear h0'
      refine ordv_read rfl (by go_simp) (by rfl) ?_
      apply Exists.intro
      refine ⟨fun s' W hW b K Q hK' => ?_, fun K hK' => ?_⟩
      · obtain ⟨q0, ⟨x0, x1, x2, x3, x4⟩, _⟩ := hK _ W hW
        go_simp
        exact hK' W hW
      go_simp
      refine hK' _ ?_
      clear hK' K
      refine ordv_read rfl (by go_simp) (by rfl) ?_
      apply Exists.intro
      refine ⟨fun s' W hW b K Q hK' => ?_, fun K hK' => ?_⟩
      · obtain ⟨q0, ⟨x0, x1, x2, x3, x4⟩, _⟩ := hK _ W hW
        go_simp
        exact hK' W hW
      go_simp
      refine hK' _ ?_
      clear hK' K
      refine ordv_read rfl (by go_simp) (by rfl) ?_
      apply Exists.intro
      refine ⟨fun s' W hW b K Q hK' => ?_, fun K hK' => ?_⟩
      · obtain ⟨q0, ⟨x0, x1, x2, x3, x4⟩, _⟩ := hK _ W hW
        go_simp
        exact hK' W hW
      go_simp
      refine hK' _ ?_
      clear hK' K
      refine ordv_read rfl (by go_simp) (by rfl) ?_
      apply Exists.intro
      refine ⟨fun s' W hW b K Q hK' => ?_, fun K hK' => ?_⟩
      · obtain ⟨q0, ⟨x0, x1, x2, x3, x4⟩, _⟩ := hK _ W hW
        go_simp
        exact hK' W hW
      go_simp
      refine hK' _ ?_
      clear hK' K
      refine ordv_read rfl (by go_simp) (by rfl) ?_
      apply Exists.intro
      refine ⟨fun s' W hW b K Q hK' => ?_, fun K hK' => ?_⟩
      · obtain ⟨q0, ⟨x0, x1, x2, x3, x4⟩, _⟩ := hK _ W hW
        go_simp
        exact hK' W hW
      go_simp
      refine hK' _ ?_
      clear hK' K
      refine ordv_read rfl (by go_simp) (by rfl) ?_
      apply Exists.intro
      refine ⟨fun s' W hW b K Q hK' => ?_, fun K hK' => ?_⟩
      · obtain ⟨q0, ⟨x0, x1, x2, x3, x4⟩, _⟩ := hK _ W hW
        go_simp
        exact hK' W hW
      go_simp
      refine hK' _ ?_
      clear hK' K
      refine ordv_read rfl (by go_simp) (by rfl) ?_
      apply Exists.intro
      refine ⟨fun s' W hW b K Q hK' => ?_, fun K hK' => ?_⟩
      · obtain ⟨q0, ⟨x0, x1, x2, x3, x4⟩, _⟩ := hK _ W hW
        go_simp
        exact hK' W hW
      go_simp
      refine hK' _ ?_
      clear hK' K
      refine ordv_read rfl (by go_simp) (by rfl) ?_
      apply Exists.intro
      refine ⟨fun s' W hW b K Q hK' => ?_, fun K hK' => ?_⟩
      · obtain ⟨q0, ⟨x0, x1, x2, x3, x4⟩, _⟩ := hK _ W hW
        go_simp
        exact hK' W hW
      go_simp
      refine hK' _ ?_
      clear hK' K
      refine ordv_read rfl (by go_simp) (by rfl) ?_
      apply Exists.intro
      refine ⟨fun s' W hW b K Q hK' => ?_, fun K hK' => ?_⟩
      · obtain ⟨q0, ⟨x0, x1, x2, x3, x4⟩, _⟩ := hK _ W hW
        go_simp
        exact hK' W hW
      go_simp
      refine hK' _ ?_
      clear hK' K
      refine ordv_turn rfl (by go_simp) (by rfl) (fun W hW b K Q hK' => ?_) (fun u hu K hK' => ?_)
      · go_simp
        go_at_call 30
        refine (h6 W hW).mono ?_
        rintro r w' ⟨vo, vc, rfl, h1⟩
        exact hK' _ w' h1
      obtain ⟨vo, vc, rfl⟩ : ∃ vo vc, u = tA t.id t.ver t.nm (.slice vo t.cols.length vc) t.key := by
        obtain ⟨W', hW'⟩ := hu
        exact hsh1 u W' hW'
      clear hu h6
      go_simp
      refine hK' _ ?_
      clear hK' K
      refine ordv_read rfl (by go_simp) (by rfl) ?_
      apply Exists.intro
      refine ⟨fun s' W hW b K Q hK' => ?_, fun K hK' => ?_⟩
      · obtain ⟨q0, ⟨x0, x1, x2, x3, x4⟩, _⟩ := hK _ W hW
        go_simp
        exact hK' W hW
      go_simp
      refine hK' _ ?_
      clear hK' K
      refine ordv_turn rfl (by go_simp) (by rfl) (fun W hW b K Q hK' => ?_) (fun u hu K hK' => ?_)
      · go_simp
        exact hK' _ _ (h7 vo vc W hW)
      obtain ⟨g, rfl⟩ : ∃ g, u = .slice (some ⟨g, 0, none⟩) 1 1 := by
        obtain ⟨W', hW'⟩ := hu
        exact hsh2 _ u W' hW'
      clear hu h7
      go_simp
      refine hK' _ ?_
      clear hK' K
      refine ordv_turn rfl (by go_simp) (by rfl) (fun W hW => ?_) (fun u hu K hK' => ?_)
      · obtain ⟨o, oc, w', hr, h1⟩ := h8 vo vc g W hW
        exact yv_append (.tmp 28) (.tmp 35) 84 rfl (.slice lo m lc) (.slice (some ⟨g, 0, none⟩) 1 1) rfl rfl hr h1
      obtain ⟨o, oc, rfl⟩ : ∃ o oc, u = .slice o (m + 1) oc := by
        obtain ⟨W', hW'⟩ := hu
        exact hsh3 _ _ u W' hW'
      clear hu h8 hsh1 hsh2 hsh3
      go_simp
      refine hK' _ ?_
      clear hK' K
      refine ordv_nil ?_
      intro w4 hw4
      obtain ⟨c2, _, cf⟩ := hK _ w4 hw4
      obtain ⟨vo', vc', hd4, ht4⟩ := Hfin.out _ _ _ _ w4 hw4
      have HD4 : Hid _ := hd4
      have HT4 : Hid (Tch (fun g => ¬ F g) w (w4.setCell ⟨b, 2, none⟩ (.slice o (m + 1) oc))) := ht4
      clear hK hw4 Hfin hd4 ht4
      go_wp2_with fail
      go_ret
      exact ⟨by rw [HE0.out]; rfl, ⟨_, ⟨o, oc, HD4.out⟩, fun e => absurd HE0.out e, fun _ => ⟨_, rfl, rfl, rfl, rfl, rfl⟩⟩, HT4.out⟩
  · have HE0 : Hid (dputE h x t = 1) := by show _ = _; rw [HE.out, if_pos hr]
    have hrd : decide (rt = 0) = false := by simp [hr]
    rw [hrd]
    clear hr hrd
    go_wp2_with fail
    go_ret
    refine ⟨by rw [HE0.out]; rfl, ⟨h, ⟨lo, lc, HH2.out⟩, fun _ => rfl, fun e => by rw [HE0.out] at e; cases e⟩, HNF.out _ _ HT2.out (fun _ _ e => e.elim)⟩
end Go.Proofs.Ytkcmpipipelgoaa
