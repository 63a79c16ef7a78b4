import Derived.Test.YtkcmpipipelgoaaD4
import Derived.Test.YtkcmpipipelgoaaHNew2
/- The document's New. -/
namespace Go.Proofs.Ytkcmpipipelgoaa
open Go.RowKit Go
set_option maxRecDepth 100000

/-- The document's notes of tables that a history begins with. -/
def DNotesOf (x : Int) (T : List Tbl) (L : List Dn) : Prop := L.map (fun n => n.t) = T ∧ ∀ n ∈ L, n.l = x ∧ n.g = false ∧ n.i = n.t.id
def DNewOut (T : List Tbl) (x : Int) (N : Nat) (r : Ending) (w' : World) : Prop :=
  (newE T x = 1 ∧ r = .returned (.tuple #[.pointer none, .int .i64 1])) ∨ (newE T x = 0 ∧ ∃ b L, r = .returned (.tuple #[.pointer (some ⟨b, 0, none⟩), .int .i64 0]) ∧ DNotesOf x T L ∧ DF w' (fun g => g < N) b ⟨x, x, L⟩)
def prevId (T : List Tbl) (k : Nat) : Int := if k = 0 then 0 else ((T[k - 1]?).map (fun t => t.id)).getD 0

set_option maxHeartbeats 4000000 in
theorem dnew_f (P : List (Tbl × Value)) (tv : Option Addr) (tc : Nat) (G : Nat → Prop) (x : Int) (w : World) (hT : TL w G tv P) (hm : P.length ≤ 1099511627776) :
    Calls Try.prog 17 #[.slice tv P.length tc, .int .i64 x] w fun r w' => DNewOut (P.map Prod.fst) x w.heap.size r w' ∧ Tch (fun _ => False) w w' := by
  obtain ⟨m, hL⟩ : ∃ m, m = P.length := ⟨_, rfl⟩
  have HE : Hid (newE (P.map Prod.fst) x = if x < 1 ∨ areGo 0 (P.map Prod.fst) = false then 1 else 0) := rfl
  have Hm : Hid (m = P.length) := hL
  have HT : Hid (TL w G tv P) := hT
  rw [← hL] at hm ⊢
  obtain ⟨b, hb⟩ : ∃ b, b = w.heap.size := ⟨_, rfl⟩
  obtain ⟨w1, hw1⟩ : ∃ w1, w1 = w.alloc (.cells #[.int .i64 x, .int .i64 x, .slice none 0 0] 86) := ⟨_, rfl⟩
  have t1 : Tch (fun _ => False) w w1 := by rw [hw1]; exact Tch.alloc _ _ _
  have H1 : DW w1 (fun g => g < b) b none 0 ⟨x, x, []⟩ := ⟨by rw [hw1, hb]; exact alloc_new _ _, World.ownsRow_nil _ _ _ _, by omega, (fun g e => by cases e), (fun n hn => by cases hn)⟩
  have HJ0 : Hid (∃ L : List Dn, (∃ lo lc, DW w1 (fun g => g < b) b lo lc ⟨x, x, L⟩) ∧ DNotesOf x ((P.map Prod.fst).take 0) L ∧ Tch (fun _ => False) w w1 ∧ areGo 0 (P.map Prod.fst) = areGo (prevId (P.map Prod.fst) 0) ((P.map Prod.fst).drop 0)) := ⟨[], ⟨none, 0, H1⟩, ⟨rfl, fun n hn => by cases hn⟩, t1, rfl⟩
  have HW1 : Hid (w1 = _) := hw1
  have HB : Hid (b = w.heap.size) := hb
  clear hT hL hb hw1 t1 H1
  go_enter Try.func17, Try.ntmps17
  by_cases hx : x < 1
  · go_wp2_with fail
    go_ret2
    have e0 : newE (P.map Prod.fst) x = 1 := by rw [HE.out, if_pos (.inl hx)]
    exact ⟨.inl ⟨e0, rfl⟩, Tch.refl _ _⟩
  · have HE1 : Hid (newE (P.map Prod.fst) x = if areGo 0 (P.map Prod.fst) = false then 1 else 0) := by
      show _ = _
      rw [HE.out]
      by_cases h1 : areGo 0 (P.map Prod.fst) = false
      · rw [if_pos (.inr h1), if_pos h1]
      · rw [if_neg (by intro e; exact e.elim (fun e => hx e) h1), if_neg h1]
    go_upto_region 4 with (fail)
    rw [← HW1.out, ← HB.out]
    go_wp2_with fail
    go_loopg [7, 8] m (fun kx s7 s8 wr => ∃ (k : Nat), s7 = .int .i64 k ∧ m - k ≤ kx ∧ k ≤ m ∧ Hid (∃ L : List Dn, (∃ lo lc, DW wr (fun g => g < b) b lo lc ⟨x, x, L⟩) ∧ DNotesOf x ((P.map Prod.fst).take k) L ∧ Tch (fun _ => False) w wr ∧ areGo 0 (P.map Prod.fst) = areGo (prevId (P.map Prod.fst) k) ((P.map Prod.fst).drop k)))
    case atStart => exact ⟨0, rfl, by omega, by omega, HJ0⟩
    case round =>
      rename World => wr
      obtain ⟨k, rfl, hkx, hkl, J⟩ := hrel
      by_cases hk : k < m
      · have hk' : (k : Int) < (m : Int) := by omega
        have hkP : k < P.length := by have := Hm.out; omega
        obtain ⟨L, ⟨lo, lc, HD⟩, hN, tJ, hG⟩ := J.out
        have hTr := HT.out.tch tJ (fun _ _ e => e.elim)
        obtain ⟨g, o, hto, x0, x1, x2, x3, x4⟩ := hTr.at k hkP
        obtain ⟨co, cc, hc⟩ := hTr.col k hkP
        have HX : Hid (∀ W, Tch (fun _ => False) w W → W.cell? ⟨g, o + k * 5, none⟩ = some (.int .i64 P[k].1.id) ∧ W.cell? ⟨g, o + k * 5 + 1, none⟩ = some (.int .i64 P[k].1.ver) ∧ W.cell? ⟨g, o + k * 5 + 2, none⟩ = some (.string P[k].1.nm) ∧ W.cell? ⟨g, o + k * 5 + 3, none⟩ = some P[k].2 ∧ W.cell? ⟨g, o + k * 5 + 4, none⟩ = some (.int .i64 P[k].1.key)) := fun W tW => by
          obtain ⟨g', o', e, z⟩ := (HT.out.tch tW (fun _ _ e => e.elim)).at k hkP
          rw [hto] at e
          injection e with e
          injection e with e1 e2 e3
          subst e1
          subst e2
          exact z
        have HSL : Hid (∀ W, Tch (fun _ => False) wr W → SL W co (ccl P[k].1.cols)) := fun W tW => hc.sl.no tW
        have HC : Hid (co = none → P[k].1.cols = [] ∧ cc = 0) := hc.no
        have HTk : Hid ((P.map Prod.fst).take (k + 1) = (P.map Prod.fst).take k ++ [P[k].1]) := by
          show _ = _
          rw [List.take_add_one, List.getElem?_map, List.getElem?_eq_getElem hkP]
          rfl
        have HPv : Hid (prevId (P.map Prod.fst) (k + 1) = P[k].1.id) := by
          show _ = _
          unfold prevId
          rw [if_neg (by omega), show k + 1 - 1 = k by omega, List.getElem?_map, List.getElem?_eq_getElem hkP]
          rfl
        have HGo : Hid (areGo 0 (P.map Prod.fst) = if rightE P[k].1 ≠ 0 ∨ P[k].1.id ≤ prevId (P.map Prod.fst) k then false else areGo P[k].1.id ((P.map Prod.fst).drop (k + 1))) := by
          show _ = _
          rw [hG, List.drop_eq_getElem_cons (by rw [List.length_map]; exact hkP), List.getElem_map]
          rfl
        have HRi : Hid (rightE P[k].1 = 0 → inR P[k].1.id ∧ 1 ≤ P[k].1.id ∧ P[k].1.cols.length ≤ 8 ∧ 1 ≤ P[k].1.cols.length) := right_id
        rw [hc.eq] at x3 HX
        have HPr : Hid (∀ j, k = j + 1 → ∃ a : Int, wr.cell? ⟨g, o + j * 5, none⟩ = some (.int .i64 a) ∧ prevId (P.map Prod.fst) k = a ∧ ∀ W, Tch (fun _ => False) wr W → W.cell? ⟨g, o + j * 5, none⟩ = some (.int .i64 a)) := fun j e => by
          subst e
          obtain ⟨g', o', e', z0, _⟩ := hTr.at j (by omega)
          rw [hto] at e'
          injection e' with e'
          injection e' with e1 e2 e3
          subst e1
          subst e2
          refine ⟨_, z0, ?_, fun W tW => (tW.cell (p := ⟨g, o + j * 5, none⟩) (cell_lt z0) (fun e => e)).trans z0⟩
          unfold prevId
          rw [if_neg (by omega), show j + 1 - 1 = j by omega, List.getElem?_map, List.getElem?_eq_getElem (by omega)]
          rfl
        obtain ⟨p, hp⟩ : ∃ p, p = P[k].1 := ⟨_, rfl⟩
        rw [← hp] at x0 x1 x2 x3 x4 HX HSL HC HTk HPv HGo HRi
        have q1 := dright_any p co cc wr (HSL.out wr (Tch.refl _ _))
        obtain ⟨rt, hrt⟩ : ∃ rt, rt = rightE p := ⟨_, rfl⟩
        rw [← hrt] at q1 HGo HRi
        have HD' : Hid (DW wr (fun g => g < b) b lo lc ⟨x, x, L⟩) := HD
        have HN' : Hid (DNotesOf x ((P.map Prod.fst).take k) L) := hN
        have HTJ : Hid (Tch (fun _ => False) w wr) := tJ
        subst hto
        clear hp hrt hc hTr hG HD hN tJ hkP
        go_wp2_with fail
        refine q1.mono ?_
        rintro e w2 ⟨rfl, t2⟩
        have HT2 : Hid (Tch (fun _ => False) wr w2) := t2
        obtain ⟨x0, x1, x2, x3, x4⟩ := HX.out w2 (HTJ.out.trans' t2)
        clear q1 t2
        by_cases hr : rt = 0
        · have hrd : decide (rt = 0) = true := by simp [hr]
          have HRp : Hid (inR p.id ∧ 1 ≤ p.id ∧ p.cols.length ≤ 8 ∧ 1 ≤ p.cols.length) := HRi.out hr
          have HGo1 : Hid (areGo 0 (P.map Prod.fst) = if p.id ≤ prevId (P.map Prod.fst) k then false else areGo p.id ((P.map Prod.fst).drop (k + 1))) := by
            show _ = _
            rw [HGo.out]
            by_cases h1 : p.id ≤ prevId (P.map Prod.fst) k
            · rw [if_pos (.inr h1), if_pos h1]
            · rw [if_neg (by intro e; exact e.elim (fun e => e hr) h1), if_neg h1]
          rw [hrd]
          clear hr hrd HRi HGo
          rcases Nat.eq_zero_or_pos k with hk0 | hk0
          · subst hk0
            have HGo2 : Hid (areGo 0 (P.map Prod.fst) = areGo p.id ((P.map Prod.fst).drop (0 + 1))) := by
              show _ = _
              rw [HGo1.out, if_neg (by have := HRp.out.2.1; show ¬ p.id ≤ 0; omega)]
            clear HPr HGo1
            have hz : ¬ (0 : Int) > 0 := by omega
            go_upto_region 8 with (fail)
            go_quiet (fail)
            have HT3 : Hid (Tch (fun _ => False) wr (w2.drewN nq)) := HT2.out.drewN nq
            obtain ⟨w3, hw3⟩ : ∃ w3, w3 = w2.drewN nq := ⟨_, rfl⟩
            rw [← hw3] at HT3 ⊢
            clear hw3 x0 x1 x2 x3 x4 hz
            have HH3 : Hid (DW w3 (fun g => g < b) b lo lc ⟨x, x, L⟩) := HD'.out.tch HT3.out (fun _ _ e => e.elim)
            have HTw3 : Hid (Tch (fun _ => False) w w3) := HTJ.out.trans' HT3.out
            obtain ⟨ml, hml⟩ : ∃ ml, ml = L.length := ⟨_, rfl⟩
            have HL : Hid (L.length ≤ 1099511627776) := by
              have e := congrArg List.length HN'.out.1
              rw [List.length_map, List.length_take] at e
              show _ ≤ _
              omega
            obtain ⟨K0, hK0⟩ : ∃ K0 : World → Prop, K0 = fun W => Tch (fun g => ob lo = some g) w3 W := ⟨_, rfl⟩
            obtain ⟨St, hSt⟩ : ∃ St : List Value → World → Prop, St = fun s W => match s with
              | [] => Tch (fun _ => False) w3 W
              | [y] => Tch (fun _ => False) w3 W ∧ ∃ vo vc, y = tA p.id p.ver p.nm (.slice vo p.cols.length vc) p.key ∧ W.ownsRow w3.heap.size 80 3 (.slice vo p.cols.length vc) p.cols.length (ccl p.cols)
              | [y, z] => Tch (fun _ => False) w3 W ∧ ∃ vo vc g, y = tA p.id p.ver p.nm (.slice vo p.cols.length vc) p.key ∧ z = .slice (some ⟨g, 0, none⟩) 1 1 ∧ W.ownsRow w3.heap.size 80 3 (.slice vo p.cols.length vc) p.cols.length (ccl p.cols) ∧ At W g 0 (⟨x, p.id, false, p, vo, vc⟩ : Dn).cs
              | [y, _, u] => ∃ vo vc o oc, y = tA p.id p.ver p.nm (.slice vo p.cols.length vc) p.key ∧ u = .slice o (ml + 1) oc ∧ DW (W.setCell ⟨b, 2, none⟩ (.slice o (ml + 1) oc)) (fun g => g < b) b o oc ⟨x, x, L ++ [⟨x, p.id, false, p, vo, vc⟩]⟩
              | _ => False := ⟨_, rfl⟩
            obtain ⟨C, hC⟩ : ∃ C : List Value → World → Prop, C = fun s W => K0 W ∧ St s W := ⟨_, rfl⟩
            have HKT : Hid (∀ W, Tch (fun g => ob lo = some g) w3 W → Tch (fun _ => False) w W) := fun W tW => HTw3.out.trans tW (fun g hg e => (HH3.out.fl g e).1 (by have := HB.out; show g < b; omega))
            have hK : ∀ s W, C s W → W.cell? ⟨b, 2, none⟩ = some (.slice lo ml lc) ∧ (W.cell? ⟨g, o, none⟩ = some (.int .i64 p.id) ∧ W.cell? ⟨g, o + 1, none⟩ = some (.int .i64 p.ver) ∧ W.cell? ⟨g, o + 2, none⟩ = some (.string p.nm) ∧ W.cell? ⟨g, o + 3, none⟩ = some (.slice co p.cols.length cc) ∧ W.cell? ⟨g, o + 4, none⟩ = some (.int .i64 p.key)) ∧ (∀ i, W.frozen? ⟨b, i, none⟩ = false) := fun s W hW => by
              rw [hC] at hW
              have tW := hW.1
              rw [hK0] at tW
              have h2 := (tW.block b (blk_lt HH3.out.blk) (fun e => (HH3.out.fl b e).2.1 rfl)).trans HH3.out.blk
              exact ⟨by rw [hml]; exact blk_cell h2 2, HX.out W (HKT.out W tW), blk_frozen h2⟩
            have h6 : ∀ W, C [] W → Calls Try.prog 30 #[tA p.id p.ver p.nm (.slice co p.cols.length cc) p.key] W fun r w' => ∃ vo vc, r = .returned (tA p.id p.ver p.nm (.slice vo p.cols.length vc) p.key) ∧ C [tA p.id p.ver p.nm (.slice vo p.cols.length vc) p.key] w' := fun W hW => by
              rw [hC, hSt] at hW
              have tW : Tch (fun _ => False) w3 W := hW.2
              refine (dcopied_any p co cc W (HSL.out W (HT3.out.trans' tW)) HC.out (by have := HRp.out.2.2.1; omega)).mono ?_
              rintro r w' ⟨⟨v, rfl, hv⟩, t'⟩
              obtain ⟨vo, vc, rfl⟩ := row_slice hv
              refine ⟨vo, vc, rfl, ?_⟩
              rw [hC, hSt, hK0]
              exact ⟨(tW.trans' t').mono (fun _ _ e => e.elim), tW.trans' t', vo, vc, rfl, own_low hv tW.size⟩
            have h7 : ∀ vo vc W, C [tA p.id p.ver p.nm (.slice vo p.cols.length vc) p.key] W → C [tA p.id p.ver p.nm (.slice vo p.cols.length vc) p.key, .slice (some ⟨W.heap.size, 0, none⟩) 1 1] (W.alloc (.cells #[.int .i64 x, .int .i64 p.id, .bool false, .int .i64 p.id, .int .i64 p.ver, .string p.nm, .slice vo p.cols.length vc, .int .i64 p.key] 89)) := fun vo vc W hW => by
              rw [hC, hSt, hK0] at hW
              obtain ⟨h1, tW, vo', vc', e, hv⟩ := hW
              have e' : vo = vo' ∧ vc = vc' := by simpa [tA] using e
              obtain ⟨rfl, rfl⟩ := e'
              rw [hC, hSt, hK0]
              exact ⟨h1.allocR _, tW.allocR _, vo, vc, W.heap.size, rfl, rfl, own_tch hv (Tch.alloc (fun _ => False) _ _) (fun _ _ e => e), blk_at' (alloc_new W (.cells (⟨x, p.id, false, p, vo, vc⟩ : Dn).cs.toArray 89))⟩
            have h8 : ∀ vo vc g W, C [tA p.id p.ver p.nm (.slice vo p.cols.length vc) p.key, .slice (some ⟨g, 0, none⟩) 1 1] W → ∃ o oc w', (Builtin.append_ #[84, 84] 84 #[.slice lo ml lc, .slice (some ⟨g, 0, none⟩) 1 1]).run Try.prog W = .ok (.slice o (ml + 1) oc) w' ∧ C [tA p.id p.ver p.nm (.slice vo p.cols.length vc) p.key, .slice (some ⟨g, 0, none⟩) 1 1, .slice o (ml + 1) oc] w' := fun vo vc g W hW => by
              rw [hC, hSt, hK0] at hW
              obtain ⟨h1, tW, vo', vc', g', e, e2, hv, hg⟩ := hW
              have e' : vo = vo' ∧ vc = vc' := by simpa [tA] using e
              obtain ⟨rfl, rfl⟩ := e'
              have e2' : g = g' := by simpa using e2
              subst e2'
              have HWd := HH3.out.tch tW (fun _ _ e => e.elim)
              obtain ⟨o, oc, w', hr, ho, t', hat⟩ := notes_app2 HWd.own ⟨x, p.id, false, p, vo, vc⟩ g hg HL.out
              have hs3 := HTw3.out.size
              have hb3 := HB.out
              have hd := HWd.grown ⟨x, p.id, false, p, vo, vc⟩ (dnote_of p x hv HRp.out.2.2.1 (fun g e => by
                rcases e with e | e | e
                · have e' : g < b := e; omega
                · rw [e]; exact blk_lt HH3.out.blk
                · exact (HH3.out.fl g e).2.2)) (fun g e => by have e' : g < b := e; have := tW.size; omega) ho t' hat
              refine ⟨o, oc, w', by rw [hml]; exact hr, ?_⟩
              rw [hC, hSt, hK0]
              exact ⟨h1.trans' t', vo, vc, o, oc, rfl, rfl, by rw [hml]; exact hd⟩
            have h0' : C [] w3.drew := by
              rw [hC, hSt, hK0]; exact ⟨(Tch.refl _ _).drew, (Tch.refl _ _).drew⟩
            have hsh1 : ∀ y W, C [y] W → ∃ vo vc, y = tA p.id p.ver p.nm (.slice vo p.cols.length vc) p.key := fun y W hW => by
              rw [hC, hSt, hK0] at hW
              obtain ⟨_, _, vo, vc, rfl, _⟩ := hW
              exact ⟨vo, vc, rfl⟩
            have hsh2 : ∀ y z W, C [y, z] W → ∃ g, z = .slice (some ⟨g, 0, none⟩) 1 1 := fun y z W hW => by
              rw [hC, hSt, hK0] at hW
              obtain ⟨_, _, vo, vc, g, _, rfl, _⟩ := hW
              exact ⟨g, rfl⟩
            have hsh3 : ∀ y z u W, C [y, z, u] W → ∃ o oc, u = .slice o (ml + 1) oc := fun y z u W hW => by
              rw [hC, hSt, hK0] at hW
              obtain ⟨_, vo, vc, o, oc, _, rfl, _⟩ := hW
              exact ⟨o, oc, rfl⟩
            have Hfin : Hid (∀ y z o oc W, C [y, z, .slice o (ml + 1) oc] W → ∃ L : List Dn, (∃ lo lc, DW (W.setCell ⟨b, 2, none⟩ (.slice o (ml + 1) oc)) (fun g => g < b) b lo lc ⟨x, x, L⟩) ∧ DNotesOf x ((P.map Prod.fst).take (0 + 1)) L ∧ Tch (fun _ => False) w (W.setCell ⟨b, 2, none⟩ (.slice o (ml + 1) oc)) ∧ areGo 0 (P.map Prod.fst) = areGo (prevId (P.map Prod.fst) (0 + 1)) ((P.map Prod.fst).drop (0 + 1))) := fun y z o oc W hW => by
              rw [hC, hSt, hK0] at hW
              obtain ⟨h1, vo, vc, o', oc', _, e, hd⟩ := hW
              have e' : o = o' ∧ oc = oc' := by simpa using e
              obtain ⟨rfl, rfl⟩ := e'
              refine ⟨_, ⟨o, oc, hd⟩, ⟨?_, fun n hn => ?_⟩, ?_, ?_⟩
              · rw [List.map_append, HN'.out.1, HTk.out]; rfl
              · rcases List.mem_append.1 hn with e | e
                · exact HN'.out.2 n e
                · rw [List.mem_singleton.1 e]; exact ⟨rfl, rfl, rfl⟩
              · refine (HKT.out W h1).trans (Tch.setCell (fun g => g = b) W ⟨b, 2, none⟩ _ rfl) (fun g hg e => ?_)
                have e' : g = b := e
                have := HB.out
                omega
              · rw [HPv.out, HGo2.out]
            clear hC hSt hK0 hml
            go_wp2_with fail
            refine wp_region_ordv [15, 17, 18] C 19 [0, 1, 2, 3, 4, 5, 6, 7, 8, 9, 10, 11, 12, 13, 14, 15, 16, 17, 18] (by kernel_rfl) (by kernel_rfl) h0' ?_
            clear h0'
            refine ordv_read rfl (by go_simp) (by rfl) ?_
            apply Exists.intro
            refine ⟨fun s' W hW b K Q hK' => ?_, fun K hK' => ?_⟩
            · obtain ⟨q0, ⟨x0, x1, x2, x3, x4⟩, _⟩ := hK _ W hW
              go_simp
              exact hK' W hW
            go_simp
            refine hK' _ ?_
            clear hK' K
            refine ordv_read rfl (by go_simp) (by rfl) ?_
            apply Exists.intro
            refine ⟨fun s' W hW b K Q hK' => ?_, fun K hK' => ?_⟩
            · obtain ⟨q0, ⟨x0, x1, x2, x3, x4⟩, _⟩ := hK _ W hW
              go_simp
              exact hK' W hW
            go_simp
            refine hK' _ ?_
            clear hK' K
            refine ordv_read rfl (by go_simp) (by rfl) ?_
            apply Exists.intro
            refine ⟨fun s' W hW b K Q hK' => ?_, fun K hK' => ?_⟩
            · obtain ⟨q0, ⟨x0, x1, x2, x3, x4⟩, _⟩ := hK _ W hW
              go_simp
              exact hK' W hW
            go_simp
            refine hK' _ ?_
            clear hK' K
            refine ordv_read rfl (by go_simp) (by rfl) ?_
            apply Exists.intro
            refine ⟨fun s' W hW b K Q hK' => ?_, fun K hK' => ?_⟩
            · obtain ⟨q0, ⟨x0, x1, x2, x3, x4⟩, _⟩ := hK _ W hW
              go_simp
              exact hK' W hW
            go_simp
            refine hK' _ ?_
            clear hK' K
            refine ordv_read rfl (by go_simp) (by rfl) ?_
            apply Exists.intro
            refine ⟨fun s' W hW b K Q hK' => ?_, fun K hK' => ?_⟩
            · obtain ⟨q0, ⟨x0, x1, x2, x3, x4⟩, _⟩ := hK _ W hW
              go_simp
              exact hK' W hW
            go_simp
            refine hK' _ ?_
            clear hK' K
            refine ordv_read rfl (by go_simp) (by rfl) ?_
            apply Exists.intro
            refine ⟨fun s' W hW b K Q hK' => ?_, fun K hK' => ?_⟩
            · obtain ⟨q0, ⟨x0, x1, x2, x3, x4⟩, _⟩ := hK _ W hW
              go_simp
              exact hK' W hW
            go_simp
            refine hK' _ ?_
            clear hK' K
            refine ordv_read rfl (by go_simp) (by rfl) ?_
            apply Exists.intro
            refine ⟨fun s' W hW b K Q hK' => ?_, fun K hK' => ?_⟩
            · obtain ⟨q0, ⟨x0, x1, x2, x3, x4⟩, _⟩ := hK _ W hW
              go_simp
              exact hK' W hW
            go_simp
            refine hK' _ ?_
            clear hK' K
            refine ordv_read rfl (by go_simp) (by rfl) ?_
            apply Exists.intro
            refine ⟨fun s' W hW b K Q hK' => ?_, fun K hK' => ?_⟩
            · obtain ⟨q0, ⟨x0, x1, x2, x3, x4⟩, _⟩ := hK _ W hW
              go_simp
              exact hK' W hW
            go_simp
            refine hK' _ ?_
            clear hK' K
            refine ordv_read rfl (by go_simp) (by rfl) ?_
            apply Exists.intro
            refine ⟨fun s' W hW b K Q hK' => ?_, fun K hK' => ?_⟩
            · obtain ⟨q0, ⟨x0, x1, x2, x3, x4⟩, _⟩ := hK _ W hW
              go_simp
              exact hK' W hW
            go_simp
            refine hK' _ ?_
            clear hK' K
            refine ordv_read rfl (by go_simp) (by rfl) ?_
            apply Exists.intro
            refine ⟨fun s' W hW b K Q hK' => ?_, fun K hK' => ?_⟩
            · obtain ⟨q0, ⟨x0, x1, x2, x3, x4⟩, _⟩ := hK _ W hW
              go_simp
              exact hK' W hW
            go_simp
            refine hK' _ ?_
            clear hK' K
            refine ordv_read rfl (by go_simp) (by rfl) ?_
            apply Exists.intro
            refine ⟨fun s' W hW b K Q hK' => ?_, fun K hK' => ?_⟩
            · obtain ⟨q0, ⟨x0, x1, x2, x3, x4⟩, _⟩ := hK _ W hW
              go_simp
              exact hK' W hW
            go_simp
            refine hK' _ ?_
            clear hK' K
            refine ordv_read rfl (by go_simp) (by rfl) ?_
            apply Exists.intro
            refine ⟨fun s' W hW b K Q hK' => ?_, fun K hK' => ?_⟩
            · obtain ⟨q0, ⟨x0, x1, x2, x3, x4⟩, _⟩ := hK _ W hW
              go_simp
              exact hK' W hW
            go_simp
            refine hK' _ ?_
            clear hK' K
            refine ordv_read rfl (by go_simp) (by rfl) ?_
            apply Exists.intro
            refine ⟨fun s' W hW b K Q hK' => ?_, fun K hK' => ?_⟩
            · obtain ⟨q0, ⟨x0, x1, x2, x3, x4⟩, _⟩ := hK _ W hW
              go_simp
              exact hK' W hW
            go_simp
            refine hK' _ ?_
            clear hK' K
            refine ordv_read rfl (by go_simp) (by rfl) ?_
            apply Exists.intro
            refine ⟨fun s' W hW b K Q hK' => ?_, fun K hK' => ?_⟩
            · obtain ⟨q0, ⟨x0, x1, x2, x3, x4⟩, _⟩ := hK _ W hW
              go_simp
              exact hK' W hW
            go_simp
            refine hK' _ ?_
            clear hK' K
            refine ordv_read rfl (by go_simp) (by rfl) ?_
            apply Exists.intro
            refine ⟨fun s' W hW b K Q hK' => ?_, fun K hK' => ?_⟩
            · obtain ⟨q0, ⟨x0, x1, x2, x3, x4⟩, _⟩ := hK _ W hW
              go_simp
              exact hK' W hW
            go_simp
            refine hK' _ ?_
            clear hK' K
            refine ordv_turn rfl (by go_simp) (by rfl) (fun W hW b K Q hK' => ?_) (fun u hu K hK' => ?_)
            · go_simp
              go_at_call 30
              refine (h6 W hW).mono ?_
              rintro r w' ⟨vo, vc, rfl, h1⟩
              exact hK' _ w' h1
            obtain ⟨vo, vc, rfl⟩ : ∃ vo vc, u = tA p.id p.ver p.nm (.slice vo p.cols.length vc) p.key := by
              obtain ⟨W', hW'⟩ := hu
              exact hsh1 u W' hW'
            clear hu h6
            go_simp
            refine hK' _ ?_
            clear hK' K
            refine ordv_read rfl (by go_simp) (by rfl) ?_
            apply Exists.intro
            refine ⟨fun s' W hW b K Q hK' => ?_, fun K hK' => ?_⟩
            · obtain ⟨q0, ⟨x0, x1, x2, x3, x4⟩, _⟩ := hK _ W hW
              go_simp
              exact hK' W hW
            go_simp
            refine hK' _ ?_
            clear hK' K
            refine ordv_turn rfl (by go_simp) (by rfl) (fun W hW b K Q hK' => ?_) (fun u hu K hK' => ?_)
            · go_simp
              exact hK' _ _ (h7 vo vc W hW)
            obtain ⟨gz, rfl⟩ : ∃ g, u = .slice (some ⟨g, 0, none⟩) 1 1 := by
              obtain ⟨W', hW'⟩ := hu
              exact hsh2 _ u W' hW'
            clear hu h7
            go_simp
            refine hK' _ ?_
            clear hK' K
            refine ordv_turn rfl (by go_simp) (by rfl) (fun W hW => ?_) (fun u hu K hK' => ?_)
            · obtain ⟨o, oc, w', hr, h1⟩ := h8 vo vc gz W hW
              exact yv_append (.tmp 50) (.tmp 63) 84 rfl (.slice lo ml lc) (.slice (some ⟨gz, 0, none⟩) 1 1) rfl rfl hr h1
            obtain ⟨oz, oc, rfl⟩ : ∃ o oc, u = .slice o (ml + 1) oc := by
              obtain ⟨W', hW'⟩ := hu
              exact hsh3 _ _ u W' hW'
            clear hu h8 hsh1 hsh2 hsh3
            go_simp
            refine hK' _ ?_
            clear hK' K
            refine ordv_nil ?_
            intro w4 hw4
            obtain ⟨c2, _, cf⟩ := hK _ w4 hw4
            have HJ4 : Hid _ := Hfin.out _ _ _ _ w4 hw4
            clear hK hw4 Hfin
            go_wp2_with fail
            go_roundg (m - (0 + 1))
            case measure => omega
            case rel => exact ⟨0 + 1, by first | rfl | go_num, by omega, by omega, HJ4⟩
          · obtain ⟨j, hj⟩ : ∃ j, k = j + 1 := ⟨k - 1, by omega⟩
            obtain ⟨a, -, ha, hY⟩ := HPr.out j hj
            have hsub : IntKind.i64.wrap ((k : Int) - 1) = (j : Int) := by rw [wrap_ok (by omega) (by omega)]; omega
            have y0 := hY w2 HT2.out
            have hz : (k : Int) > 0 := by omega
            have hj1 : (j : Int) < (m : Int) := by omega
            rw [ha] at HGo1
            clear HPr hY ha hj
            by_cases hle : p.id ≤ a
            · have HG0 : Hid (areGo 0 (P.map Prod.fst) = false) := by show _ = _; rw [HGo1.out, if_pos hle]
              have HE2 : Hid (newE (P.map Prod.fst) x = 1) := by show _ = _; rw [HE1.out, HG0.out]; rfl
              go_upto_region 8 with (fail)
              go_quiet (fail)
              go_wp2_with fail
              go_ret2
              exact ⟨.inl ⟨HE2.out, rfl⟩, HTJ.out.trans' (HT2.out.drewN nq)⟩
            · have HGo2 : Hid (areGo 0 (P.map Prod.fst) = areGo p.id ((P.map Prod.fst).drop (k + 1))) := by show _ = _; rw [HGo1.out, if_neg hle]
              clear HGo1
              go_upto_region 8 with (fail)
              go_quiet (fail)
              have HT3 : Hid (Tch (fun _ => False) wr (w2.drewN nq)) := HT2.out.drewN nq
              obtain ⟨w3, hw3⟩ : ∃ w3, w3 = w2.drewN nq := ⟨_, rfl⟩
              rw [← hw3] at HT3 ⊢
              clear hw3 x0 x1 x2 x3 x4 y0 hz hj1 hsub
              have HH3 : Hid (DW w3 (fun g => g < b) b lo lc ⟨x, x, L⟩) := HD'.out.tch HT3.out (fun _ _ e => e.elim)
              have HTw3 : Hid (Tch (fun _ => False) w w3) := HTJ.out.trans' HT3.out
              obtain ⟨ml, hml⟩ : ∃ ml, ml = L.length := ⟨_, rfl⟩
              have HL : Hid (L.length ≤ 1099511627776) := by
                have e := congrArg List.length HN'.out.1
                rw [List.length_map, List.length_take] at e
                show _ ≤ _
                omega
              obtain ⟨K0, hK0⟩ : ∃ K0 : World → Prop, K0 = fun W => Tch (fun g => ob lo = some g) w3 W := ⟨_, rfl⟩
              obtain ⟨St, hSt⟩ : ∃ St : List Value → World → Prop, St = fun s W => match s with
                | [] => Tch (fun _ => False) w3 W
                | [y] => Tch (fun _ => False) w3 W ∧ ∃ vo vc, y = tA p.id p.ver p.nm (.slice vo p.cols.length vc) p.key ∧ W.ownsRow w3.heap.size 80 3 (.slice vo p.cols.length vc) p.cols.length (ccl p.cols)
                | [y, z] => Tch (fun _ => False) w3 W ∧ ∃ vo vc g, y = tA p.id p.ver p.nm (.slice vo p.cols.length vc) p.key ∧ z = .slice (some ⟨g, 0, none⟩) 1 1 ∧ W.ownsRow w3.heap.size 80 3 (.slice vo p.cols.length vc) p.cols.length (ccl p.cols) ∧ At W g 0 (⟨x, p.id, false, p, vo, vc⟩ : Dn).cs
                | [y, _, u] => ∃ vo vc o oc, y = tA p.id p.ver p.nm (.slice vo p.cols.length vc) p.key ∧ u = .slice o (ml + 1) oc ∧ DW (W.setCell ⟨b, 2, none⟩ (.slice o (ml + 1) oc)) (fun g => g < b) b o oc ⟨x, x, L ++ [⟨x, p.id, false, p, vo, vc⟩]⟩
                | _ => False := ⟨_, rfl⟩
              obtain ⟨C, hC⟩ : ∃ C : List Value → World → Prop, C = fun s W => K0 W ∧ St s W := ⟨_, rfl⟩
              have HKT : Hid (∀ W, Tch (fun g => ob lo = some g) w3 W → Tch (fun _ => False) w W) := fun W tW => HTw3.out.trans tW (fun g hg e => (HH3.out.fl g e).1 (by have := HB.out; show g < b; omega))
              have hK : ∀ s W, C s W → W.cell? ⟨b, 2, none⟩ = some (.slice lo ml lc) ∧ (W.cell? ⟨g, o + (k) * 5, none⟩ = some (.int .i64 p.id) ∧ W.cell? ⟨g, o + (k) * 5 + 1, none⟩ = some (.int .i64 p.ver) ∧ W.cell? ⟨g, o + (k) * 5 + 2, none⟩ = some (.string p.nm) ∧ W.cell? ⟨g, o + (k) * 5 + 3, none⟩ = some (.slice co p.cols.length cc) ∧ W.cell? ⟨g, o + (k) * 5 + 4, none⟩ = some (.int .i64 p.key)) ∧ (∀ i, W.frozen? ⟨b, i, none⟩ = false) := fun s W hW => by
                rw [hC] at hW
                have tW := hW.1
                rw [hK0] at tW
                have h2 := (tW.block b (blk_lt HH3.out.blk) (fun e => (HH3.out.fl b e).2.1 rfl)).trans HH3.out.blk
                exact ⟨by rw [hml]; exact blk_cell h2 2, HX.out W (HKT.out W tW), blk_frozen h2⟩
              have h6 : ∀ W, C [] W → Calls Try.prog 30 #[tA p.id p.ver p.nm (.slice co p.cols.length cc) p.key] W fun r w' => ∃ vo vc, r = .returned (tA p.id p.ver p.nm (.slice vo p.cols.length vc) p.key) ∧ C [tA p.id p.ver p.nm (.slice vo p.cols.length vc) p.key] w' := fun W hW => by
                rw [hC, hSt] at hW
                have tW : Tch (fun _ => False) w3 W := hW.2
                refine (dcopied_any p co cc W (HSL.out W (HT3.out.trans' tW)) HC.out (by have := HRp.out.2.2.1; omega)).mono ?_
                rintro r w' ⟨⟨v, rfl, hv⟩, t'⟩
                obtain ⟨vo, vc, rfl⟩ := row_slice hv
                refine ⟨vo, vc, rfl, ?_⟩
                rw [hC, hSt, hK0]
                exact ⟨(tW.trans' t').mono (fun _ _ e => e.elim), tW.trans' t', vo, vc, rfl, own_low hv tW.size⟩
              have h7 : ∀ vo vc W, C [tA p.id p.ver p.nm (.slice vo p.cols.length vc) p.key] W → C [tA p.id p.ver p.nm (.slice vo p.cols.length vc) p.key, .slice (some ⟨W.heap.size, 0, none⟩) 1 1] (W.alloc (.cells #[.int .i64 x, .int .i64 p.id, .bool false, .int .i64 p.id, .int .i64 p.ver, .string p.nm, .slice vo p.cols.length vc, .int .i64 p.key] 89)) := fun vo vc W hW => by
                rw [hC, hSt, hK0] at hW
                obtain ⟨h1, tW, vo', vc', e, hv⟩ := hW
                have e' : vo = vo' ∧ vc = vc' := by simpa [tA] using e
                obtain ⟨rfl, rfl⟩ := e'
                rw [hC, hSt, hK0]
                exact ⟨h1.allocR _, tW.allocR _, vo, vc, W.heap.size, rfl, rfl, own_tch hv (Tch.alloc (fun _ => False) _ _) (fun _ _ e => e), blk_at' (alloc_new W (.cells (⟨x, p.id, false, p, vo, vc⟩ : Dn).cs.toArray 89))⟩
              have h8 : ∀ vo vc g W, C [tA p.id p.ver p.nm (.slice vo p.cols.length vc) p.key, .slice (some ⟨g, 0, none⟩) 1 1] W → ∃ o oc w', (Builtin.append_ #[84, 84] 84 #[.slice lo ml lc, .slice (some ⟨g, 0, none⟩) 1 1]).run Try.prog W = .ok (.slice o (ml + 1) oc) w' ∧ C [tA p.id p.ver p.nm (.slice vo p.cols.length vc) p.key, .slice (some ⟨g, 0, none⟩) 1 1, .slice o (ml + 1) oc] w' := fun vo vc g W hW => by
                rw [hC, hSt, hK0] at hW
                obtain ⟨h1, tW, vo', vc', g', e, e2, hv, hg⟩ := hW
                have e' : vo = vo' ∧ vc = vc' := by simpa [tA] using e
                obtain ⟨rfl, rfl⟩ := e'
                have e2' : g = g' := by simpa using e2
                subst e2'
                have HWd := HH3.out.tch tW (fun _ _ e => e.elim)
                obtain ⟨o, oc, w', hr, ho, t', hat⟩ := notes_app2 HWd.own ⟨x, p.id, false, p, vo, vc⟩ g hg HL.out
                have hs3 := HTw3.out.size
                have hb3 := HB.out
                have hd := HWd.grown ⟨x, p.id, false, p, vo, vc⟩ (dnote_of p x hv HRp.out.2.2.1 (fun g e => by
                  rcases e with e | e | e
                  · have e' : g < b := e; omega
                  · rw [e]; exact blk_lt HH3.out.blk
                  · exact (HH3.out.fl g e).2.2)) (fun g e => by have e' : g < b := e; have := tW.size; omega) ho t' hat
                refine ⟨o, oc, w', by rw [hml]; exact hr, ?_⟩
                rw [hC, hSt, hK0]
                exact ⟨h1.trans' t', vo, vc, o, oc, rfl, rfl, by rw [hml]; exact hd⟩
              have h0' : C [] w3.drew := by
                rw [hC, hSt, hK0]; exact ⟨(Tch.refl _ _).drew, (Tch.refl _ _).drew⟩
              have hsh1 : ∀ y W, C [y] W → ∃ vo vc, y = tA p.id p.ver p.nm (.slice vo p.cols.length vc) p.key := fun y W hW => by
                rw [hC, hSt, hK0] at hW
                obtain ⟨_, _, vo, vc, rfl, _⟩ := hW
                exact ⟨vo, vc, rfl⟩
              have hsh2 : ∀ y z W, C [y, z] W → ∃ g, z = .slice (some ⟨g, 0, none⟩) 1 1 := fun y z W hW => by
                rw [hC, hSt, hK0] at hW
                obtain ⟨_, _, vo, vc, g, _, rfl, _⟩ := hW
                exact ⟨g, rfl⟩
              have hsh3 : ∀ y z u W, C [y, z, u] W → ∃ o oc, u = .slice o (ml + 1) oc := fun y z u W hW => by
                rw [hC, hSt, hK0] at hW
                obtain ⟨_, vo, vc, o, oc, _, rfl, _⟩ := hW
                exact ⟨o, oc, rfl⟩
              have Hfin : Hid (∀ y z o oc W, C [y, z, .slice o (ml + 1) oc] W → ∃ L : List Dn, (∃ lo lc, DW (W.setCell ⟨b, 2, none⟩ (.slice o (ml + 1) oc)) (fun g => g < b) b lo lc ⟨x, x, L⟩) ∧ DNotesOf x ((P.map Prod.fst).take (k + 1)) L ∧ Tch (fun _ => False) w (W.setCell ⟨b, 2, none⟩ (.slice o (ml + 1) oc)) ∧ areGo 0 (P.map Prod.fst) = areGo (prevId (P.map Prod.fst) (k + 1)) ((P.map Prod.fst).drop (k + 1))) := fun y z o oc W hW => by
                rw [hC, hSt, hK0] at hW
                obtain ⟨h1, vo, vc, o', oc', _, e, hd⟩ := hW
                have e' : o = o' ∧ oc = oc' := by simpa using e
                obtain ⟨rfl, rfl⟩ := e'
                refine ⟨_, ⟨o, oc, hd⟩, ⟨?_, fun n hn => ?_⟩, ?_, ?_⟩
                · rw [List.map_append, HN'.out.1, HTk.out]; rfl
                · rcases List.mem_append.1 hn with e | e
                  · exact HN'.out.2 n e
                  · rw [List.mem_singleton.1 e]; exact ⟨rfl, rfl, rfl⟩
                · refine (HKT.out W h1).trans (Tch.setCell (fun g => g = b) W ⟨b, 2, none⟩ _ rfl) (fun g hg e => ?_)
                  have e' : g = b := e
                  have := HB.out
                  omega
                · rw [HPv.out, HGo2.out]
              clear hC hSt hK0 hml
              go_wp2_with fail
              refine wp_region_ordv [15, 17, 18] C 19 [0, 1, 2, 3, 4, 5, 6, 7, 8, 9, 10, 11, 12, 13, 14, 15, 16, 17, 18] (by kernel_rfl) (by kernel_rfl) h0' ?_
              clear h0'
              refine ordv_read rfl (by go_simp) (by rfl) ?_
              apply Exists.intro
              refine ⟨fun s' W hW b K Q hK' => ?_, fun K hK' => ?_⟩
              · obtain ⟨q0, ⟨x0, x1, x2, x3, x4⟩, _⟩ := hK _ W hW
                go_simp
                exact hK' W hW
              go_simp
              refine hK' _ ?_
              clear hK' K
              refine ordv_read rfl (by go_simp) (by rfl) ?_
              apply Exists.intro
              refine ⟨fun s' W hW b K Q hK' => ?_, fun K hK' => ?_⟩
              · obtain ⟨q0, ⟨x0, x1, x2, x3, x4⟩, _⟩ := hK _ W hW
                go_simp
                exact hK' W hW
              go_simp
              refine hK' _ ?_
              clear hK' K
              refine ordv_read rfl (by go_simp) (by rfl) ?_
              apply Exists.intro
              refine ⟨fun s' W hW b K Q hK' => ?_, fun K hK' => ?_⟩
              · obtain ⟨q0, ⟨x0, x1, x2, x3, x4⟩, _⟩ := hK _ W hW
                go_simp
                exact hK' W hW
              go_simp
              refine hK' _ ?_
              clear hK' K
              refine ordv_read rfl (by go_simp) (by rfl) ?_
              apply Exists.intro
              refine ⟨fun s' W hW b K Q hK' => ?_, fun K hK' => ?_⟩
              · obtain ⟨q0, ⟨x0, x1, x2, x3, x4⟩, _⟩ := hK _ W hW
                go_simp
                exact hK' W hW
              go_simp
              refine hK' _ ?_
              clear hK' K
              refine ordv_read rfl (by go_simp) (by rfl) ?_
              apply Exists.intro
              refine ⟨fun s' W hW b K Q hK' => ?_, fun K hK' => ?_⟩
              · obtain ⟨q0, ⟨x0, x1, x2, x3, x4⟩, _⟩ := hK _ W hW
                go_simp
                exact hK' W hW
              go_simp
              refine hK' _ ?_
              clear hK' K
              refine ordv_read rfl (by go_simp) (by rfl) ?_
              apply Exists.intro
              refine ⟨fun s' W hW b K Q hK' => ?_, fun K hK' => ?_⟩
              · obtain ⟨q0, ⟨x0, x1, x2, x3, x4⟩, _⟩ := hK _ W hW
                go_simp
                exact hK' W hW
              go_simp
              refine hK' _ ?_
              clear hK' K
              refine ordv_read rfl (by go_simp) (by rfl) ?_
              apply Exists.intro
              refine ⟨fun s' W hW b K Q hK' => ?_, fun K hK' => ?_⟩
              · obtain ⟨q0, ⟨x0, x1, x2, x3, x4⟩, _⟩ := hK _ W hW
                go_simp
                exact hK' W hW
              go_simp
              refine hK' _ ?_
              clear hK' K
              refine ordv_read rfl (by go_simp) (by rfl) ?_
              apply Exists.intro
              refine ⟨fun s' W hW b K Q hK' => ?_, fun K hK' => ?_⟩
              · obtain ⟨q0, ⟨x0, x1, x2, x3, x4⟩, _⟩ := hK _ W hW
                go_simp
                exact hK' W hW
              go_simp
              refine hK' _ ?_
              clear hK' K
              refine ordv_read rfl (by go_simp) (by rfl) ?_
              apply Exists.intro
              refine ⟨fun s' W hW b K Q hK' => ?_, fun K hK' => ?_⟩
              · obtain ⟨q0, ⟨x0, x1, x2, x3, x4⟩, _⟩ := hK _ W hW
                go_simp
                exact hK' W hW
              go_simp
              refine hK' _ ?_
              clear hK' K
              refine ordv_read rfl (by go_simp) (by rfl) ?_
              apply Exists.intro
              refine ⟨fun s' W hW b K Q hK' => ?_, fun K hK' => ?_⟩
              · obtain ⟨q0, ⟨x0, x1, x2, x3, x4⟩, _⟩ := hK _ W hW
                go_simp
                exact hK' W hW
              go_simp
              refine hK' _ ?_
              clear hK' K
              refine ordv_read rfl (by go_simp) (by rfl) ?_
              apply Exists.intro
              refine ⟨fun s' W hW b K Q hK' => ?_, fun K hK' => ?_⟩
              · obtain ⟨q0, ⟨x0, x1, x2, x3, x4⟩, _⟩ := hK _ W hW
                go_simp
                exact hK' W hW
              go_simp
              refine hK' _ ?_
              clear hK' K
              refine ordv_read rfl (by go_simp) (by rfl) ?_
              apply Exists.intro
              refine ⟨fun s' W hW b K Q hK' => ?_, fun K hK' => ?_⟩
              · obtain ⟨q0, ⟨x0, x1, x2, x3, x4⟩, _⟩ := hK _ W hW
                go_simp
                exact hK' W hW
              go_simp
              refine hK' _ ?_
              clear hK' K
              refine ordv_read rfl (by go_simp) (by rfl) ?_
              apply Exists.intro
              refine ⟨fun s' W hW b K Q hK' => ?_, fun K hK' => ?_⟩
              · obtain ⟨q0, ⟨x0, x1, x2, x3, x4⟩, _⟩ := hK _ W hW
                go_simp
                exact hK' W hW
              go_simp
              refine hK' _ ?_
              clear hK' K
              refine ordv_read rfl (by go_simp) (by rfl) ?_
              apply Exists.intro
              refine ⟨fun s' W hW b K Q hK' => ?_, fun K hK' => ?_⟩
              · obtain ⟨q0, ⟨x0, x1, x2, x3, x4⟩, _⟩ := hK _ W hW
                go_simp
                exact hK' W hW
              go_simp
              refine hK' _ ?_
              clear hK' K
              refine ordv_read rfl (by go_simp) (by rfl) ?_
              apply Exists.intro
              refine ⟨fun s' W hW b K Q hK' => ?_, fun K hK' => ?_⟩
              · obtain ⟨q0, ⟨x0, x1, x2, x3, x4⟩, _⟩ := hK _ W hW
                go_simp
                exact hK' W hW
              go_simp
              refine hK' _ ?_
              clear hK' K
              refine ordv_turn rfl (by go_simp) (by rfl) (fun W hW b K Q hK' => ?_) (fun u hu K hK' => ?_)
              · go_simp
                go_at_call 30
                refine (h6 W hW).mono ?_
                rintro r w' ⟨vo, vc, rfl, h1⟩
                exact hK' _ w' h1
              obtain ⟨vo, vc, rfl⟩ : ∃ vo vc, u = tA p.id p.ver p.nm (.slice vo p.cols.length vc) p.key := by
                obtain ⟨W', hW'⟩ := hu
                exact hsh1 u W' hW'
              clear hu h6
              go_simp
              refine hK' _ ?_
              clear hK' K
              refine ordv_read rfl (by go_simp) (by rfl) ?_
              apply Exists.intro
              refine ⟨fun s' W hW b K Q hK' => ?_, fun K hK' => ?_⟩
              · obtain ⟨q0, ⟨x0, x1, x2, x3, x4⟩, _⟩ := hK _ W hW
                go_simp
                exact hK' W hW
              go_simp
              refine hK' _ ?_
              clear hK' K
              refine ordv_turn rfl (by go_simp) (by rfl) (fun W hW b K Q hK' => ?_) (fun u hu K hK' => ?_)
              · go_simp
                exact hK' _ _ (h7 vo vc W hW)
              obtain ⟨gz, rfl⟩ : ∃ g, u = .slice (some ⟨g, 0, none⟩) 1 1 := by
                obtain ⟨W', hW'⟩ := hu
                exact hsh2 _ u W' hW'
              clear hu h7
              go_simp
              refine hK' _ ?_
              clear hK' K
              refine ordv_turn rfl (by go_simp) (by rfl) (fun W hW => ?_) (fun u hu K hK' => ?_)
              · obtain ⟨o, oc, w', hr, h1⟩ := h8 vo vc gz W hW
                exact yv_append (.tmp 50) (.tmp 63) 84 rfl (.slice lo ml lc) (.slice (some ⟨gz, 0, none⟩) 1 1) rfl rfl hr h1
              obtain ⟨oz, oc, rfl⟩ : ∃ o oc, u = .slice o (ml + 1) oc := by
                obtain ⟨W', hW'⟩ := hu
                exact hsh3 _ _ u W' hW'
              clear hu h8 hsh1 hsh2 hsh3
              go_simp
              refine hK' _ ?_
              clear hK' K
              refine ordv_nil ?_
              intro w4 hw4
              obtain ⟨c2, _, cf⟩ := hK _ w4 hw4
              have HJ4 : Hid _ := Hfin.out _ _ _ _ w4 hw4
              clear hK hw4 Hfin
              go_wp2_with fail
              go_roundg (m - (k + 1))
              case measure => omega
              case rel => exact ⟨k + 1, by first | rfl | go_num, by omega, by omega, HJ4⟩
        · have HG0 : Hid (areGo 0 (P.map Prod.fst) = false) := by show _ = _; rw [HGo.out, if_pos (.inl hr)]
          have hrd : decide (rt = 0) = false := by simp [hr]
          rw [hrd]
          clear hr hrd
          have HE2 : Hid (newE (P.map Prod.fst) x = 1) := by show _ = _; rw [HE1.out, HG0.out]; rfl
          go_upto_region 8 with (fail)
          go_quiet (fail)
          go_wp2_with fail
          go_ret2
          exact ⟨.inl ⟨HE2.out, rfl⟩, HTJ.out.trans' (HT2.out.drewN nq)⟩
      · have HG1 : Hid (areGo 0 (P.map Prod.fst) = true) := by
          show _ = _
          obtain ⟨L, _, _, _, h4⟩ := J.out
          rw [h4, List.drop_of_length_le (by rw [List.length_map]; have := Hm.out; omega)]
          rfl
        have HE2 : Hid (newE (P.map Prod.fst) x = 0) := by show _ = _; rw [HE1.out, HG1.out]; rfl
        have hk' : ¬ (k : Int) < (m : Int) := by omega
        go_wp2_with fail
        go_ret2
        obtain ⟨L, ⟨lo, lc, h1⟩, h2, h3, _⟩ := J.out
        rw [List.take_of_length_le (by rw [List.length_map]; have := Hm.out; omega)] at h2
        exact ⟨.inr ⟨HE2.out, b, L, rfl, h2, ⟨lo, lc, by rw [← HB.out]; exact h1⟩⟩, h3⟩
end Go.Proofs.Ytkcmpipipelgoaa
