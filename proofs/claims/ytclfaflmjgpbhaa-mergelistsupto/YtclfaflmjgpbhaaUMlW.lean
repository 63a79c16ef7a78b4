import Derived.Test.YtclfaflmjgpbhaaUMl5
import Derived.Test.YtclfaflmjgpbhaaULs
import Derived.Test.YtclfaflmjgpbhaaUCp
import Derived.Test.YtclfaflmjgpbhaaOrdv
import Derived.Laws.MakeOwn
/- MergeLists: the law. -/
namespace Go.Proofs.Ytclfaflmjgpbhaa
open Go.RowKit Go

theorem lsz_len : ∀ ls : List (List Rc), ls.length ≤ lsz ls ∧ tot ls ≤ lsz ls
  | [] => ⟨Nat.zero_le _, Nat.zero_le _⟩
  | u :: ls => by
    have := lsz_len ls
    have e : tot (u :: ls) = u.length + tot ls := by simp [tot]
    rw [e]
    simp only [List.length_cons, lsz]
    omega
def nilL (n : Nat) : Array Value := (List.replicate n (Value.slice none 0 0)).toArray
theorem mk_lists (n : Nat) (hn : n ≤ 2000000) (w : World) : (Instr.makeSlice 23 (.int .i64 n) (.int .i64 n)).run Try.prog w = .ok (.slice (some ⟨w.heap.size, 0, none⟩) n n) (w.alloc (.cells (nilL n) 28)) := by
  obtain ⟨i0, hi, hz0, hz1, hz2⟩ := info_parts info_sl
  have h := run_make (P := Try.prog) w 23 28 i0 (.slice none 0 0) Try.underlying23 hi hz0 .i64 .i64 n n (by omega) (Int.le_refl _) (by rw [hz2]; omega) (by omega)
  rw [h, hz1]
  have e : madeCells (Value.slice none 0 0).cells ((n : Int).toNat * 1) = nilL n := by
    have h1 := toList_madeCells_one (.slice none 0 0) ((n : Int).toNat * 1)
    have h2 : (madeCells (Value.slice none 0 0).cells ((n : Int).toNat * 1)).toList = (nilL n).toList := by
      refine h1.trans ?_
      simp [nilL]
    exact Array.toList_inj.1 h2
  rw [e]; simp
theorem P1.begin (W : World) (ls : List (List Rc)) : P1 W W.heap.size ls 0 (W.alloc (.cells (nilL (ls.length + 1)) 28)) (nilL (ls.length + 1)) [] [] := by
  refine ⟨alloc_new _ _, by simp [nilL], fun j _ hj => ?_, rfl, rfl, fun j u u' _ h => by simp at h, (Tch.alloc _ _ _)⟩
  show (List.replicate _ _).toArray[j]? = _
  rw [List.getElem?_toArray, List.getElem?_replicate, if_pos (by omega)]
set_option maxHeartbeats 16000000 in
set_option maxRecDepth 2000000 in
theorem ml_law : MLaw := by
  intro W lo lc hd ls hL hci hz hcap hmx
  obtain ⟨n, hn⟩ : ∃ n, n = ls.length := ⟨_, rfl⟩
  obtain ⟨gO, hgO⟩ : ∃ gO, gO = W.heap.size := ⟨_, rfl⟩
  obtain ⟨w0, hw0⟩ : ∃ w0, w0 = W.alloc (.cells (nilL (n + 1)) 28) := ⟨_, rfl⟩
  have HP0 : Hid (P1 W gO ls 0 w0 (nilL (ls.length + 1)) [] []) := by
    have := P1.begin W ls
    rw [← hgO, ← hn, ← hw0, hn] at this
    exact this
  obtain ⟨hsn, hst⟩ := lsz_len ls
  have hn2 : n ≤ 1048576 := by omega
  have HLT : Hid (tot ls ≤ 1048576 ∧ ∀ u ∈ ls, u.length ≤ 1048576) := ⟨by omega, fun u hu => by have := tot_mem hu; omega⟩
  have hmk : ∀ w : World, (Instr.makeSlice 23 (.int .i64 ((n : Int) + 1)) (.int .i64 ((n : Int) + 1))).run Try.prog w = .ok (.slice (some ⟨w.heap.size, 0, none⟩) (n + 1) (n + 1)) (w.alloc (.cells (nilL (n + 1)) 28)) := fun w => mk_lists (n + 1) (by omega) w
  have HL : Hid (LLs (DW W) W.heap.size W lo hd ls) := hL
  have HC : Hid _ := hci
  have Hn : Hid (n = ls.length) := hn
  have HgO : Hid (gO = W.heap.size) := hgO
  have Hw0 : Hid (w0 = _) := hw0
  have hlc : n ≤ lc := by rw [hn]; exact hcap
  have hmx' : lc ≤ 9223372036854775807 := hmx
  rw [← hn]
  clear hL hci hz hsn hst hcap hmx hw0 hn
  go_enter Try.func5, Try.ntmps5
  go_upto_region 2 with (fail)
  rw [← Hw0.out, ← hgO]
  clear hmk hgO
  go_wp2_with fail
  go_loopg [4, 5] n (fun kx s4 s5 wr => ∃ (i : Nat) (ra : Option Addr) (rc : Nat) (oc : Array Value) (hr : List Value) (ls' : List (List Rc)), s4 = .slice ra i rc ∧ s5 = .int .i64 i ∧ n - i ≤ kx ∧ i ≤ n ∧ Hid (P1 W gO ls i wr oc hr ls' ∧ wr.ownsRow (gO + 1) 28 1 (.slice ra i rc) i hr))
  case atStart => exact ⟨0, none, 0, _, _, _, rfl, rfl, by omega, by omega, (⟨HP0.out, World.ownsRow_nil _ _ _ _⟩ : P1 W gO ls 0 w0 (nilL (ls.length + 1)) [] [] ∧ w0.ownsRow (gO + 1) 28 1 (.slice none 0 0) 0 [])⟩
  case round =>
    obtain ⟨i, ra, rc, oc, hr, ls', rfl, rfl, hk, hin, I⟩ := hrel
    rename World => wr0
    by_cases hi : i < n
    · have hi' : (i : Int) < (n : Int) := by omega
      have hi1 : (i : Int) < (n : Int) + 1 := by omega
      have hil : i < ls.length := by rw [← Hn.out]; exact hi
      obtain ⟨u, hu⟩ : ∃ u, ls[i]? = some u := ⟨_, List.getElem?_eq_getElem hil⟩
      have hlu : ls[i] = u := by rw [List.getElem?_eq_getElem hil] at hu; simpa using hu
      obtain ⟨m, hm⟩ : ∃ m, m = u.length := ⟨_, rfl⟩
      obtain ⟨gl, ol, ua, ucp, rfl, cl, hrl⟩ := (HL.out.tch (I.out.1.tch.mono (fun k _ e => by have := HgO.out; show W.heap.size ≤ k; omega))).get (i := i) hil
      rw [hlu, ← hm] at cl
      rw [hlu] at hrl
      have hml : m ≤ ucp := by rw [hm]; exact hrl.len
      have hmc := hrl.cap
      have hm2 : m ≤ 1048576 := by rw [hm]; exact HLT.out.2 u (List.mem_of_getElem? hu)
      have HU : Hid (ls[i]? = some u ∧ m = u.length) := ⟨hu, hm⟩
      have HX : Hid (∀ wx, Tch (fun g => g = gO ∨ wr0.heap.size ≤ g) wr0 wx → wx.cell? ⟨gl, ol + i, none⟩ = some (.slice ua m ucp) ∧ RL (DW W) W.heap.size wx ua ucp u ∧ Tch (fun k => W.heap.size ≤ k) W wx) := fun wx tx => by
        have tw : Tch (fun k => W.heap.size ≤ k) W wx := (I.out.1.tch.mono (fun k _ e => by have := HgO.out; show W.heap.size ≤ k; omega)).trans tx (fun k hk e => by have := HgO.out; have := I.out.1.tch.size; show W.heap.size ≤ k; omega)
        obtain ⟨gl', ol', ua', ucp', e, cl', hrl'⟩ := (HL.out.tch tw).get (i := i) hil
        rw [hlu] at cl' hrl'
        have e2 : gl = gl' ∧ ol = ol' := by simpa using e
        obtain ⟨rfl, rfl⟩ := e2
        obtain ⟨gz, oz, az, cz, ez, clz, _⟩ := HL.out.get (i := i) hil
        have e3 : gl = gz ∧ ol = oz := by simpa using ez
        obtain ⟨rfl, rfl⟩ := e3
        have hglt : gl < W.heap.size := cell_lt clz
        have c1 : wx.cell? ⟨gl, ol + i, none⟩ = wr0.cell? ⟨gl, ol + i, none⟩ := tx.cell (p := ⟨gl, ol + i, none⟩) (cell_lt cl) (by have := HgO.out; have := I.out.1.tch.size; show ¬ (gl = gO ∨ wr0.heap.size ≤ gl); omega)
        rw [cl', cl] at c1
        have c2 : ua' = ua ∧ ucp' = ucp := by
          simp only [Option.some.injEq, Value.slice.injEq] at c1
          exact ⟨c1.1, c1.2.2⟩
        obtain ⟨rfl, rfl⟩ := c2
        exact ⟨by rw [hm]; exact cl', hrl', tw⟩
      have H20 : Hid (P2 W gO i u wr0 oc wr0 none 0 0 []) := I.out.1.enter hu
      clear hrl hlu hu hm
      go_wp2_with fail
      go_loopg [6] m (fun kx s6 wx => ∃ (k : Nat) (bo : Option Addr) (bc : Nat) (u' : List Rc), s6 = .int .i64 k ∧ m - k ≤ kx ∧ k ≤ m ∧ Hid (P2 W gO i u wr0 oc wx bo k bc u'))
      case atStart => exact ⟨0, none, 0, [], rfl, by omega, by omega, H20⟩
      case round =>
        rename World => wx
        obtain ⟨k, bo, bc, u', rfl, hk2, hkm, J⟩ := hrel
        obtain ⟨y1, hrl, twx⟩ := HX.out wx J.out.tch
        clear cl
        have hocs : i < oc.size := by rw [I.out.1.osz]; omega
        have y0 : wx.cell? ⟨gO, i, none⟩ = some (.slice bo k bc) := by rw [blk_cell J.out.blk, Array.getElem?_setIfInBounds]; simp [hocs]
        by_cases hkm2 : k < m
        · have hkm' : (k : Int) < (m : Int) := by omega
          obtain ⟨c, hc⟩ : ∃ c, u[k]? = some c := ⟨_, List.getElem?_eq_getElem (by have := HU.out.2; omega)⟩
          have hcm : c ∈ u := List.mem_of_getElem? hc
          have hch : ChIn W c := HC.out u (List.mem_of_getElem? HU.out.1) c hcm
          obtain ⟨ge, oe, rfl, hx⟩ := hrl.nth hc
          obtain ⟨rdo, rdn, _, _⟩ := hrl.rd c hcm
          obtain ⟨x0, x1, x2, x3, x4, x5⟩ := And.intro (hx 0 _ rfl) (And.intro (hx 1 _ rfl) (And.intro (hx 2 _ rfl) (And.intro (hx 3 _ rfl) (And.intro (hx 4 _ rfl) (hx 5 _ rfl)))))
          rw [Nat.add_zero] at x0
          have hge : ge < W.heap.size := by
            obtain ⟨g', _, hg', e, _⟩ := hrl.at' (fun e => by rw [e] at hc; simp at hc)
            have e2 : ge = g' := by simpa using (congrArg (Option.map Addr.block) e)
            omega
          have hgl : gl < W.heap.size := by
            obtain ⟨gz, oz, az, cz, ez, clz, _⟩ := HL.out.get (i := i) hil
            have e3 : gl = gz ∧ ol = oz := by simpa using ez
            obtain ⟨rfl, rfl⟩ := e3
            exact cell_lt clz
          have hWr : W.heap.size ≤ wr0.heap.size := I.out.1.tch.size
          have hgOr : gO < wr0.heap.size := blk_lt I.out.1.blk
          obtain ⟨i0, hi0, hz0, hz1, hz2⟩ := info_parts info_ch
          have HK0 : Hid (∀ Wy, Tch (fun g => (Value.slice bo k bc).ownBlock = some g) wx Wy → Wy.cell? ⟨gO, i, none⟩ = some (.slice bo k bc) ∧ Wy.cell? ⟨gl, ol + i, none⟩ = some (.slice (some ⟨ge, oe, none⟩) m ucp) ∧ Wy.cell? ⟨ge, oe + k * 6, none⟩ = some (.int .i64 c.l) ∧ Wy.cell? ⟨ge, oe + k * 6 + 1, none⟩ = some (.int .i64 c.x) ∧ Wy.cell? ⟨ge, oe + k * 6 + 2, none⟩ = some (.int .i64 c.k) ∧ Wy.cell? ⟨ge, oe + k * 6 + 3, none⟩ = some (.int .i64 c.t) ∧ Wy.cell? ⟨ge, oe + k * 6 + 4, none⟩ = some (.slice c.oa c.ol c.oc) ∧ Wy.cell? ⟨ge, oe + k * 6 + 5, none⟩ = some (.slice c.na c.nl c.nc)) := fun Wy ty => by
            have no : ∀ g, g < wr0.heap.size → ¬ (Value.slice bo k bc).ownBlock = some g := fun g hg e => by have := (J.out.own.lt g e).1; omega
            exact ⟨(ty.cell (p := ⟨gO, i, none⟩) (cell_lt y0) (no _ hgOr)).trans y0, (ty.cell (p := ⟨gl, ol + i, none⟩) (cell_lt y1) (no _ (by show gl < _; omega))).trans y1,
              (ty.cell (p := ⟨ge, oe + k * 6, none⟩) (cell_lt x0) (no _ (by show ge < _; omega))).trans x0, (ty.cell (p := ⟨ge, oe + k * 6 + 1, none⟩) (cell_lt x1) (no _ (by show ge < _; omega))).trans x1, (ty.cell (p := ⟨ge, oe + k * 6 + 2, none⟩) (cell_lt x2) (no _ (by show ge < _; omega))).trans x2,
              (ty.cell (p := ⟨ge, oe + k * 6 + 3, none⟩) (cell_lt x3) (no _ (by show ge < _; omega))).trans x3, (ty.cell (p := ⟨ge, oe + k * 6 + 4, none⟩) (cell_lt x4) (no _ (by show ge < _; omega))).trans x4, (ty.cell (p := ⟨ge, oe + k * 6 + 5, none⟩) (cell_lt x5) (no _ (by show ge < _; omega))).trans x5⟩
          obtain ⟨C, hC⟩ : ∃ C : List Value → World → Prop, C = fun s Wy => match s with
            | [] => Tch (fun _ => False) wx Wy
            | [x] => ∃ c', x = rcV c' ∧ Cpy W (gO + 1) Wy c c' ∧ Tch (fun _ => False) wx Wy
            | [x, y] => ∃ c' g, x = rcV c' ∧ y = .slice (some ⟨g, 0, none⟩) 1 1 ∧ At Wy g 0 (kc6 c') ∧ Cpy W (gO + 1) Wy c c' ∧ Tch (fun _ => False) wx Wy
            | [_, _, z] => ∃ c' o5 c5, z = .slice o5 (k + 1) c5 ∧ Wy.ownsRow wr0.heap.size 27 6 z (k + 1) (kcl (u' ++ [c'])) ∧ A2 (Cpy W (gO + 1) Wy) (u.take (k + 1)) (u' ++ [c']) ∧ Tch (fun g => (Value.slice bo k bc).ownBlock = some g) wx Wy
            | _ => False := ⟨_, rfl⟩
          have hK : ∀ s Wy, C s Wy → Wy.cell? ⟨gO, i, none⟩ = some (.slice bo k bc) ∧ Wy.cell? ⟨gl, ol + i, none⟩ = some (.slice (some ⟨ge, oe, none⟩) m ucp) ∧ Wy.cell? ⟨ge, oe + k * 6, none⟩ = some (.int .i64 c.l) ∧ Wy.cell? ⟨ge, oe + k * 6 + 1, none⟩ = some (.int .i64 c.x) ∧ Wy.cell? ⟨ge, oe + k * 6 + 2, none⟩ = some (.int .i64 c.k) ∧ Wy.cell? ⟨ge, oe + k * 6 + 3, none⟩ = some (.int .i64 c.t) ∧ Wy.cell? ⟨ge, oe + k * 6 + 4, none⟩ = some (.slice c.oa c.ol c.oc) ∧ Wy.cell? ⟨ge, oe + k * 6 + 5, none⟩ = some (.slice c.na c.nl c.nc) := fun s Wy h => by
            rw [hC] at h
            match s, h with
            | [], h => exact HK0.out Wy (h.mono (fun _ _ h => h.elim))
            | [_], ⟨_, _, _, h⟩ => exact HK0.out Wy (h.mono (fun _ _ h => h.elim))
            | [_, _], ⟨_, _, _, _, _, _, h⟩ => exact HK0.out Wy (h.mono (fun _ _ h => h.elim))
            | [_, _, _], ⟨_, _, _, _, _, _, h⟩ => exact HK0.out Wy h
          have h6 : ∀ Wy, C [] Wy → Calls Try.prog 9 #[.agg #[.int .i64 c.l, .int .i64 c.x, .int .i64 c.k, .int .i64 c.t, .slice c.oa c.ol c.oc, .slice c.na c.nl c.nc]] Wy fun x w' => ∃ c' : Rc, x = .returned (.agg #[.int .i64 c'.l, .int .i64 c'.x, .int .i64 c'.k, .int .i64 c'.t, .slice c'.oa c'.ol c'.oc, .slice c'.na c'.nl c'.nc]) ∧ C [.agg #[.int .i64 c'.l, .int .i64 c'.x, .int .i64 c'.k, .int .i64 c'.t, .slice c'.oa c'.ol c'.oc, .slice c'.na c'.nl c'.nc]] w' := fun Wy h => by
            rw [hC] at h
            refine (copied_any c (DW W c).1 (DW W c).2 Wy (rdo.no h) (rdn.no h)).mono ?_
            rintro x w' ⟨c', rfl, hs, ho, t'⟩
            exact ⟨c', rfl, by rw [hC]; exact ⟨c', rfl, ⟨hs, ho.low (by have := h.size; have := J.out.tch.size; omega), hch⟩, h.trans' t'⟩⟩
          have h7 : ∀ (c' : Rc) Wy, C [rcV c'] Wy → C [rcV c', .slice (some ⟨Wy.heap.size, 0, none⟩) 1 1] (Wy.alloc (.cells #[.int .i64 c'.l, .int .i64 c'.x, .int .i64 c'.k, .int .i64 c'.t, .slice c'.oa c'.ol c'.oc, .slice c'.na c'.nl c'.nc] 27)) := fun c' Wy h => by
            rw [hC] at h ⊢
            obtain ⟨d, e, r, t⟩ := h
            have e' : c' = d := by
              obtain ⟨_, _, _, _, _, _, _, _, _, _⟩ := c'
              obtain ⟨_, _, _, _, _, _, _, _, _, _⟩ := d
              simpa [rcV, and_assoc] using e
            subst e'
            exact ⟨c', Wy.heap.size, rfl, rfl, blk_at (alloc_new Wy (.cells (kc6 c').toArray 27)), r.tch (Tch.alloc (fun _ => False) _ _) (fun _ _ _ h => h), t.allocR _⟩
          have h8 : ∀ (c' : Rc) (g : Nat) Wy, C [rcV c', .slice (some ⟨g, 0, none⟩) 1 1] Wy → ∃ o5 c5 w', (Builtin.append_ #[28, 28] 28 #[.slice bo k bc, .slice (some ⟨g, 0, none⟩) 1 1]).run Try.prog Wy = .ok (.slice o5 (k + 1) c5) w' ∧ C [rcV c', .slice (some ⟨g, 0, none⟩) 1 1, .slice o5 (k + 1) c5] w' := fun c' g Wy h => by
            rw [hC] at h
            obtain ⟨d, g', e, e2, hat, r, t⟩ := h
            have e' : c' = d := by
              obtain ⟨_, _, _, _, _, _, _, _, _, _⟩ := c'
              obtain ⟨_, _, _, _, _, _, _, _, _, _⟩ := d
              simpa [rcV, and_assoc] using e
            subst e'
            have e2' : g = g' := by simpa using e2
            subst e2'
            have hoy := own_tch J.out.own t (fun _ _ h => h)
            obtain ⟨v', w', hr', hown, hgr, _, _⟩ := run_append_own_at (P := Try.prog) Wy wr0.heap.size 28 28 27 i0 _ 6 80 Try.underlying28 hi0 hz0 hz1 hz2 rfl (by decide) _ _ _ hoy ⟨g, 0, none⟩ 1 1 (kc6 c') rfl (fun j u hu => by rw [add_plain]; exact hat j u hu) (kc6_one _) (by unfold maxLen; omega) (by omega) (Nat.le_trans J.out.tch.size t.size)
            obtain ⟨o5, c5, rfl⟩ := row_slice hown
            have tg : Tch (fun g => (Value.slice bo k bc).ownBlock = some g) Wy w' := Tch.of_grown hgr (fun g e => e)
            have nV : ∀ g cur, Wy.heap[g]? = some (.cells cur 76 (0, 0)) → ¬ (Value.slice bo k bc).ownBlock = some g := fun g cur hg e => by obtain ⟨cu, hcu⟩ := own_ty hoy e; exact ne_ty hg hcu (by decide) rfl
            refine ⟨o5, c5, w', hr', ?_⟩
            rw [hC]
            exact ⟨c', o5, c5, rfl, by rw [kcl_snoc]; exact hown, (J.out.el.mono (fun a b q => (q.tch t (fun _ _ _ h => h)).tch tg nV)).snoc hc (r.tch tg nV), (t.mono (fun _ _ h => h.elim)).trans' tg⟩
          have h0' : C [] wx.drew := by rw [hC]; exact (Tch.refl _ _).drew
          have hsh1 : ∀ y Wy, C [y] Wy → ∃ c', y = rcV c' := fun y Wy h => by
            rw [hC] at h
            obtain ⟨c', e, _⟩ := h
            exact ⟨c', e⟩
          have hsh2 : ∀ x y Wy, C [x, y] Wy → ∃ g, y = .slice (some ⟨g, 0, none⟩) 1 1 := fun x y Wy h => by
            rw [hC] at h
            obtain ⟨_, g, _, e, _⟩ := h
            exact ⟨g, e⟩
          have hsh3 : ∀ x y z Wy, C [x, y, z] Wy → ∃ o5 c5, z = .slice o5 (k + 1) c5 := fun x y z Wy h => by
            rw [hC] at h
            obtain ⟨_, o5, c5, e, _⟩ := h
            exact ⟨o5, c5, e⟩
          have Hfin : Hid (∀ x y o5 c5 Wy, C [x, y, .slice o5 (k + 1) c5] Wy → ∃ c', Wy.cell? ⟨gO, i, none⟩ = some (.slice bo k bc) ∧ (∀ j, Wy.frozen? ⟨gO, j, none⟩ = false) ∧ P2 W gO i u wr0 oc (Wy.setCell ⟨gO, i, none⟩ (.slice o5 (k + 1) c5)) o5 (k + 1) c5 (u' ++ [c'])) := fun x y o5 c5 Wy h => by
            have hy := (hK _ Wy h).1
            rw [hC] at h
            obtain ⟨c', o5', c5', e, h1, h2, h3⟩ := h
            obtain ⟨_, q2, q3⟩ := J.out.step hgOr h1 h2 h3 rfl
            exact ⟨c', hy, q2, q3⟩
          clear hC hrl hx rdo rdn hcm hc hch x0 x1 x2 x3 x4 x5 hi0 hz0 hz1 hz2 twx hWr hgOr HK0
          go_wp2_with fail
          refine wp_region_ordv [13, 14, 15] C 16 [0, 1, 2, 3, 4, 5, 6, 7, 8, 9, 10, 11, 12, 13, 14, 15] (by kernel_rfl) (by kernel_rfl) h0' ?_
          clear h0' y0 y1
          refine ordv_read rfl (by go_simp) (by rfl) ?_
          apply Exists.intro
          refine ⟨fun s' Wy hW b K Q hK' => ?_, fun K hK' => ?_⟩
          · obtain ⟨y0, y1, x0, x1, x2, x3, x4, x5⟩ := hK _ Wy hW
            go_simp
            exact hK' Wy hW
          go_simp
          refine hK' _ ?_
          clear hK' K
          refine ordv_read rfl (by go_simp) (by rfl) ?_
          apply Exists.intro
          refine ⟨fun s' Wy hW b K Q hK' => ?_, fun K hK' => ?_⟩
          · obtain ⟨y0, y1, x0, x1, x2, x3, x4, x5⟩ := hK _ Wy hW
            go_simp
            exact hK' Wy hW
          go_simp
          refine hK' _ ?_
          clear hK' K
          refine ordv_read rfl (by go_simp) (by rfl) ?_
          apply Exists.intro
          refine ⟨fun s' Wy hW b K Q hK' => ?_, fun K hK' => ?_⟩
          · obtain ⟨y0, y1, x0, x1, x2, x3, x4, x5⟩ := hK _ Wy hW
            go_simp
            exact hK' Wy hW
          go_simp
          refine hK' _ ?_
          clear hK' K
          refine ordv_read rfl (by go_simp) (by rfl) ?_
          apply Exists.intro
          refine ⟨fun s' Wy hW b K Q hK' => ?_, fun K hK' => ?_⟩
          · obtain ⟨y0, y1, x0, x1, x2, x3, x4, x5⟩ := hK _ Wy hW
            go_simp
            exact hK' Wy hW
          go_simp
          refine hK' _ ?_
          clear hK' K
          refine ordv_read rfl (by go_simp) (by rfl) ?_
          apply Exists.intro
          refine ⟨fun s' Wy hW b K Q hK' => ?_, fun K hK' => ?_⟩
          · obtain ⟨y0, y1, x0, x1, x2, x3, x4, x5⟩ := hK _ Wy hW
            go_simp
            exact hK' Wy hW
          go_simp
          refine hK' _ ?_
          clear hK' K
          refine ordv_read rfl (by go_simp) (by rfl) ?_
          apply Exists.intro
          refine ⟨fun s' Wy hW b K Q hK' => ?_, fun K hK' => ?_⟩
          · obtain ⟨y0, y1, x0, x1, x2, x3, x4, x5⟩ := hK _ Wy hW
            go_simp
            exact hK' Wy hW
          go_simp
          refine hK' _ ?_
          clear hK' K
          refine ordv_read rfl (by go_simp) (by rfl) ?_
          apply Exists.intro
          refine ⟨fun s' Wy hW b K Q hK' => ?_, fun K hK' => ?_⟩
          · obtain ⟨y0, y1, x0, x1, x2, x3, x4, x5⟩ := hK _ Wy hW
            go_simp
            exact hK' Wy hW
          go_simp
          refine hK' _ ?_
          clear hK' K
          refine ordv_read rfl (by go_simp) (by rfl) ?_
          apply Exists.intro
          refine ⟨fun s' Wy hW b K Q hK' => ?_, fun K hK' => ?_⟩
          · obtain ⟨y0, y1, x0, x1, x2, x3, x4, x5⟩ := hK _ Wy hW
            go_simp
            exact hK' Wy hW
          go_simp
          refine hK' _ ?_
          clear hK' K
          refine ordv_read rfl (by go_simp) (by rfl) ?_
          apply Exists.intro
          refine ⟨fun s' Wy hW b K Q hK' => ?_, fun K hK' => ?_⟩
          · obtain ⟨y0, y1, x0, x1, x2, x3, x4, x5⟩ := hK _ Wy hW
            go_simp
            exact hK' Wy hW
          go_simp
          refine hK' _ ?_
          clear hK' K
          refine ordv_read rfl (by go_simp) (by rfl) ?_
          apply Exists.intro
          refine ⟨fun s' Wy hW b K Q hK' => ?_, fun K hK' => ?_⟩
          · obtain ⟨y0, y1, x0, x1, x2, x3, x4, x5⟩ := hK _ Wy hW
            go_simp
            exact hK' Wy hW
          go_simp
          refine hK' _ ?_
          clear hK' K
          refine ordv_read rfl (by go_simp) (by rfl) ?_
          apply Exists.intro
          refine ⟨fun s' Wy hW b K Q hK' => ?_, fun K hK' => ?_⟩
          · obtain ⟨y0, y1, x0, x1, x2, x3, x4, x5⟩ := hK _ Wy hW
            go_simp
            exact hK' Wy hW
          go_simp
          refine hK' _ ?_
          clear hK' K
          refine ordv_read rfl (by go_simp) (by rfl) ?_
          apply Exists.intro
          refine ⟨fun s' Wy hW b K Q hK' => ?_, fun K hK' => ?_⟩
          · obtain ⟨y0, y1, x0, x1, x2, x3, x4, x5⟩ := hK _ Wy hW
            go_simp
            exact hK' Wy hW
          go_simp
          refine hK' _ ?_
          clear hK' K
          refine ordv_read rfl (by go_simp) (by rfl) ?_
          apply Exists.intro
          refine ⟨fun s' Wy hW b K Q hK' => ?_, fun K hK' => ?_⟩
          · obtain ⟨y0, y1, x0, x1, x2, x3, x4, x5⟩ := hK _ Wy hW
            go_simp
            exact hK' Wy hW
          go_simp
          refine hK' _ ?_
          clear hK' K
          refine ordv_turn rfl (by go_simp) (by rfl) (fun Wy hW b K Q hK' => ?_) (fun y hy K hK' => ?_)
          · go_simp
            go_at_call 9
            refine (h6 Wy hW).mono ?_
            rintro x w' ⟨c', rfl, h1⟩
            exact hK' _ w' h1
          obtain ⟨c', rfl⟩ : ∃ c', y = rcV c' := by
            obtain ⟨W', hW'⟩ := hy
            exact hsh1 y W' hW'
          clear hy h6
          unfold rcV at hK'
          go_simp
          refine hK' _ ?_
          clear hK' K
          refine ordv_turn rfl (by go_simp) (by rfl) (fun Wy hW b K Q hK' => ?_) (fun y hy K hK' => ?_)
          · go_simp
            exact hK' _ _ (h7 c' Wy hW)
          obtain ⟨g, rfl⟩ : ∃ g, y = .slice (some ⟨g, 0, none⟩) 1 1 := by
            obtain ⟨W', hW'⟩ := hy
            exact hsh2 _ y W' hW'
          clear hy h7
          go_simp
          refine hK' _ ?_
          clear hK' K
          refine ordv_turn rfl (by go_simp) (by rfl) (fun Wy hW => ?_) (fun y hy K hK' => ?_)
          · obtain ⟨to', tc', w', hr', h1⟩ := h8 c' g Wy hW
            exact yv_append (.tmp 48) (.tmp 57) 28 rfl (.slice bo k bc) (.slice (some ⟨g, 0, none⟩) 1 1) rfl rfl hr' h1
          obtain ⟨o5, c5, rfl⟩ : ∃ o5 c5, y = .slice o5 (k + 1) c5 := by
            obtain ⟨W', hW'⟩ := hy
            exact hsh3 _ _ y W' hW'
          clear hy h8 hsh1 hsh2 hsh3
          go_simp
          refine hK' _ ?_
          clear hK' K
          refine ordv_nil ?_
          intro w5 hw5
          obtain ⟨c2, y0, fO, P5⟩ := Hfin.out _ _ _ _ w5 hw5
          have f0 := fO i
          have HP5 : Hid _ := P5
          clear hK hw5 Hfin fO P5
          go_wp2_with fail
          go_roundg (m - (k + 1))
          case measure => omega
          case rel => exact ⟨k + 1, o5, c5, u' ++ [c2], rfl, by omega, by omega, HP5⟩
        · have hkm' : ¬ (k : Int) < (m : Int) := by omega
          obtain rfl : k = m := by omega
          obtain ⟨g, c1, w1, gr, rc', w2, Z⟩ := P2.close I.out.1 HgO.out HU.out.1 (by rw [← HU.out.2]; exact J.out) I.out.2 (by rw [← HU.out.2]; omega) (by omega)
          rw [← HU.out.2] at Z
          have z1 := Z.load
          have z2 := Z.run1
          have z3 := Z.run2
          have z4 := Z.rd
          have z5 := Z.le
          have z6 : c1 ≤ 9223372036854775807 := Z.mx
          have z7 := Z.wl
          have z8 := Z.fz i
          have z9 : w2.cell? ⟨gl, ol + i, none⟩ = some (.slice ua k ucp) := by
            obtain ⟨gz, oz, az, cz, ez, clz, _⟩ := (HL.out.tch (Z.tch.mono (fun q _ e => by have := HgO.out; show W.heap.size ≤ q; omega))).get (i := i) hil
            have e3 : gl = gz ∧ ol = oz := by simpa using ez
            obtain ⟨rfl, rfl⟩ := e3
            obtain ⟨gz, oz, az', cz', ez', clz', _⟩ := HL.out.get (i := i) hil
            have e3 : gl = gz ∧ ol = oz := by simpa using ez'
            obtain ⟨rfl, rfl⟩ := e3
            have k1 := (Z.tch.cell (p := ⟨gl, ol + i, none⟩) (cell_lt clz') (by have := HgO.out; have h5 : gl < W.heap.size := cell_lt clz'; show ¬ gO ≤ gl; omega)).trans clz'
            have k2 := (twx.cell (p := ⟨gl, ol + i, none⟩) (cell_lt clz') (by have h5 : gl < W.heap.size := cell_lt clz'; show ¬ W.heap.size ≤ gl; omega)).trans clz'
            rw [y1] at k2
            rw [k1]; exact k2.symm
          have HZ : Hid (∀ wz, Tch (fun _ => False) w2 wz → P1 W gO ls (i + 1) (wz.setCell ⟨gO, i, none⟩ (.slice (some ⟨g, 0, none⟩) k c1)) (oc.setIfInBounds i (.slice (some ⟨g, 0, none⟩) k c1)) (hr ++ [.slice (some ⟨g, 0, none⟩) (k + 1) c1]) (ls' ++ [u']) ∧ (wz.setCell ⟨gO, i, none⟩ (.slice (some ⟨g, 0, none⟩) k c1)).ownsRow (gO + 1) 28 1 (.slice (some ⟨gr, 0, none⟩) (i + 1) rc') (i + 1) (hr ++ [.slice (some ⟨g, 0, none⟩) (k + 1) c1])) := Z.out
          clear Z hrl twx
          go_wp2_with (at_builtin; first | (refine wpList_app _ rfl _ _ 28 rfl rfl _ _ rfl rfl z2 ?_) | (refine wpList_app _ rfl _ _ 23 rfl rfl _ _ rfl rfl z3 ?_))
          clear z1 z2 z3 y0 y1
          refine wp_region_drew_tail 12 (by kernel_rfl) (by kernel_rfl) ?_
          have g1 : (i : Int) < (i : Int) + 1 := by omega
          have g2 : (k : Int) ≤ (c1 : Int) := by omega
          repeat (quiet_step (fail))
          refine wpQuiet_nil ?_
          rintro w7 ⟨q, rfl⟩
          obtain ⟨w8, hw8⟩ : ∃ w8, w8 = w2.drewN q := ⟨_, rfl⟩
          rw [← hw8]
          have t8 : Tch (fun _ => False) w2 w8 := by rw [hw8]; exact (Tch.refl _ _).drewN q
          have y0 : w8.cell? ⟨gO, i, none⟩ = some (.slice bo k bc) := (t8.cell (p := ⟨gO, i, none⟩) (cell_lt z7) (fun h => h)).trans z7
          have f0 : w8.frozen? ⟨gO, i, none⟩ = false := by rw [hw8]; simpa using z8
          have H8 : Hid _ := HZ.out w8 t8
          clear z4 z7 z8 z9 t8 hw8
          go_wp2_with fail
          go_roundg (n - (i + 1))
          case measure => omega
          case rel => exact ⟨i + 1, _, rc', _, _, _, rfl, rfl, by omega, by omega, H8⟩
    · have hi' : ¬ (i : Int) < (n : Int) := by omega
      obtain rfl : i = n := by omega
      have hls' := I.out.1.len
      have q1 := lists_any (DW wr0) wr0 (some ⟨gO, 0, none⟩) (i + 1) _ ls' (I.out.1.lls Hn.out) (by omega) (by omega) (by rw [(I.out.1.rel Hn.out).tot]; have := HLT.out.1; omega)
      rw [hls'] at q1
      have g1 : (i : Int) ≤ (i : Int) + 1 := by omega
      clear hls'
      go_wp2_with fail
      refine q1.mono ?_
      rintro e w1 ⟨v, out, out', rfl, hm1, htd, hown1, t1⟩
      obtain ⟨aa, ca, rfl⟩ := row_slice hown1
      have tW1 : Tch (fun k => W.heap.size ≤ k) W w1 := (I.out.1.tch.mono (fun k _ e => by have := HgO.out; show W.heap.size ≤ k; omega)).trans t1 (fun _ _ h => h.elim)
      have q2 := rlists_any (DW W) w1 lo lc hd ls ((HL.out.tch tW1).up tW1.size) (by rw [← Hn.out]; exact hlc) (by rw [← Hn.out]; omega) (by have := HLT.out.1; omega)
      rw [← Hn.out] at q2
      have H1 : Hid _ := And.intro hm1 (And.intro htd (And.intro hown1 t1))
      clear q1 hm1 htd hown1 t1 tW1 g1
      go_wp2_with fail
      refine q2.mono ?_
      rintro e w2 ⟨v, outr, rfl, hm2, hown2, t2⟩
      obtain ⟨ba, cb, rfl⟩ := row_slice hown2
      have hB : B0 W w2 wr0.heap.size outr out' aa ca ba cb ∧ outr.length = out'.length ∧ out'.length = tot ls := B0.of I.out.1 HgO.out Hn.out H1.out.1 H1.out.2.1 H1.out.2.2.1 H1.out.2.2.2 hm2 hown2 t2
      have hT02 : Hid (Tch (fun _ => False) wr0 w2) := H1.out.2.2.2.trans' t2
      obtain ⟨na, hna⟩ : ∃ na, na = out'.length := ⟨_, rfl⟩
      rw [hB.2.1, ← hna]
      have hna2 : na ≤ 1048576 := by have := hB.2.2; have := HLT.out.1; omega
      have HB2 : Hid (B0 W w2 wr0.heap.size outr out' aa ca ba cb) := hB.1
      have Hna : Hid (na = out'.length) := hna
      clear q2 hm2 hown2 t2 hB H1 hna
      go_wp2_with fail
      go_loopg [9] na (fun kx s9 wz => ∃ p : Nat, s9 = .int .i64 p ∧ na - p ≤ kx ∧ p ≤ na ∧ Hid (Tch (fun _ => False) w2 wz))
      case atStart => exact ⟨0, rfl, by omega, by omega, (Tch.refl _ _ : Tch (fun _ => False) w2 w2)⟩
      case round =>
        obtain ⟨p, rfl, hkp, hpn, T⟩ := hrel
        rename World => w3
        by_cases hp : p < na
        · have hp' : (p : Int) < (na : Int) := by omega
          obtain ⟨ga, gb, c, c', rfl, rfl, -, -, r, hcell⟩ := (HB2.out.no T.out).at (p := p) (by rw [← Hna.out]; exact hp)
          obtain ⟨C, hC⟩ : ∃ C : List Value → World → Prop, C = fun _ Wy => Tch (fun _ => False) w3 Wy := ⟨_, rfl⟩
          have hK : ∀ s Wy, C s Wy → Wy.cell? ⟨ga, p * 6, none⟩ = some (.int .i64 c'.l) ∧ Wy.cell? ⟨ga, p * 6 + 1, none⟩ = some (.int .i64 c'.x) ∧ Wy.cell? ⟨ga, p * 6 + 2, none⟩ = some (.int .i64 c'.k) ∧ Wy.cell? ⟨ga, p * 6 + 3, none⟩ = some (.int .i64 c'.t) ∧ Wy.cell? ⟨ga, p * 6 + 4, none⟩ = some (.slice c'.oa c'.ol c'.oc) ∧ Wy.cell? ⟨ga, p * 6 + 5, none⟩ = some (.slice c'.na c'.nl c'.nc) ∧
              Wy.cell? ⟨gb, p * 6, none⟩ = some (.int .i64 c.l) ∧ Wy.cell? ⟨gb, p * 6 + 1, none⟩ = some (.int .i64 c.x) ∧ Wy.cell? ⟨gb, p * 6 + 2, none⟩ = some (.int .i64 c.k) ∧ Wy.cell? ⟨gb, p * 6 + 3, none⟩ = some (.int .i64 c.t) ∧ Wy.cell? ⟨gb, p * 6 + 4, none⟩ = some (.slice c.oa c.ol c.oc) ∧ Wy.cell? ⟨gb, p * 6 + 5, none⟩ = some (.slice c.na c.nl c.nc) := fun s Wy h => by
            rw [hC] at h
            obtain ⟨h1, h2⟩ := hcell Wy h
            exact ⟨h1 0 _ rfl, h1 1 _ rfl, h1 2 _ rfl, h1 3 _ rfl, h1 4 _ rfl, h1 5 _ rfl, h2 0 _ rfl, h2 1 _ rfl, h2 2 _ rfl, h2 3 _ rfl, h2 4 _ rfl, h2 5 _ rfl⟩
          have h6 : ∀ {s} Wy, C s Wy → Calls Try.prog 15 #[.agg #[.int .i64 c'.l, .int .i64 c'.x, .int .i64 c'.k, .int .i64 c'.t, .slice c'.oa c'.ol c'.oc, .slice c'.na c'.nl c'.nc], .agg #[.int .i64 c.l, .int .i64 c.x, .int .i64 c.k, .int .i64 c.t, .slice c.oa c.ol c.oc, .slice c.na c.nl c.nc]] Wy fun x w' => x = .returned (.bool true) ∧ C s w' := fun {s} Wy h => by
            rw [hC] at h
            refine (alike_pair (r.tch h (fun _ _ _ h => h)) ((HB2.out.no T.out).tch.trans h (fun _ _ h => h.elim))).mono ?_
            rintro x w' ⟨rfl, t'⟩
            exact ⟨rfl, by rw [hC]; exact h.trans' t'⟩
          have h0' : C [] w3.drew := by rw [hC]; exact (Tch.refl _ _).drew
          have Hfin : Hid (∀ s Wy, C s Wy → Tch (fun _ => False) w2 Wy) := fun s Wy h => by rw [hC] at h; exact T.out.trans' h
          clear hC hcell r
          go_wp2_with fail
          refine wp_region_ordv [] C 9 [0, 1, 2, 3, 4, 5, 6, 7, 8] (by kernel_rfl) (by kernel_rfl) h0' ?_
          clear h0'
          refine ordv_read rfl (by go_simp) (by rfl) ?_
          apply Exists.intro
          refine ⟨fun s' Wy hW b K Q hK' => ?_, fun K hK' => ?_⟩
          · obtain ⟨x0, x1, x2, x3, x4, x5, z0, z1, z2, z3, z4, z5⟩ := hK _ Wy hW
            go_simp
            exact hK' Wy hW
          go_simp
          refine hK' _ ?_
          clear hK' K
          refine ordv_read rfl (by go_simp) (by rfl) ?_
          apply Exists.intro
          refine ⟨fun s' Wy hW b K Q hK' => ?_, fun K hK' => ?_⟩
          · obtain ⟨x0, x1, x2, x3, x4, x5, z0, z1, z2, z3, z4, z5⟩ := hK _ Wy hW
            go_simp
            exact hK' Wy hW
          go_simp
          refine hK' _ ?_
          clear hK' K
          refine ordv_read rfl (by go_simp) (by rfl) ?_
          apply Exists.intro
          refine ⟨fun s' Wy hW b K Q hK' => ?_, fun K hK' => ?_⟩
          · obtain ⟨x0, x1, x2, x3, x4, x5, z0, z1, z2, z3, z4, z5⟩ := hK _ Wy hW
            go_simp
            exact hK' Wy hW
          go_simp
          refine hK' _ ?_
          clear hK' K
          refine ordv_read rfl (by go_simp) (by rfl) ?_
          apply Exists.intro
          refine ⟨fun s' Wy hW b K Q hK' => ?_, fun K hK' => ?_⟩
          · obtain ⟨x0, x1, x2, x3, x4, x5, z0, z1, z2, z3, z4, z5⟩ := hK _ Wy hW
            go_simp
            exact hK' Wy hW
          go_simp
          refine hK' _ ?_
          clear hK' K
          refine ordv_read rfl (by go_simp) (by rfl) ?_
          apply Exists.intro
          refine ⟨fun s' Wy hW b K Q hK' => ?_, fun K hK' => ?_⟩
          · obtain ⟨x0, x1, x2, x3, x4, x5, z0, z1, z2, z3, z4, z5⟩ := hK _ Wy hW
            go_simp
            exact hK' Wy hW
          go_simp
          refine hK' _ ?_
          clear hK' K
          refine ordv_read rfl (by go_simp) (by rfl) ?_
          apply Exists.intro
          refine ⟨fun s' Wy hW b K Q hK' => ?_, fun K hK' => ?_⟩
          · obtain ⟨x0, x1, x2, x3, x4, x5, z0, z1, z2, z3, z4, z5⟩ := hK _ Wy hW
            go_simp
            exact hK' Wy hW
          go_simp
          refine hK' _ ?_
          clear hK' K
          refine ordv_read rfl (by go_simp) (by rfl) ?_
          apply Exists.intro
          refine ⟨fun s' Wy hW b K Q hK' => ?_, fun K hK' => ?_⟩
          · obtain ⟨x0, x1, x2, x3, x4, x5, z0, z1, z2, z3, z4, z5⟩ := hK _ Wy hW
            go_simp
            exact hK' Wy hW
          go_simp
          refine hK' _ ?_
          clear hK' K
          refine ordv_read rfl (by go_simp) (by rfl) ?_
          apply Exists.intro
          refine ⟨fun s' Wy hW b K Q hK' => ?_, fun K hK' => ?_⟩
          · obtain ⟨x0, x1, x2, x3, x4, x5, z0, z1, z2, z3, z4, z5⟩ := hK _ Wy hW
            go_simp
            exact hK' Wy hW
          go_simp
          refine hK' _ ?_
          clear hK' K
          refine ordv_read rfl (by go_simp) (by rfl) ?_
          apply Exists.intro
          refine ⟨fun s' Wy hW b K Q hK' => ?_, fun K hK' => ?_⟩
          · go_simp
            go_at_call 15
            refine (h6 Wy hW).mono ?_
            rintro x w' ⟨rfl, hw'⟩
            exact hK' w' hw'
          go_simp
          refine hK' _ ?_
          clear hK' K
          refine ordv_nil ?_
          intro w5 hw5
          have H5 : Hid _ := Hfin.out _ w5 hw5
          clear hK hw5 Hfin h6
          go_wp2_with fail
          go_roundg (na - (p + 1))
          case measure => omega
          case rel => exact ⟨p + 1, rfl, by omega, by omega, H5⟩
        · have hp' : ¬ (p : Int) < (na : Int) := by omega
          obtain rfl : na = p := by omega
          have HB3 : Hid (B0 W w3 wr0.heap.size outr out' aa ca ba cb) := HB2.out.no T.out
          obtain ⟨nb, hnb⟩ : ∃ nb, nb = w3.heap.size := ⟨_, rfl⟩
          obtain ⟨w4, hw4⟩ : ∃ w4, w4 = w3.alloc (.cells #[.slice none 0 0, .int .i64 0, .int .i64 0, .int .i64 0, .int .i64 0, .slice none 0 0, .slice none 0 0, .int .i64 0, .int .i64 0, .int .i64 0, .int .i64 0, .slice none 0 0, .slice none 0 0] 42) := ⟨_, rfl⟩
          have H4 : Hid (P4 w3 wr0.heap.size out' aa ca 0 w4 (.slice none 0 0) #[.slice none 0 0, .int .i64 0, .int .i64 0, .int .i64 0, .int .i64 0, .slice none 0 0, .slice none 0 0, .int .i64 0, .int .i64 0, .int .i64 0, .int .i64 0, .slice none 0 0, .slice none 0 0] []) := by rw [hw4]; exact HB3.out.begin _ rfl rfl
          have Hnb : Hid (nb = w3.heap.size) := hnb
          have Hw4 : Hid (w4 = _) := hw4
          clear hw4 hnb
          go_upto_region 23 with (fail)
          rw [← Hw4.out, ← Hnb.out]
          go_wp2_with fail
          go_loopg [12] na (fun kx s12 wr => ∃ (p : Nat) (rv : Value) (cur : Array Value) (A : List Value), s12 = .int .i64 p ∧ na - p ≤ kx ∧ p ≤ na ∧ Hid (P4 w3 wr0.heap.size out' aa ca p wr rv cur A))
          case atStart => exact ⟨0, _, _, _, rfl, by omega, by omega, H4⟩
          case round =>
            obtain ⟨p, rv, cur, A, rfl, hkp, hpn, J⟩ := hrel
            rename World => wr
            by_cases hp : p < na
            · have hp' : (p : Int) < (na : Int) := by omega
              obtain ⟨ga, gb, c, c', rfl, rfl, hc', -, hcell⟩ := J.out.at HB3.out (p := p) (by rw [← Hna.out]; exact hp) (Nat.le_refl _)
              have q1 := P4.one HB3.out J.out hc' (by omega)
              rw [← Hnb.out, ← Hna.out] at q1
              have x4 := (hcell wr (Tch.refl _ _)).1 4 _ rfl
              have Hdn : Hid ((List.replicate p r9 ++ out'.drop p)[p]? = some c' ∧ p < (List.replicate p r9 ++ out'.drop p).length ∧ (List.replicate p r9 ++ out'.drop p).set p r9 = List.replicate (p + 1) r9 ++ out'.drop (p + 1)) := ⟨by rw [drop_nth _ _ _ (Nat.le_refl _)]; exact hc', by have := Hna.out; simp; omega, drop_set out' p (by have := Hna.out; omega)⟩
              clear hcell hc'
              go_wp2_with fail
              refine q1.mono ?_
              rintro e w5 ⟨rfl, ha5, q2⟩
              obtain ⟨ga', e1, -, y⟩ := own_nth ha5 Hdn.out.1
              have e1' : ga = ga' := by simpa using e1
              subst e1'
              have x5 := y 5 _ rfl
              clear q1 ha5 y x4 e1
              go_wp2_with fail
              refine q2.mono ?_
              rintro e w6 ⟨rfl, ha6, hN⟩
              obtain ⟨ga', e1, -, y⟩ := own_nth ha6 Hdn.out.1
              have e1' : ga = ga' := by simpa using e1
              subst e1'
              obtain ⟨x0, x1, x2, x3, x4, x6⟩ := And.intro (y 0 _ rfl) (And.intro (y 1 _ rfl) (And.intro (y 2 _ rfl) (And.intro (y 3 _ rfl) (And.intro (y 4 _ rfl) (y 5 _ rfl)))))
              rw [Nat.add_zero] at x0
              obtain ⟨cu, hcu⟩ := own_ty ha6 (g := ga) rfl
              have f0 := blk_frozen hcu
              obtain ⟨w7, hw7⟩ : ∃ w7, w7 = (((((w6.setCell ⟨ga, p * 6, none⟩ (.int .i64 (-9))).setCell ⟨ga, p * 6 + 1, none⟩ (.int .i64 0)).setCell ⟨ga, p * 6 + 2, none⟩ (.int .i64 0)).setCell ⟨ga, p * 6 + 3, none⟩ (.int .i64 0)).setCell ⟨ga, p * 6 + 4, none⟩ (.slice none 0 0)).setCell ⟨ga, p * 6 + 5, none⟩ (.slice none 0 0) := ⟨_, rfl⟩
              have H7 : Hid (∃ rv' cur' A', P4 w3 wr0.heap.size out' (some ⟨ga, 0, none⟩) ca (p + 1) w7 rv' cur' A') := by
                obtain ⟨k1, k2⟩ := own_set9 ha6 Hdn.out.2.1 hw7
                rw [Hdn.out.2.2] at k1
                exact hN w7 (k2.mono (fun g _ e => by rw [e]; rfl)) k1
              have Hw7 : Hid (w7 = _) := hw7
              clear q2 ha6 y x5 e1 hN hcu hw7
              go_upto_region 29 with (fail)
              rw [← Hw7.out]
              clear x0 x1 x2 x3 x4 x6 f0
              go_wp2_with fail
              go_loopg [13] 3 (fun kx s13 wq => ∃ j : Nat, s13 = .int .i64 j ∧ p + 4 - j ≤ kx ∧ p + 1 ≤ j ∧ j ≤ p + 4 ∧ Hid (∃ rv' cur' A', P4 w3 wr0.heap.size out' (some ⟨ga, 0, none⟩) ca (p + 1) wq rv' cur' A'))
              case atStart => exact ⟨p + 1, rfl, by omega, by omega, by omega, H7⟩
              case round =>
                obtain ⟨j, rfl, hkj, hj1, hj4, Q⟩ := hrel
                rename World => wq
                have hjw : IntKind.i64.wrap ((p : Int) + 4) = (p : Int) + 4 := wrap_of (by omega) (by omega)
                by_cases hjn : j < na
                · have hjn' : (j : Int) < (na : Int) := by omega
                  by_cases hj5 : j < p + 4
                  · have hj5' : (j : Int) < (p : Int) + 4 := by omega
                    obtain ⟨rv', cur', A', Q'⟩ := Q.out
                    obtain ⟨ga', gb', d, d', e1, e2, -, r, hcell⟩ := Q'.at HB3.out (p := j) (by rw [← Hna.out]; exact hjn) hj1
                    have e1' : ga = ga' := by simpa using e1
                    have e2' : gb = gb' := by simpa using e2
                    subst e1' e2'
                    have hta := P4.argt HB3.out Q'
                    obtain ⟨C, hC⟩ : ∃ C : List Value → World → Prop, C = fun _ Wy => Tch (fun _ => False) wq Wy := ⟨_, rfl⟩
                    have hK : ∀ s Wy, C s Wy → Wy.cell? ⟨ga, j * 6, none⟩ = some (.int .i64 d'.l) ∧ Wy.cell? ⟨ga, j * 6 + 1, none⟩ = some (.int .i64 d'.x) ∧ Wy.cell? ⟨ga, j * 6 + 2, none⟩ = some (.int .i64 d'.k) ∧ Wy.cell? ⟨ga, j * 6 + 3, none⟩ = some (.int .i64 d'.t) ∧ Wy.cell? ⟨ga, j * 6 + 4, none⟩ = some (.slice d'.oa d'.ol d'.oc) ∧ Wy.cell? ⟨ga, j * 6 + 5, none⟩ = some (.slice d'.na d'.nl d'.nc) ∧
                        Wy.cell? ⟨gb, j * 6, none⟩ = some (.int .i64 d.l) ∧ Wy.cell? ⟨gb, j * 6 + 1, none⟩ = some (.int .i64 d.x) ∧ Wy.cell? ⟨gb, j * 6 + 2, none⟩ = some (.int .i64 d.k) ∧ Wy.cell? ⟨gb, j * 6 + 3, none⟩ = some (.int .i64 d.t) ∧ Wy.cell? ⟨gb, j * 6 + 4, none⟩ = some (.slice d.oa d.ol d.oc) ∧ Wy.cell? ⟨gb, j * 6 + 5, none⟩ = some (.slice d.na d.nl d.nc) := fun s Wy h => by
                      rw [hC] at h
                      obtain ⟨h1, h2⟩ := hcell Wy h
                      exact ⟨h1 0 _ rfl, h1 1 _ rfl, h1 2 _ rfl, h1 3 _ rfl, h1 4 _ rfl, h1 5 _ rfl, h2 0 _ rfl, h2 1 _ rfl, h2 2 _ rfl, h2 3 _ rfl, h2 4 _ rfl, h2 5 _ rfl⟩
                    have h6 : ∀ {s} Wy, C s Wy → Calls Try.prog 15 #[.agg #[.int .i64 d'.l, .int .i64 d'.x, .int .i64 d'.k, .int .i64 d'.t, .slice d'.oa d'.ol d'.oc, .slice d'.na d'.nl d'.nc], .agg #[.int .i64 d.l, .int .i64 d.x, .int .i64 d.k, .int .i64 d.t, .slice d.oa d.ol d.oc, .slice d.na d.nl d.nc]] Wy fun x w' => x = .returned (.bool true) ∧ C s w' := fun {s} Wy h => by
                      rw [hC] at h
                      refine (alike_pair (r.tch h (fun _ _ _ h => h)) (hta.trans h (fun _ _ h => h.elim))).mono ?_
                      rintro x w' ⟨rfl, t'⟩
                      exact ⟨rfl, by rw [hC]; exact h.trans' t'⟩
                    have h0' : C [] wq.drew := by rw [hC]; exact (Tch.refl _ _).drew
                    have Hfin : Hid (∀ s Wy, C s Wy → ∃ rv' cur' A', P4 w3 wr0.heap.size out' (some ⟨ga, 0, none⟩) ca (p + 1) Wy rv' cur' A') := fun s Wy h => by rw [hC] at h; exact ⟨rv', cur', A', Q'.no h⟩
                    clear hC hcell r Q' e1 e2 hta
                    go_wp2_with fail
                    refine wp_region_ordv [] C 9 [0, 1, 2, 3, 4, 5, 6, 7, 8] (by kernel_rfl) (by kernel_rfl) h0' ?_
                    clear h0'
                    refine ordv_read rfl (by go_simp) (by rfl) ?_
                    apply Exists.intro
                    refine ⟨fun s' Wy hW b K Q hK' => ?_, fun K hK' => ?_⟩
                    · obtain ⟨x0, x1, x2, x3, x4, x5, z0, z1, z2, z3, z4, z5⟩ := hK _ Wy hW
                      go_simp
                      exact hK' Wy hW
                    go_simp
                    refine hK' _ ?_
                    clear hK' K
                    refine ordv_read rfl (by go_simp) (by rfl) ?_
                    apply Exists.intro
                    refine ⟨fun s' Wy hW b K Q hK' => ?_, fun K hK' => ?_⟩
                    · obtain ⟨x0, x1, x2, x3, x4, x5, z0, z1, z2, z3, z4, z5⟩ := hK _ Wy hW
                      go_simp
                      exact hK' Wy hW
                    go_simp
                    refine hK' _ ?_
                    clear hK' K
                    refine ordv_read rfl (by go_simp) (by rfl) ?_
                    apply Exists.intro
                    refine ⟨fun s' Wy hW b K Q hK' => ?_, fun K hK' => ?_⟩
                    · obtain ⟨x0, x1, x2, x3, x4, x5, z0, z1, z2, z3, z4, z5⟩ := hK _ Wy hW
                      go_simp
                      exact hK' Wy hW
                    go_simp
                    refine hK' _ ?_
                    clear hK' K
                    refine ordv_read rfl (by go_simp) (by rfl) ?_
                    apply Exists.intro
                    refine ⟨fun s' Wy hW b K Q hK' => ?_, fun K hK' => ?_⟩
                    · obtain ⟨x0, x1, x2, x3, x4, x5, z0, z1, z2, z3, z4, z5⟩ := hK _ Wy hW
                      go_simp
                      exact hK' Wy hW
                    go_simp
                    refine hK' _ ?_
                    clear hK' K
                    refine ordv_read rfl (by go_simp) (by rfl) ?_
                    apply Exists.intro
                    refine ⟨fun s' Wy hW b K Q hK' => ?_, fun K hK' => ?_⟩
                    · obtain ⟨x0, x1, x2, x3, x4, x5, z0, z1, z2, z3, z4, z5⟩ := hK _ Wy hW
                      go_simp
                      exact hK' Wy hW
                    go_simp
                    refine hK' _ ?_
                    clear hK' K
                    refine ordv_read rfl (by go_simp) (by rfl) ?_
                    apply Exists.intro
                    refine ⟨fun s' Wy hW b K Q hK' => ?_, fun K hK' => ?_⟩
                    · obtain ⟨x0, x1, x2, x3, x4, x5, z0, z1, z2, z3, z4, z5⟩ := hK _ Wy hW
                      go_simp
                      exact hK' Wy hW
                    go_simp
                    refine hK' _ ?_
                    clear hK' K
                    refine ordv_read rfl (by go_simp) (by rfl) ?_
                    apply Exists.intro
                    refine ⟨fun s' Wy hW b K Q hK' => ?_, fun K hK' => ?_⟩
                    · obtain ⟨x0, x1, x2, x3, x4, x5, z0, z1, z2, z3, z4, z5⟩ := hK _ Wy hW
                      go_simp
                      exact hK' Wy hW
                    go_simp
                    refine hK' _ ?_
                    clear hK' K
                    refine ordv_read rfl (by go_simp) (by rfl) ?_
                    apply Exists.intro
                    refine ⟨fun s' Wy hW b K Q hK' => ?_, fun K hK' => ?_⟩
                    · obtain ⟨x0, x1, x2, x3, x4, x5, z0, z1, z2, z3, z4, z5⟩ := hK _ Wy hW
                      go_simp
                      exact hK' Wy hW
                    go_simp
                    refine hK' _ ?_
                    clear hK' K
                    refine ordv_read rfl (by go_simp) (by rfl) ?_
                    apply Exists.intro
                    refine ⟨fun s' Wy hW b K Q hK' => ?_, fun K hK' => ?_⟩
                    · go_simp
                      go_at_call 15
                      refine (h6 Wy hW).mono ?_
                      rintro x w' ⟨rfl, hw'⟩
                      exact hK' w' hw'
                    go_simp
                    refine hK' _ ?_
                    clear hK' K
                    refine ordv_nil ?_
                    intro w8 hw8
                    have H8 : Hid _ := Hfin.out _ w8 hw8
                    clear hK hw8 Hfin h6
                    go_wp2_with fail
                    go_roundg (p + 4 - (j + 1))
                    case measure => omega
                    case rel => exact ⟨j + 1, rfl, by omega, by omega, by omega, H8⟩
                  · have hj5' : ¬ (j : Int) < (p : Int) + 4 := by omega
                    obtain ⟨rv', cur', A', Q'⟩ := Q.out
                    have HQ : Hid _ := Q'
                    clear Q'
                    go_wp2_with fail
                    go_roundg (na - (p + 1))
                    case measure => omega
                    case rel => exact ⟨p + 1, rv', cur', A', rfl, by omega, by omega, HQ⟩
                · have hjn' : ¬ (j : Int) < (na : Int) := by omega
                  obtain ⟨rv', cur', A', Q'⟩ := Q.out
                  have HQ : Hid _ := Q'
                  clear Q'
                  go_wp2_with fail
                  go_roundg (na - (p + 1))
                  case measure => omega
                  case rel => exact ⟨p + 1, rv', cur', A', rfl, by omega, by omega, HQ⟩
            · have hp' : ¬ (p : Int) < (na : Int) := by omega
              obtain rfl : na = p := by omega
              have H5 : Hid (wr.ownsRow wr0.heap.size 27 6 (.slice aa (na + 0) ca) (na + 0) (kcl (List.replicate na r9 ++ out'.drop na)) ∧ (∀ g, (Value.slice aa (na + 0) ca).ownBlock = some g → (Value.slice aa na ca).ownBlock = some g ∨ wr.heap.size ≤ g) ∧ Tch (fun g => (Value.slice aa na ca).ownBlock = some g ∨ wr.heap.size ≤ g) wr wr) := by
                refine ⟨?_, fun g e => .inl e, Tch.refl _ _⟩
                have := J.out.a
                rw [← Hna.out] at this
                exact this
              have hwr : wr0.heap.size ≤ wr.heap.size := Nat.le_trans (hT02.out.trans' T.out).size J.out.tch.size
              go_wp2_with fail
              go_loopg [15, 16] 24 (fun kx s15 s16 wq => ∃ (k : Nat) (co : Option Addr) (cc : Nat) (xs : List Value), s15 = .slice co (na + k) cc ∧ s16 = .int .i64 k ∧ 24 - k ≤ kx ∧ k ≤ 24 ∧ Hid (wq.ownsRow wr0.heap.size 27 6 (.slice co (na + k) cc) (na + k) xs ∧ (∀ g, (Value.slice co (na + k) cc).ownBlock = some g → (Value.slice aa na ca).ownBlock = some g ∨ wr.heap.size ≤ g) ∧ Tch (fun g => (Value.slice aa na ca).ownBlock = some g ∨ wr.heap.size ≤ g) wr wq))
              case atStart => exact ⟨0, aa, ca, _, rfl, rfl, by omega, by omega, H5⟩
              case round =>
                obtain ⟨k, co, cc, xs, rfl, rfl, hkk, hk24, Y⟩ := hrel
                rename World => wq
                by_cases hk : k < 24
                · have hk' : (k : Int) < 24 := by omega
                  obtain ⟨i0, hi0, hz0, hz1, hz2⟩ := info_parts info_ch
                  obtain ⟨wy, hwy⟩ : ∃ wy, wy = wq.alloc (.cells #[.int .i64 (-9), .int .i64 0, .int .i64 0, .int .i64 0, .slice none 0 0, .slice none 0 0] 27) := ⟨_, rfl⟩
                  have ty : Tch (fun _ => False) wq wy := by rw [hwy]; exact Tch.alloc _ _ _
                  have by' : wy.heap[wq.heap.size]? = some (.cells (kc6 r9).toArray 27 (0, 0)) := by rw [hwy]; exact alloc_new _ _
                  have hoy := own_tch Y.out.1 ty (fun _ _ h => h)
                  have hqs := Y.out.2.2.size
                  obtain ⟨v1, w5, hr5, hown5, hgr5, _, hat5⟩ := run_append_own_at (P := Try.prog) wy wr0.heap.size 28 28 27 i0 _ 6 80 Try.underlying28 hi0 hz0 hz1 hz2 rfl (by decide) _ _ _ hoy ⟨wq.heap.size, 0, none⟩ 1 1 (kc6 r9) rfl (fun j u hu => by rw [add_plain, Nat.zero_add, blk_cell by', List.getElem?_toArray]; exact hu) (kc6_one _) (by unfold maxLen; omega) (by omega) (by have := ty.size; omega)
                  have t5 : Tch (fun i => (Value.slice co (na + k) cc).ownBlock = some i) wy w5 := Tch.of_grown hgr5 (fun g e => e)
                  obtain ⟨o1, c1, rfl⟩ := row_slice hown5
                  have H6 : Hid (w5.ownsRow wr0.heap.size 27 6 (.slice o1 (na + (k + 1)) c1) (na + (k + 1)) (xs ++ kc6 r9) ∧ (∀ g, (Value.slice o1 (na + (k + 1)) c1).ownBlock = some g → (Value.slice aa na ca).ownBlock = some g ∨ wr.heap.size ≤ g) ∧ Tch (fun g => (Value.slice aa na ca).ownBlock = some g ∨ wr.heap.size ≤ g) wr w5) := by
                    refine ⟨hown5, fun g e => ?_, (Y.out.2.2.trans ty (fun _ _ h => h.elim)).trans t5 (fun g _ e => Y.out.2.1 g e)⟩
                    have e' : (Value.slice o1 (na + k + 1) c1).ownBlock = some g := e
                    rcases hat5 with e5 | e5
                    · rw [e5] at e'; exact Y.out.2.1 g e'
                    · rw [e5] at e'
                      injection e' with e'
                      have := ty.size
                      exact .inr (by omega)
                  rw [hwy] at hr5
                  clear hi0 hz0 hz1 hz2 hwy ty by' hoy hqs hown5 hgr5 hat5 t5
                  go_wp2_with (at_builtin; refine wpList_app _ rfl _ _ 28 rfl rfl _ _ rfl rfl hr5 ?_)
                  go_roundg (24 - (k + 1))
                  case measure => omega
                  case rel => exact ⟨k + 1, o1, c1, _, rfl, rfl, by omega, by omega, H6⟩
                · have hk' : ¬ (k : Int) < 24 := by omega
                  have tq : Tch (fun g => (Value.slice aa out'.length ca).ownBlock = some g ∨ wr.heap.size ≤ g) wr wq := by rw [← Hna.out]; exact Y.out.2.2
                  have q1 := P4.still HB3.out J.out tq (by omega)
                  rw [← Hnb.out] at q1
                  have tall : Tch (fun g => wr0.heap.size ≤ g) wr0 wq := P4.all HB3.out J.out tq (hT02.out.trans' T.out) rfl
                  have HP : Hid (P1 W gO ls i wq oc hr ls' ∧ wq.ownsRow (gO + 1) 28 1 (.slice ra i rc) i hr) := ⟨I.out.1.later tall, own_tch I.out.2 tall (fun g e e2 => by have := (I.out.2.lt g e).2; omega)⟩
                  clear tq tall
                  go_wp2_with fail
                  refine q1.mono ?_
                  rintro e w8 ⟨rfl, hw8⟩
                  subst hw8
                  clear q1
                  go_wp2_with fail
                  go_loopg [18] i (fun kx s18 wz => ∃ q : Nat, s18 = .int .i64 q ∧ i - q ≤ kx ∧ q ≤ i ∧ Hid (Tch (fun _ => False) w8 wz))
                  case atStart => exact ⟨0, rfl, by omega, by omega, (Tch.refl _ _ : Tch (fun _ => False) w8 w8)⟩
                  case round =>
                    obtain ⟨q, rfl, hkq, hqi, Z⟩ := hrel
                    rename World => wz
                    by_cases hq : q < i
                    · have hq' : (q : Int) < (i : Int) := by omega
                      have hq1 : (q : Int) < (i : Int) + 1 := by omega
                      obtain ⟨u, u', g, cp, gr, gl, ol, ua, ucp, hu, V⟩ := P1.at HP.out.1 HP.out.2 HgO.out Hn.out HL.out hq
                      have hul : u.length ≤ 1048576 := HLT.out.2 u (List.mem_of_getElem? hu)
                      obtain ⟨m, hm⟩ : ∃ m, m = u.length := ⟨_, rfl⟩
                      obtain rfl := V.rr
                      obtain rfl := V.ll
                      obtain ⟨x1, x2, x3, x4, -⟩ := V.el wz Z.out
                      have v1 := V.le
                      have v2 := V.mx
                      have v3 := V.uc
                      have v4 := V.um
                      rw [← hm] at x1 x2 x3 x4 v1 v3 hul
                      have HV : Hid (At7 W gO w8 (some ⟨gl, ol, none⟩) (some ⟨gr, 0, none⟩) q u u' g cp gr gl ol ua ucp ∧ m = u.length) := ⟨V, hm⟩
                      have g1 : (m : Int) < (m : Int) + 1 := by omega
                      clear V hu hm
                      go_wp2_with fail
                      clear x1
                      have n1 : decide ((-77 : Int) = -77) = true := by decide
                      go_quiet (fail)
                      have TQ : Hid (Tch (fun _ => False) w8 (wz.drewN nq)) := Z.out.drewN nq
                      clear x2 x3 x4
                      go_wp2_with fail
                      go_loopg [20] m (fun kx s20 wy => ∃ k : Nat, s20 = .int .i64 k ∧ m - k ≤ kx ∧ k ≤ m ∧ Hid (Tch (fun _ => False) w8 wy))
                      case atStart => exact ⟨0, rfl, by omega, by omega, TQ⟩
                      case round =>
                        obtain ⟨k, rfl, hkk, hkm, Y2⟩ := hrel
                        rename World => wy
                        by_cases hk2 : k < m
                        · have hk2' : (k : Int) < (m : Int) := by omega
                          have hk3' : (k : Int) < (m : Int) + 1 := by omega
                          obtain ⟨_, _, _, x4, hlw, hrl, tWy⟩ := HV.out.1.el wy Y2.out
                          rw [← HV.out.2] at x4
                          obtain ⟨c, hc⟩ : ∃ c, u[k]? = some c := ⟨_, List.getElem?_eq_getElem (by have := HV.out.2; omega)⟩
                          obtain ⟨c', hc', r⟩ := hlw.el.get hc
                          obtain ⟨ge, oe, rfl, hy⟩ := hrl.nth hc
                          obtain ⟨g', eg, -, hx⟩ := own_nth hlw.own (k := k) (c := c') (by rw [List.getElem?_append_left (List.getElem?_eq_some_iff.1 hc').1]; exact hc')
                          have eg' : g = g' := by simpa using eg
                          subst eg'
                          obtain ⟨C, hC⟩ : ∃ C : List Value → World → Prop, C = fun _ Wy => Tch (fun _ => False) wy Wy := ⟨_, rfl⟩
                          have hK : ∀ s Wy, C s Wy → Wy.cell? ⟨g, k * 6, none⟩ = some (.int .i64 c'.l) ∧ Wy.cell? ⟨g, k * 6 + 1, none⟩ = some (.int .i64 c'.x) ∧ Wy.cell? ⟨g, k * 6 + 2, none⟩ = some (.int .i64 c'.k) ∧ Wy.cell? ⟨g, k * 6 + 3, none⟩ = some (.int .i64 c'.t) ∧ Wy.cell? ⟨g, k * 6 + 4, none⟩ = some (.slice c'.oa c'.ol c'.oc) ∧ Wy.cell? ⟨g, k * 6 + 5, none⟩ = some (.slice c'.na c'.nl c'.nc) ∧
                              Wy.cell? ⟨ge, oe + k * 6, none⟩ = some (.int .i64 c.l) ∧ Wy.cell? ⟨ge, oe + k * 6 + 1, none⟩ = some (.int .i64 c.x) ∧ Wy.cell? ⟨ge, oe + k * 6 + 2, none⟩ = some (.int .i64 c.k) ∧ Wy.cell? ⟨ge, oe + k * 6 + 3, none⟩ = some (.int .i64 c.t) ∧ Wy.cell? ⟨ge, oe + k * 6 + 4, none⟩ = some (.slice c.oa c.ol c.oc) ∧ Wy.cell? ⟨ge, oe + k * 6 + 5, none⟩ = some (.slice c.na c.nl c.nc) ∧ Wy.cell? ⟨gl, ol + q, none⟩ = some (.slice (some ⟨ge, oe, none⟩) m ucp) := fun s Wy h => by
                            rw [hC] at h
                            have h1 : ∀ j v, (kc6 c')[j]? = some v → Wy.cell? ⟨g, k * 6 + j, none⟩ = some v := fun j v hv => (h.cell (p := ⟨g, k * 6 + j, none⟩) (cell_lt (hx j v hv)) (fun h => h)).trans (hx j v hv)
                            have h2 : ∀ j v, (kc6 c)[j]? = some v → Wy.cell? ⟨ge, oe + k * 6 + j, none⟩ = some v := fun j v hv => (h.cell (p := ⟨ge, oe + k * 6 + j, none⟩) (cell_lt (hy j v hv)) (fun h => h)).trans (hy j v hv)
                            exact ⟨h1 0 _ rfl, h1 1 _ rfl, h1 2 _ rfl, h1 3 _ rfl, h1 4 _ rfl, h1 5 _ rfl, h2 0 _ rfl, h2 1 _ rfl, h2 2 _ rfl, h2 3 _ rfl, h2 4 _ rfl, h2 5 _ rfl, (h.cell (p := ⟨gl, ol + q, none⟩) (cell_lt x4) (fun h => h)).trans x4⟩
                          have h6 : ∀ {s} Wy, C s Wy → Calls Try.prog 15 #[.agg #[.int .i64 c'.l, .int .i64 c'.x, .int .i64 c'.k, .int .i64 c'.t, .slice c'.oa c'.ol c'.oc, .slice c'.na c'.nl c'.nc], .agg #[.int .i64 c.l, .int .i64 c.x, .int .i64 c.k, .int .i64 c.t, .slice c.oa c.ol c.oc, .slice c.na c.nl c.nc]] Wy fun x w' => x = .returned (.bool true) ∧ C s w' := fun {s} Wy h => by
                            rw [hC] at h
                            refine (alike_pair (r.tch h (fun _ _ _ h => h)) (tWy.trans h (fun _ _ h => h.elim))).mono ?_
                            rintro x w' ⟨rfl, t'⟩
                            exact ⟨rfl, by rw [hC]; exact h.trans' t'⟩
                          have h0' : C [] wy.drew := by rw [hC]; exact (Tch.refl _ _).drew
                          have Hfin : Hid (∀ s Wy, C s Wy → Tch (fun _ => False) w8 Wy) := fun s Wy h => by rw [hC] at h; exact Y2.out.trans' h
                          clear hC r hlw hrl tWy hc hc' hx hy eg
                          go_wp2_with fail
                          refine wp_region_ordv [] C 12 [0, 1, 2, 3, 4, 5, 6, 7, 8, 9, 10, 11] (by kernel_rfl) (by kernel_rfl) h0' ?_
                          clear h0' x4
                          refine ordv_read rfl (by go_simp) (by rfl) ?_
                          apply Exists.intro
                          refine ⟨fun s' Wy hW b K Q hK' => ?_, fun K hK' => ?_⟩
                          · obtain ⟨x0, x1, x2, x3, x4, x5, z0, z1, z2, z3, z4, z5, y4⟩ := hK _ Wy hW
                            go_simp
                            exact hK' Wy hW
                          go_simp
                          refine hK' _ ?_
                          clear hK' K
                          refine ordv_read rfl (by go_simp) (by rfl) ?_
                          apply Exists.intro
                          refine ⟨fun s' Wy hW b K Q hK' => ?_, fun K hK' => ?_⟩
                          · obtain ⟨x0, x1, x2, x3, x4, x5, z0, z1, z2, z3, z4, z5, y4⟩ := hK _ Wy hW
                            go_simp
                            exact hK' Wy hW
                          go_simp
                          refine hK' _ ?_
                          clear hK' K
                          refine ordv_read rfl (by go_simp) (by rfl) ?_
                          apply Exists.intro
                          refine ⟨fun s' Wy hW b K Q hK' => ?_, fun K hK' => ?_⟩
                          · obtain ⟨x0, x1, x2, x3, x4, x5, z0, z1, z2, z3, z4, z5, y4⟩ := hK _ Wy hW
                            go_simp
                            exact hK' Wy hW
                          go_simp
                          refine hK' _ ?_
                          clear hK' K
                          refine ordv_read rfl (by go_simp) (by rfl) ?_
                          apply Exists.intro
                          refine ⟨fun s' Wy hW b K Q hK' => ?_, fun K hK' => ?_⟩
                          · obtain ⟨x0, x1, x2, x3, x4, x5, z0, z1, z2, z3, z4, z5, y4⟩ := hK _ Wy hW
                            go_simp
                            exact hK' Wy hW
                          go_simp
                          refine hK' _ ?_
                          clear hK' K
                          refine ordv_read rfl (by go_simp) (by rfl) ?_
                          apply Exists.intro
                          refine ⟨fun s' Wy hW b K Q hK' => ?_, fun K hK' => ?_⟩
                          · obtain ⟨x0, x1, x2, x3, x4, x5, z0, z1, z2, z3, z4, z5, y4⟩ := hK _ Wy hW
                            go_simp
                            exact hK' Wy hW
                          go_simp
                          refine hK' _ ?_
                          clear hK' K
                          refine ordv_read rfl (by go_simp) (by rfl) ?_
                          apply Exists.intro
                          refine ⟨fun s' Wy hW b K Q hK' => ?_, fun K hK' => ?_⟩
                          · obtain ⟨x0, x1, x2, x3, x4, x5, z0, z1, z2, z3, z4, z5, y4⟩ := hK _ Wy hW
                            go_simp
                            exact hK' Wy hW
                          go_simp
                          refine hK' _ ?_
                          clear hK' K
                          refine ordv_read rfl (by go_simp) (by rfl) ?_
                          apply Exists.intro
                          refine ⟨fun s' Wy hW b K Q hK' => ?_, fun K hK' => ?_⟩
                          · obtain ⟨x0, x1, x2, x3, x4, x5, z0, z1, z2, z3, z4, z5, y4⟩ := hK _ Wy hW
                            go_simp
                            exact hK' Wy hW
                          go_simp
                          refine hK' _ ?_
                          clear hK' K
                          refine ordv_read rfl (by go_simp) (by rfl) ?_
                          apply Exists.intro
                          refine ⟨fun s' Wy hW b K Q hK' => ?_, fun K hK' => ?_⟩
                          · obtain ⟨x0, x1, x2, x3, x4, x5, z0, z1, z2, z3, z4, z5, y4⟩ := hK _ Wy hW
                            go_simp
                            exact hK' Wy hW
                          go_simp
                          refine hK' _ ?_
                          clear hK' K
                          refine ordv_read rfl (by go_simp) (by rfl) ?_
                          apply Exists.intro
                          refine ⟨fun s' Wy hW b K Q hK' => ?_, fun K hK' => ?_⟩
                          · obtain ⟨x0, x1, x2, x3, x4, x5, z0, z1, z2, z3, z4, z5, y4⟩ := hK _ Wy hW
                            go_simp
                            exact hK' Wy hW
                          go_simp
                          refine hK' _ ?_
                          clear hK' K
                          refine ordv_read rfl (by go_simp) (by rfl) ?_
                          apply Exists.intro
                          refine ⟨fun s' Wy hW b K Q hK' => ?_, fun K hK' => ?_⟩
                          · obtain ⟨x0, x1, x2, x3, x4, x5, z0, z1, z2, z3, z4, z5, y4⟩ := hK _ Wy hW
                            go_simp
                            exact hK' Wy hW
                          go_simp
                          refine hK' _ ?_
                          clear hK' K
                          refine ordv_read rfl (by go_simp) (by rfl) ?_
                          apply Exists.intro
                          refine ⟨fun s' Wy hW b K Q hK' => ?_, fun K hK' => ?_⟩
                          · obtain ⟨x0, x1, x2, x3, x4, x5, z0, z1, z2, z3, z4, z5, y4⟩ := hK _ Wy hW
                            go_simp
                            exact hK' Wy hW
                          go_simp
                          refine hK' _ ?_
                          clear hK' K
                          refine ordv_read rfl (by go_simp) (by rfl) ?_
                          apply Exists.intro
                          refine ⟨fun s' Wy hW b K Q hK' => ?_, fun K hK' => ?_⟩
                          · go_simp
                            go_at_call 15
                            refine (h6 Wy hW).mono ?_
                            rintro x w' ⟨rfl, hw'⟩
                            exact hK' w' hw'
                          go_simp
                          refine hK' _ ?_
                          clear hK' K
                          refine ordv_nil ?_
                          intro w5 hw5
                          have H5b : Hid _ := Hfin.out _ w5 hw5
                          clear hK hw5 Hfin h6
                          go_wp2_with fail
                          go_roundg (m - (k + 1))
                          case measure => omega
                          case rel => exact ⟨k + 1, rfl, by omega, by omega, H5b⟩
                        · have hk2' : ¬ (k : Int) < (m : Int) := by omega
                          obtain rfl : m = k := by omega
                          obtain ⟨_, _, _, x4, _⟩ := HV.out.1.el wy Y2.out
                          rw [← HV.out.2] at x4
                          have g2 : (m : Int) ≤ (cp : Int) := by omega
                          obtain ⟨dd, hdd⟩ : ∃ dd : Bool, dd = true ↔ Ris (u.map Rc.l) := by
                            classical
                            exact ⟨decide (Ris (u.map Rc.l)), by simp⟩
                          obtain ⟨C, hC⟩ : ∃ C : List Value → World → Prop, C = fun _ Wy => Tch (fun _ => False) wy Wy := ⟨_, rfl⟩
                          have hK : ∀ s Wy, C s Wy → Wy.cell? ⟨gl, ol + q, none⟩ = some (.slice ua m ucp) ∧ True := fun s Wy h => by
                            rw [hC] at h
                            exact ⟨(h.cell (p := ⟨gl, ol + q, none⟩) (cell_lt x4) (fun h => h)).trans x4, trivial⟩
                          have h6 : ∀ {s} Wy, C s Wy → Calls Try.prog 21 #[.slice (some ⟨g, 0, none⟩) m cp] Wy fun x w' => x = .returned (.bool dd) ∧ C s w' := fun {s} Wy h => by
                            rw [hC] at h
                            obtain ⟨_, _, _, _, hlw, _, _⟩ := HV.out.1.el Wy (Y2.out.trans' h)
                            have q1 := rising_any _ _ u' _ cp Wy hlw.rl.1 (by rw [HV.out.1.len, ← HV.out.2]; omega)
                            rw [HV.out.1.len, ← HV.out.2] at q1
                            refine q1.mono ?_
                            rintro x w' ⟨⟨d, rfl, hd⟩, t'⟩
                            have em : u'.map Rc.l = u.map Rc.l := by
                              apply List.ext_getElem?
                              intro j
                              rw [List.getElem?_map, List.getElem?_map]
                              cases hj : u[j]? with
                              | none => rw [List.getElem?_eq_none (by rw [HV.out.1.len]; exact List.getElem?_eq_none_iff.1 hj)]
                              | some c =>
                                obtain ⟨c', e1, e2⟩ := hlw.el.get hj
                                rw [e1]; simp [e2.sm.l]
                            rw [em] at hd
                            have ed : d = dd := Bool.eq_iff_iff.2 (hd.trans hdd.symm)
                            exact ⟨by rw [ed], by rw [hC]; exact h.trans' t'⟩
                          have h7 : ∀ {s} Wy, C s Wy → Calls Try.prog 22 #[.slice ua m ucp] Wy fun x w' => x = .returned (.bool dd) ∧ C s w' := fun {s} Wy h => by
                            rw [hC] at h
                            obtain ⟨_, _, _, _, _, hrl, _⟩ := HV.out.1.el Wy (Y2.out.trans' h)
                            have q1 := rrising_any _ _ u _ ucp Wy hrl (by rw [← HV.out.2]; omega)
                            rw [← HV.out.2] at q1
                            refine q1.mono ?_
                            rintro x w' ⟨⟨d, rfl, hd⟩, t'⟩
                            have ed : d = dd := Bool.eq_iff_iff.2 (hd.trans hdd.symm)
                            exact ⟨by rw [ed], by rw [hC]; exact h.trans' t'⟩
                          have h0' : C [] wy.drew := by rw [hC]; exact (Tch.refl _ _).drew
                          have Hfin : Hid (∀ s Wy, C s Wy → Tch (fun _ => False) w8 Wy) := fun s Wy h => by rw [hC] at h; exact Y2.out.trans' h
                          clear hC hdd
                          go_wp2_with fail
                          refine wp_region_ordv [] C 13 [0, 1, 2, 3, 4, 5, 6, 7, 8, 9, 10, 11, 12] (by kernel_rfl) (by kernel_rfl) h0' ?_
                          clear h0' x4
                          refine ordv_read rfl (by go_simp) (by rfl) ?_
                          apply Exists.intro
                          refine ⟨fun s' Wy hW b K Q hK' => ?_, fun K hK' => ?_⟩
                          · obtain ⟨y4, -⟩ := hK _ Wy hW
                            go_simp
                            exact hK' Wy hW
                          go_simp
                          refine hK' _ ?_
                          clear hK' K
                          refine ordv_read rfl (by go_simp) (by rfl) ?_
                          apply Exists.intro
                          refine ⟨fun s' Wy hW b K Q hK' => ?_, fun K hK' => ?_⟩
                          · obtain ⟨y4, -⟩ := hK _ Wy hW
                            go_simp
                            exact hK' Wy hW
                          go_simp
                          refine hK' _ ?_
                          clear hK' K
                          refine ordv_read rfl (by go_simp) (by rfl) ?_
                          apply Exists.intro
                          refine ⟨fun s' Wy hW b K Q hK' => ?_, fun K hK' => ?_⟩
                          · obtain ⟨y4, -⟩ := hK _ Wy hW
                            go_simp
                            exact hK' Wy hW
                          go_simp
                          refine hK' _ ?_
                          clear hK' K
                          refine ordv_read rfl (by go_simp) (by rfl) ?_
                          apply Exists.intro
                          refine ⟨fun s' Wy hW b K Q hK' => ?_, fun K hK' => ?_⟩
                          · obtain ⟨y4, -⟩ := hK _ Wy hW
                            go_simp
                            exact hK' Wy hW
                          go_simp
                          refine hK' _ ?_
                          clear hK' K
                          refine ordv_read rfl (by go_simp) (by rfl) ?_
                          apply Exists.intro
                          refine ⟨fun s' Wy hW b K Q hK' => ?_, fun K hK' => ?_⟩
                          · obtain ⟨y4, -⟩ := hK _ Wy hW
                            go_simp
                            exact hK' Wy hW
                          go_simp
                          refine hK' _ ?_
                          clear hK' K
                          refine ordv_read rfl (by go_simp) (by rfl) ?_
                          apply Exists.intro
                          refine ⟨fun s' Wy hW b K Q hK' => ?_, fun K hK' => ?_⟩
                          · obtain ⟨y4, -⟩ := hK _ Wy hW
                            go_simp
                            exact hK' Wy hW
                          go_simp
                          refine hK' _ ?_
                          clear hK' K
                          refine ordv_read rfl (by go_simp) (by rfl) ?_
                          apply Exists.intro
                          refine ⟨fun s' Wy hW b K Q hK' => ?_, fun K hK' => ?_⟩
                          · obtain ⟨y4, -⟩ := hK _ Wy hW
                            go_simp
                            exact hK' Wy hW
                          go_simp
                          refine hK' _ ?_
                          clear hK' K
                          refine ordv_read rfl (by go_simp) (by rfl) ?_
                          apply Exists.intro
                          refine ⟨fun s' Wy hW b K Q hK' => ?_, fun K hK' => ?_⟩
                          · go_simp
                            go_at_call 21
                            refine (h6 Wy hW).mono ?_
                            rintro x w' ⟨rfl, hw'⟩
                            exact hK' w' hw'
                          go_simp
                          refine hK' _ ?_
                          clear hK' K
                          refine ordv_read rfl (by go_simp) (by rfl) ?_
                          apply Exists.intro
                          refine ⟨fun s' Wy hW b K Q hK' => ?_, fun K hK' => ?_⟩
                          · obtain ⟨y4, -⟩ := hK _ Wy hW
                            go_simp
                            exact hK' Wy hW
                          go_simp
                          refine hK' _ ?_
                          clear hK' K
                          refine ordv_read rfl (by go_simp) (by rfl) ?_
                          apply Exists.intro
                          refine ⟨fun s' Wy hW b K Q hK' => ?_, fun K hK' => ?_⟩
                          · obtain ⟨y4, -⟩ := hK _ Wy hW
                            go_simp
                            exact hK' Wy hW
                          go_simp
                          refine hK' _ ?_
                          clear hK' K
                          refine ordv_read rfl (by go_simp) (by rfl) ?_
                          apply Exists.intro
                          refine ⟨fun s' Wy hW b K Q hK' => ?_, fun K hK' => ?_⟩
                          · obtain ⟨y4, -⟩ := hK _ Wy hW
                            go_simp
                            exact hK' Wy hW
                          go_simp
                          refine hK' _ ?_
                          clear hK' K
                          refine ordv_read rfl (by go_simp) (by rfl) ?_
                          apply Exists.intro
                          refine ⟨fun s' Wy hW b K Q hK' => ?_, fun K hK' => ?_⟩
                          · obtain ⟨y4, -⟩ := hK _ Wy hW
                            go_simp
                            exact hK' Wy hW
                          go_simp
                          refine hK' _ ?_
                          clear hK' K
                          refine ordv_read rfl (by go_simp) (by rfl) ?_
                          apply Exists.intro
                          refine ⟨fun s' Wy hW b K Q hK' => ?_, fun K hK' => ?_⟩
                          · go_simp
                            go_at_call 22
                            refine (h7 Wy hW).mono ?_
                            rintro x w' ⟨rfl, hw'⟩
                            exact hK' w' hw'
                          go_simp
                          refine hK' _ ?_
                          clear hK' K
                          refine ordv_nil ?_
                          intro w5 hw5
                          have H5b : Hid _ := Hfin.out _ w5 hw5
                          clear hK hw5 Hfin h6 h7
                          cases dd with
                          | true =>
                            go_wp2_with fail
                            go_roundg (i - (q + 1))
                            case measure => omega
                            case rel => exact ⟨q + 1, rfl, by omega, by omega, H5b⟩
                          | false =>
                            go_wp2_with fail
                            go_roundg (i - (q + 1))
                            case measure => omega
                            case rel => exact ⟨q + 1, rfl, by omega, by omega, H5b⟩
                    · have hq' : ¬ (q : Int) < (i : Int) := by omega
                      obtain rfl : i = q := by omega
                      have p1 := rising_lit 1 2 wz
                      go_wp2_with fail
                      refine p1.mono ?_
                      rintro e wa ⟨rfl, ta⟩
                      have p2 := rising_lit 2 2 wa
                      have HTa : Hid (Tch (fun _ => False) w8 wa) := Z.out.trans' ta
                      clear p1 ta
                      rw [show decide ((1 : Int) < 2) = true from by decide]
                      go_wp2_with fail
                      refine p2.mono ?_
                      rintro e wb ⟨rfl, tb⟩
                      rw [show decide ((2 : Int) < 2) = false from by decide]
                      have tb8 : Tch (fun _ => False) w8 wb := HTa.out.trans' tb
                      have y0 : wb.cell? ⟨gO, i, none⟩ = some (.slice none 0 0) := by
                        have k1 : w8.cell? ⟨gO, i, none⟩ = some (.slice none 0 0) := (blk_cell HP.out.1.blk i).trans (HP.out.1.oz i (Nat.le_refl _) (by have := Hn.out; omega))
                        exact (tb8.cell (p := ⟨gO, i, none⟩) (cell_lt k1) (fun h => h)).trans k1
                      have HTb : Hid (Tch (fun _ => False) W wb) := (HP.out.1.tch.mono (fun k hk e => by have := HgO.out; omega)).trans' tb8
                      have g3 : (i : Int) < (i : Int) + 1 := by omega
                      have heq : (binOp .eql 28 (.slice none 0 0) (.slice none 0 0)).run Try.prog wb = .ok (.bool true) wb := Lib.run_eql_slice_nil_nil wb 0 0 Try.underlying28
                      clear p2 tb tb8
                      go_wp2
                      go_ret
                      exact ⟨rfl, HTb.out⟩





end Go.Proofs.Ytclfaflmjgpbhaa
