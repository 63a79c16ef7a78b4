import Derived.Test.YtblhmjndegfofaaCStill
import Derived.Test.YtblhmjndegfofaaCFit2
/- fits of the book. -/
namespace Go.Proofs.Ytblhmjndegfofaa
open Go.RowKit Go

/-- The rows of a book. -/
structure BKr (W : World) (F : Nat → Prop) (b : Nat) (cur : Array Value) (R : List Value) (rv hv wv : Value) (xs : List Val) : Prop where
  blk : W.heap[b]? = some (.cells cur 49 (0, 0))
  size : cur.size = 17
  c2 : cur[2]? = some rv
  c15 : cur[15]? = some hv
  c16 : cur[16]? = some wv
  l14 : R.length % 14 = 0
  len : xs.length ≤ 8
  ls : LS 23 W (fun i => (F i ∨ wv.ownBlock = some i) ∨ hv.ownBlock = some i) b mkR R rv
  hown : W.ownsRow 0 38 3 hv xs.length (vcl xs)
  wown : W.ownsRow 0 38 3 wv xs.length (vcl xs)
  hg : ∀ g, hv.ownBlock = some g → g ≠ b ∧ ¬ F g ∧ wv.ownBlock ≠ some g
  wg : ∀ g, wv.ownBlock = some g → g ≠ b ∧ ¬ F g
  nb : ¬ F b
theorem BKr.tch {S : Nat → Prop} {W W' : World} {F : Nat → Prop} {b : Nat} {cur : Array Value} {R : List Value} {rv hv wv : Value} {xs : List Val} (h : BKr W F b cur R rv hv wv xs) (t : Tch S W W') (hS : ∀ i, S i → F i) : BKr W' F b cur R rv hv wv xs :=
  ⟨by rw [t.block b (blk_lt h.blk) (fun hs => h.nb (hS b hs))]; exact h.blk, h.size, h.c2, h.c15, h.c16, h.l14, h.len, h.ls.tch t (fun i hs => Or.inr (Or.inl (Or.inl (hS i hs)))), own_tch h.hown t (fun g e hs => (h.hg g e).2.1 (hS g hs)), own_tch h.wown t (fun g e hs => (h.wg g e).2 (hS g hs)), h.hg, h.wg, h.nb⟩
theorem BKr.fresh {W : World} {F F' : Nat → Prop} {b : Nat} {cur : Array Value} {R : List Value} {rv hv wv : Value} {xs : List Val} (h : BKr W F b cur R rv hv wv xs) (hF : ∀ i, i < W.heap.size → F' i → F i) : BKr W F' b cur R rv hv wv xs :=
  ⟨h.blk, h.size, h.c2, h.c15, h.c16, h.l14, h.len, h.ls.fresh (fun i hi h' => h'.imp (fun h' => h'.imp (hF i hi) id) id), h.hown, h.wown, fun g e => ⟨(h.hg g e).1, fun hf => (h.hg g e).2.1 (hF g (h.hown.lt g e).2 hf), (h.hg g e).2.2⟩, fun g e => ⟨(h.wg g e).1, fun hf => (h.wg g e).2 (hF g (h.wown.lt g e).2 hf)⟩, fun hf => h.nb (hF b (blk_lt h.blk) hf)⟩
theorem own_sl {W : World} {base sz n : Nat} {t : TypeId} {ao : Option Addr} {c : Nat} {xs : List Value} (h : W.ownsRow base t sz (.slice ao n c) n xs) : SL W ao xs := fun hx => by
  have hn : 0 < n := by
    rcases Nat.eq_zero_or_pos n with rfl | h'
    · have := h.1; simp at this; exact absurd this hx
    · exact h'
  obtain ⟨g, e, _, ha⟩ := own_at h hn
  exact ⟨g, 0, e, ha⟩

/-- What becomes of a book. -/
def BookOut (b : Nat) (cur : Array Value) (R : List Value) (F : Nat → Prop) (w' : World) : Prop := ∃ cur' R' rv' av bv ys, BKr w' F b cur' R' rv' av bv ys ∧ R'.length = R.length + 14 ∧ ∀ j, j ≠ 2 → j < 15 → cur'[j]? = cur[j]?
theorem At.left {w : World} {g o : Nat} {cs ds : List Value} (h : At w g o (cs ++ ds)) : At w g o cs := fun j u hu => h j u (by rw [List.getElem?_append_left (List.getElem?_eq_some_iff.1 hu).1]; exact hu)
theorem sameRow_eq (ys : List Val) (ao bo : Option Addr) (ca cb : Nat) (w : World) (ha : SL w ao (vcl ys)) (hb : SL w bo (vcl ys)) (h1 : ys.length ≤ 9223372036854775807) :
    Calls Try.prog 46 #[.slice ao ys.length ca, .slice bo ys.length cb] w fun x w' => x = .returned (.bool true) ∧ Tch (fun _ => False) w w' := by
  refine (sameRow_any ys ys ao bo ca cb w ha hb h1).mono ?_
  rintro x w' ⟨d, rfl, hd, m, rfl⟩
  rw [hd.2 rfl]
  exact ⟨rfl, (Tch.refl _ w).drewN m⟩
theorem fitR_len (t : Tbl) (vs : List Val) : (fitR t vs).1.length ≤ 8 := by
  unfold fitR
  split
  · simp
  · rename_i h
    split
    · simp
    · split
      · simp
      · rename_i h2 _
        rw [fullR_len (by omega)]
        exact (right_len (Classical.byContradiction h)).2
set_option maxHeartbeats 4000000 in
set_option maxRecDepth 100000 in
theorem fits_book (b : Nat) (cur : Array Value) (R : List Value) (rv hv wv : Value) (xs : List Val) (t : Tbl) (ao : Option Addr) (c : Nat) (vs : List Val) (ro : Option Addr) (rc : Nat) (F : Nat → Prop) (w : World) (hB : BKr w F b cur R rv hv wv xs)
    (hF : ∀ i, F i → i < w.heap.size) (hR : R.length ≤ 100000000)
    (h : SL w ao (ccl t.cols)) (hao : ao = none → c = 0) (hlen : t.cols.length * 32 ≤ 140737488351232) (hr : SL w ro (vcl vs)) (hro : ro = none → rc = 0) (hvlen : vs.length * 32 ≤ 140737488351232) (hrF : vs ≠ [] → ∀ g o, ro = some ⟨g, o, none⟩ → F g) :
    Calls Try.prog 14 #[.pointer (some ⟨b, 0, none⟩), tA t.id t.ver t.nm (.slice ao t.cols.length c) t.key, .slice ro vs.length rc] w fun x w' => x = .returned (.bool true) ∧ BookOut b cur R F w' ∧ Tch (fun i => ¬ F i) w w' := by
  obtain ⟨N, hN⟩ : ∃ N, N = w.heap.size := ⟨_, rfl⟩
  obtain ⟨n, hn⟩ : ∃ n, n = t.cols.length := ⟨_, rfl⟩
  obtain ⟨m, hm⟩ : ∃ m, m = vs.length := ⟨_, rfl⟩
  obtain ⟨w0, hw0⟩ : ∃ w0, w0 = (w.alloc (.cells #[.int .i64 t.id, .int .i64 t.ver, .string t.nm, .slice ao n c, .int .i64 t.key] 29)).alloc (.cells #[.int .i64 t.id, .int .i64 t.ver, .string t.nm, .slice ao n c, .int .i64 t.key] 29) := ⟨_, rfl⟩
  have T0 : Tch (fun _ => False) w w0 := by rw [hw0]; exact (Tch.alloc _ _ _).allocR _
  have hz0 : w0.heap.size = N + 2 := by rw [hw0, World.size_alloc, World.size_alloc, hN]
  have q1 := lent_any t.cols ao c w0 (h.no T0) hao hlen
  rw [hz0, ← hn] at q1
  have HC0 : Hid (∀ W, Tch (fun i => N + 2 ≤ i) w0 W → (W.cell? ⟨N, 0, none⟩ = some (.int .i64 t.id) ∧ W.cell? ⟨N, 1, none⟩ = some (.int .i64 t.ver) ∧ W.cell? ⟨N, 2, none⟩ = some (.string t.nm) ∧ W.cell? ⟨N, 3, none⟩ = some (.slice ao n c) ∧ W.cell? ⟨N, 4, none⟩ = some (.int .i64 t.key)) ∧ (W.cell? ⟨N + 1, 0, none⟩ = some (.int .i64 t.id) ∧ W.cell? ⟨N + 1, 1, none⟩ = some (.int .i64 t.ver) ∧ W.cell? ⟨N + 1, 2, none⟩ = some (.string t.nm) ∧ W.cell? ⟨N + 1, 3, none⟩ = some (.slice ao n c) ∧ W.cell? ⟨N + 1, 4, none⟩ = some (.int .i64 t.key)) ∧ W.frozen? ⟨N + 1, 3, none⟩ = false) := fun W tW => by
    have tW' : Tch (fun _ => False) w0 W := tW.mono (fun i hi h => by omega)
    have h1 : Tch (fun _ => False) (w.alloc (.cells #[.int .i64 t.id, .int .i64 t.ver, .string t.nm, .slice ao n c, .int .i64 t.key] 29)) W := by rw [hw0] at tW'; exact (Tch.alloc _ _ _).trans' tW'
    have h2 := box5 h1
    have h3 : Tch (fun _ => False) ((w.alloc (.cells #[.int .i64 t.id, .int .i64 t.ver, .string t.nm, .slice ao n c, .int .i64 t.key] 29)).alloc (.cells #[.int .i64 t.id, .int .i64 t.ver, .string t.nm, .slice ao n c, .int .i64 t.key] 29)) W := by rw [hw0] at tW'; exact tW'
    have h4 := box5 h3
    rw [World.size_alloc, ← hN] at h4
    rw [← hN] at h2
    refine ⟨h2, h4, ?_⟩
    rw [tW'.frozen (p := ⟨N + 1, 3, none⟩) (by show N + 1 < _; omega) (fun h => h), hw0]
    have := alloc_new (w.alloc (.cells #[.int .i64 t.id, .int .i64 t.ver, .string t.nm, .slice ao n c, .int .i64 t.key] 29)) (.cells #[.int .i64 t.id, .int .i64 t.ver, .string t.nm, .slice ao n c, .int .i64 t.key] 29)
    rw [World.size_alloc, ← hN] at this
    exact blk_frozen this 3
  have HSL : Hid (∀ W, Tch (fun i => N ≤ i) w W → SL W ao (ccl t.cols) ∧ SL W ro (vcl vs)) := fun W tW => ⟨h.no (tW.mono (fun i hi h => by omega)), hr.no (tW.mono (fun i hi h => by omega))⟩
  have HBK : Hid (∀ W, Tch (fun i => N ≤ i) w W → BKr W (fun i => F i ∨ N ≤ i) b cur R rv hv wv xs) := fun W tW => (hB.fresh (fun i hi h => h.elim id (fun h => by omega))).tch tW (fun i h => Or.inr h)
  have Hw0 : Hid _ := hw0
  have HN : Hid (N = w.heap.size) := hN
  have Hz0 : Hid (w0.heap.size = N + 2) := hz0
  have Hn : Hid (n = t.cols.length) := hn
  have Hm : Hid (m = vs.length) := hm
  have HT0 : Hid (Tch (fun _ => False) w w0) := T0
  have hnI : (n : Int) ≤ 4398046510976 := by omega
  have hmI : (m : Int) ≤ 4398046510976 := by omega
  have hm0 : (0 : Int) ≤ m := by omega
  have hmm : (m : Int) ≤ (m : Int) + 2 := by omega
  have hmm2 : (m : Int) ≤ ((m + 2 : Nat) : Int) := by omega
  rw [← hn, ← hm]
  rw [← hn] at hlen
  rw [← hm] at hvlen
  clear hB h hr hw0 hN hz0 hn hm T0
  go_enter Try.func14, Try.ntmps14
  go_wp2_with fail
  rw [← HN.out]
  have hw0 := Hw0.out
  rw [← hw0]
  clear hw0
  refine q1.mono ?_
  rintro x w1 ⟨rfl, hG1, t1⟩
  clear q1
  obtain ⟨⟨d0, d1, d2, d3, d4⟩, ⟨e0, e1, e2, e3, e4⟩, fz⟩ := HC0.out w1 (t1.mono (fun _ _ h => h.elim))
  have HG1 : Hid _ := hG1
  clear hG1
  have HT1 : Hid _ := t1
  obtain ⟨w2, hw2⟩ : ∃ w2, w2 = w1.setCell ⟨N + 1, 3, none⟩ (.slice (some ⟨N + 2, 0, none⟩) n (n + 2)) := ⟨_, rfl⟩
  obtain ⟨RB, hRB⟩ : ∃ RB, RB = w1.heap.size := ⟨_, rfl⟩
  have hmk := make_row (m + 2) w2 (by omega)
  have hz2 : w2.heap.size = RB := by rw [hw2, World.size_setCell, hRB]
  rw [show (((m + 2 : Nat)) : Int) = (m : Int) + 2 by omega, hz2] at hmk
  obtain ⟨w3, hw3⟩ : ∃ w3, w3 = w2.alloc (.cells (rep (m + 2) [.int .i64 0, .int .i64 0, .string ⟨#[]⟩]).toArray 38) := ⟨_, rfl⟩
  rw [← hw3] at hmk
  have t2 : Tch (fun i => i = N + 1) w1 w2 := by rw [hw2]; exact Tch.setCell _ _ _ _ rfl
  have t3 : Tch (fun _ => False) w2 w3 := by rw [hw3]; exact Tch.alloc _ _ _
  have hlt1 : N + 2 < w1.heap.size := blk_lt HG1.out
  have t13 : Tch (fun i => N ≤ i) w w3 := ((HT0.out.trans' (HT1.out.trans' (Tch.refl _ w1))).mono (fun _ _ h => h.elim)).trans ((t2.mono (T := fun i => N ≤ i) (fun i _ h => by omega)).trans' (t3.mono (fun _ _ h => h.elim))) (fun i _ h => h)
  have hb3 : w3.heap[RB]? = some (.cells (rep (m + 2) [.int .i64 0, .int .i64 0, .string ⟨#[]⟩]).toArray 38 (0, 0)) := by rw [hw3, ← hz2]; exact alloc_new _ _
  obtain ⟨w4, hcp, hb4, t4⟩ := copy_in (P := Try.prog) w3 23 38 38 RB (m + 2) (m + 2) ro m rc _ (vcl vs) Try.underlying23 info_val3 hb3 (by rw [vcl_len, Hm.out]) (by omega) (by rw [List.size_toArray, rep_len]; simp; omega) (vcl_one vs) (HSL.out w3 t13).2 hro
  have hd : (rep (m + 2) [.int .i64 0, .int .i64 0, .string ⟨#[]⟩]).toArray.toList.drop (m * 3) = rep 2 [.int .i64 0, .int .i64 0, .string ⟨#[]⟩] := rep_drop m 2 [.int .i64 0, .int .i64 0, .string ⟨#[]⟩]
  rw [hd] at hb4
  obtain ⟨X, hX⟩ : ∃ X, X = (vcl vs ++ rep 2 [.int .i64 0, .int .i64 0, .string ⟨#[]⟩]).toArray := ⟨_, rfl⟩
  rw [← hX] at hb4
  have hsz : X.size = m * 3 + 6 := by rw [hX, List.size_toArray, List.length_append, vcl_len, rep_len, Hm.out]; simp
  obtain ⟨y0, c0⟩ : ∃ y, w4.cell? ⟨RB, m * 3 + 2, none⟩ = some y := ⟨X[m * 3 + 2]'(by omega), by rw [blk_cell hb4]; exact Array.getElem?_eq_getElem _⟩
  obtain ⟨y1, c1⟩ : ∃ y, (w4.setCell ⟨RB, m * 3 + 2, none⟩ (.string ⟨#[98, 101, 104, 105, 110, 100]⟩)).cell? ⟨RB, (m + 1) * 3 + 2, none⟩ = some y := ⟨X[(m + 1) * 3 + 2]'(by omega), by
    rw [World.cell?_setCell_other (h := by intro e; injection e; omega), blk_cell hb4]; exact Array.getElem?_eq_getElem _⟩
  have f0 := blk_frozen hb4 (m * 3 + 2)
  have f1 := blk_frozen hb4 ((m + 1) * 3 + 2)
  obtain ⟨w5, hw5⟩ : ∃ w5, w5 = (w4.setCell ⟨RB, m * 3 + 2, none⟩ (.string ⟨#[98, 101, 104, 105, 110, 100]⟩)).setCell ⟨RB, (m + 1) * 3 + 2, none⟩ (.string ⟨#[102, 97, 114]⟩) := ⟨_, rfl⟩
  have HR5 : Hid (w5.heap[RB]? = some (.cells (vcl (lentV vs)).toArray 38 (0, 0))) := by
    show _ = _
    rw [hw5, blk_set (blk_set hb4 _) _, hX, Hm.out, lentV_cells]
  have T25 : Tch (fun _ => False) w2 w5 := by
    have hTa : Tch (fun i => i = RB) w3 w5 := by rw [hw5]; exact (t4.setCellR ⟨RB, m * 3 + 2, none⟩ _ rfl).setCellR ⟨RB, (m + 1) * 3 + 2, none⟩ _ rfl
    exact t3.trans hTa (fun i hi e => by omega)
  have HT5 : Hid (Tch (fun i => N ≤ i) w w5) := ((HT0.out.trans' HT1.out).mono (fun _ _ h => h.elim)).trans ((t2.mono (T := fun i => N ≤ i) (fun i _ h => by omega)).trans' (T25.mono (fun _ _ h => h.elim))) (fun i _ h => h)
  have HG5 : Hid (w5.heap[N + 2]? = some (.cells (ccl (lentC t.cols)).toArray 34 (0, 0))) := by
    show _ = _
    rw [T25.block (N + 2) (by rw [hz2, hRB]; exact hlt1) (fun h => h), t2.block (N + 2) hlt1 (by omega)]; exact HG1.out
  have HC5 : Hid (∀ (S : Nat → Prop) W, Tch S w5 W → ¬ S N → ¬ S (N + 1) → ¬ S RB → (W.cell? ⟨N, 0, none⟩ = some (.int .i64 t.id) ∧ W.cell? ⟨N, 1, none⟩ = some (.int .i64 t.ver) ∧ W.cell? ⟨N, 2, none⟩ = some (.string t.nm) ∧ W.cell? ⟨N, 3, none⟩ = some (.slice ao n c) ∧ W.cell? ⟨N, 4, none⟩ = some (.int .i64 t.key)) ∧ (W.cell? ⟨N + 1, 0, none⟩ = some (.int .i64 t.id) ∧ W.cell? ⟨N + 1, 1, none⟩ = some (.int .i64 t.ver) ∧ W.cell? ⟨N + 1, 2, none⟩ = some (.string t.nm) ∧ W.cell? ⟨N + 1, 3, none⟩ = some (.slice (some ⟨N + 2, 0, none⟩) n (n + 2)) ∧ W.cell? ⟨N + 1, 4, none⟩ = some (.int .i64 t.key)) ∧ At W RB 0 (vcl (lentV vs))) := fun S W tW s0 s1 s2 => by
    have k5 : ∀ i, i < RB → ¬ S i → ∀ j, W.cell? ⟨i, j, none⟩ = w2.cell? ⟨i, j, none⟩ := fun i hi hs j => by
      have hi2 : i < w2.heap.size := by omega
      rw [tW.cell (p := ⟨i, j, none⟩) (Nat.lt_of_lt_of_le hi2 T25.size) hs, T25.cell (p := ⟨i, j, none⟩) hi2 (fun h => h)]
    have kN : ∀ j, W.cell? ⟨N, j, none⟩ = w1.cell? ⟨N, j, none⟩ := fun j => by
      rw [k5 N (by omega) s0 j, hw2, World.cell?_setCell_other (h := by intro e; injection e; omega)]
    have kO : ∀ j, j ≠ 3 → W.cell? ⟨N + 1, j, none⟩ = w1.cell? ⟨N + 1, j, none⟩ := fun j hj => by
      rw [k5 (N + 1) (by omega) s1 j, hw2, World.cell?_setCell_other (h := by intro e; injection e; omega)]
    refine ⟨⟨(kN 0).trans d0, (kN 1).trans d1, (kN 2).trans d2, (kN 3).trans d3, (kN 4).trans d4⟩, ⟨(kO 0 (by omega)).trans e0, (kO 1 (by omega)).trans e1, (kO 2 (by omega)).trans e2, ?_, (kO 4 (by omega)).trans e4⟩, (blk_at HR5.out).tch tW (fun _ => s2)⟩
    rw [k5 (N + 1) (by omega) s1 3, hw2, World.cell?_setCell_same (h := e3)]
  have HRBl : Hid (N + 2 < RB ∧ RB < w5.heap.size) := ⟨by omega, blk_lt HR5.out⟩
  have Hw5 : Hid _ := hw5
  have HRB : Hid (RB = w1.heap.size) := hRB
  have Hw2 : Hid _ := hw2
  rw [hw2] at hmk
  clear hb3 hb4 hX hw3 hd hsz t2 t3 t4 t13 T25 hlt1 hz2 hw5 hRB hw2
  go_wp2_with fail
  have hw5 := Hw5.out
  rw [← hw5]
  clear hw5 c0 c1 f0 f1 hcp hmk d0 d1 d2 d3 d4 e0 e1 e2 e3 e4 fz t1
  obtain ⟨ys, hys⟩ : ∃ ys, ys = (fitR t vs).1 := ⟨_, rfl⟩
  obtain ⟨E, hE⟩ : ∃ E, E = (fitR t vs).2 := ⟨_, rfl⟩
  have hy8 : ys.length ≤ 8 := by rw [hys]; exact fitR_len t vs
  have HSG : Hid (∀ W, Tch (fun _ => False) w5 W → SL W (some ⟨N + 2, 0, none⟩) (ccl t.cols)) := fun W tW _ => ⟨N + 2, 0, rfl, by
    have h1 := (blk_at HG5.out).tch tW (fun _ h => h)
    rw [show ccl (lentC t.cols) = ccl t.cols ++ _ from f3_append ..] at h1
    exact h1.left⟩
  have HSR : Hid (∀ W, At W RB 0 (vcl (lentV vs)) → SL W (some ⟨RB, 0, none⟩) (vcl vs)) := fun W h1 _ => ⟨RB, 0, rfl, by
    rw [show vcl (lentV vs) = vcl vs ++ _ from f3_append ..] at h1
    exact h1.left⟩
  have Hq1 : Hid (∀ W, Tch (fun _ => False) w5 W → Calls Try.prog 9 #[tA t.id t.ver t.nm (.slice (some ⟨N + 2, 0, none⟩) n (n + 2)) t.key, .slice (some ⟨RB, 0, none⟩) m (m + 2)] W fun x w' => (∃ v, x = .returned (.tuple #[v, .int .i64 E]) ∧ w'.ownsRow (RB + 1) 38 3 v ys.length (vcl ys)) ∧ Tch (fun _ => False) W w') := fun W tW => by
    have h1 := fit_any t (some ⟨N + 2, 0, none⟩) (n + 2) vs (some ⟨RB, 0, none⟩) (m + 2) W (HSG.out W tW) (by have := Hn.out; omega) (by have := Hn.out; omega) (HSR.out W ((blk_at HR5.out).tch tW (fun _ h => h))) (fun e => by cases e)
    rw [← Hn.out, ← Hm.out] at h1
    refine h1.mono ?_
    rintro x w' ⟨⟨v, hx, ho⟩, tw⟩
    rw [hys, hE]
    exact ⟨⟨v, hx, own_low ho (by have := HRBl.out.2; have := tW.size; omega)⟩, tw⟩
  have Hq2 : Hid (∀ W, Tch (fun i => N ≤ i) w W → Calls Try.prog 45 #[tA t.id t.ver t.nm (.slice ao n c) t.key, .slice ro m rc] W fun x w' => (∃ v, x = .returned (.tuple #[v, .int .i64 E]) ∧ w'.ownsRow W.heap.size 38 3 v ys.length (vcl ys)) ∧ Tch (fun _ => False) W w') := fun W tW => by
    have h1 := rfit_any t ao c vs ro rc W (HSL.out W tW).1 (HSL.out W tW).2
    rw [← Hn.out, ← Hm.out] at h1
    refine h1.mono ?_
    rintro x w' ⟨⟨v, hx, ho⟩, tw⟩
    rw [hys, hE]
    exact ⟨⟨v, hx, ho⟩, tw⟩
  clear hys hE
  have HS8 : Hid (∀ W, Tch (fun _ => False) w5 W → Tch (fun _ => False) w5 W ∧ W.cell? ⟨N + 1, 0, none⟩ = some (.int .i64 t.id) ∧ W.cell? ⟨N + 1, 1, none⟩ = some (.int .i64 t.ver) ∧ W.cell? ⟨N + 1, 2, none⟩ = some (.string t.nm) ∧ W.cell? ⟨N + 1, 3, none⟩ = some (.slice (some ⟨N + 2, 0, none⟩) n (n + 2)) ∧ W.cell? ⟨N + 1, 4, none⟩ = some (.int .i64 t.key)) := fun W tW => ⟨tW, (HC5.out _ W tW (fun h => h) (fun h => h) (fun h => h)).2.1⟩
  obtain ⟨_, e0, e1, e2, e3, e4⟩ := HS8.out w5 (Tch.refl _ _)
  go_region_held3 (fun W => Tch (fun _ => False) w5 W ∧ W.cell? ⟨N + 1, 0, none⟩ = some (.int .i64 t.id) ∧ W.cell? ⟨N + 1, 1, none⟩ = some (.int .i64 t.ver) ∧ W.cell? ⟨N + 1, 2, none⟩ = some (.string t.nm) ∧ W.cell? ⟨N + 1, 3, none⟩ = some (.slice (some ⟨N + 2, 0, none⟩) n (n + 2)) ∧ W.cell? ⟨N + 1, 4, none⟩ = some (.int .i64 t.key))
    ((refine HS8.out _ ?_; first | assumption | exact (Tch.refl _ _).drew))
    ((go_at_call 9; refine (Hq1.out _ (show _ ∧ _ by assumption).1).mono ?_; rintro y w6 ⟨⟨av, rfl, hav⟩, t6⟩; have V6 := Tch.trans' (show _ ∧ _ by assumption).1 t6))
  clear e0 e1 e2 e3 e4 HS8 Hq1
  have HBw : Hid _ := HBK.out w (Tch.refl _ _)
  have hbN : b < N := by rw [HN.out]; exact blk_lt HBw.out.blk
  have HrvN : Hid (∀ g, rv.ownBlock = some g → g < N) := fun g e => by rw [HN.out]; exact (HBw.out.ls.all.lt g e).2
  have HhvN : Hid (∀ g, hv.ownBlock = some g → g < N) := fun g e => by rw [HN.out]; exact (HBw.out.hown.lt g e).2
  have HwvN : Hid (∀ g, wv.ownBlock = some g → g < N) := fun g e => by rw [HN.out]; exact (HBw.out.wown.lt g e).2
  obtain ⟨a1, ac, hav'⟩ := row_slice hav
  subst hav'
  obtain ⟨⟨d0, d1, d2, d3, d4⟩, _⟩ := HC5.out _ w6 V6 (fun h => h) (fun h => h) (fun h => h)
  have HT6 : Hid (Tch (fun i => N ≤ i) w w6) := HT5.out.trans' (V6.mono (fun _ _ h => h.elim))
  have Hav6 : Hid (w6.ownsRow (RB + 1) 38 3 (.slice a1 ys.length ac) ys.length (vcl ys)) := hav
  clear t6 hav
  go_wp2_with fail
  refine (Hq2.out w6 HT6.out).mono ?_
  rintro x w7 ⟨⟨bv, rfl, hbv⟩, t7⟩
  obtain ⟨b1, bc, hbv'⟩ := row_slice hbv
  subst hbv'
  have V7 : Tch (fun _ => False) w5 w7 := V6.trans' t7
  have Hav7 : Hid (w7.ownsRow (RB + 1) 38 3 (.slice a1 ys.length ac) ys.length (vcl ys)) := own_tch Hav6.out t7 (fun _ _ h => h)
  have Hbv7 : Hid (w7.ownsRow (RB + 1) 38 3 (.slice b1 ys.length bc) ys.length (vcl ys)) := own_low hbv (by have := HRBl.out.2; have := V6.size; omega)
  have Hab : Hid (∀ g, (Value.slice a1 ys.length ac).ownBlock = some g → (Value.slice b1 ys.length bc).ownBlock ≠ some g) := fun g e e2 => by have := (Hav6.out.lt g e).2; have := (hbv.lt g e2).1; omega
  have q8 := sameRow_eq ys a1 b1 ac bc w7 (own_sl Hav7.out) (own_sl Hbv7.out) (by omega)
  clear d0 d1 d2 d3 d4 V6 Hq2 Hav6 hbv t7
  go_wp2_with fail
  refine q8.mono ?_
  rintro x w8 ⟨rfl, t8⟩
  clear q8
  have V8 : Tch (fun _ => False) w5 w8 := V7.trans' t8
  have Hq9 : Hid (∀ (S : Nat → Prop) W, Tch S w5 W → ¬ S N → ¬ S (N + 1) → ¬ S RB → SL W ro (vcl vs) → Calls Try.prog 46 #[.slice (some ⟨RB, 0, none⟩) m (m + 2), .slice ro m rc] W fun x w' => x = .returned (.bool true) ∧ Tch (fun _ => False) W w') := fun S W tW s0 s1 s2 hsl => by
    have h1 := sameRow_eq vs (some ⟨RB, 0, none⟩) ro (m + 2) rc W (HSR.out W (HC5.out S W tW s0 s1 s2).2.2) hsl (by have := Hm.out; omega)
    rw [← Hm.out] at h1
    exact h1
  have HT8 : Hid (Tch (fun i => N ≤ i) w w8) := HT5.out.trans' (V8.mono (fun _ _ h => h.elim))
  have q9 := Hq9.out _ w8 V8 (fun h => h) (fun h => h) (fun h => h) (HSL.out w8 HT8.out).2
  go_wp2_with fail
  refine q9.mono ?_
  rintro x w9 ⟨rfl, t9⟩
  clear q9
  have V9 : Tch (fun _ => False) w5 w9 := V8.trans' t9
  have HT9 : Hid (Tch (fun i => N ≤ i) w w9) := HT5.out.trans' (V9.mono (fun _ _ h => h.elim))
  obtain ⟨⟨_, _, _, d3, _⟩, _⟩ := HC5.out _ w9 V9 (fun h => h) (fun h => h) (fun h => h)
  have q10 := back_any t.cols ao c (N + 2) w9 (HSL.out w9 HT9.out).1 (by rw [V9.block (N + 2) (blk_lt HG5.out) (fun h => h)]; exact HG5.out) (by rw [← Hn.out]; exact hlen)
  rw [← Hn.out] at q10
  go_wp2_with fail
  refine q10.mono ?_
  rintro x w10 ⟨rfl, t10⟩
  clear q10 d3
  have V10 : Tch (fun i => i = N + 2) w5 w10 := (V9.mono (fun _ _ h => h.elim)).trans' t10
  have HT10 : Hid (Tch (fun i => N ≤ i) w w10) := HT5.out.trans' (V10.mono (fun i _ h => by omega))
  have Hav10 : Hid (w10.ownsRow (RB + 1) 38 3 (.slice a1 ys.length ac) ys.length (vcl ys)) := own_tch (own_tch (own_tch Hav7.out t8 (fun _ _ h => h)) t9 (fun _ _ h => h)) t10 (fun g e h => by have := (Hav7.out.lt g e).1; have := HRBl.out.1; omega)
  have Hbv10 : Hid (w10.ownsRow (RB + 1) 38 3 (.slice b1 ys.length bc) ys.length (vcl ys)) := own_tch (own_tch (own_tch Hbv7.out t8 (fun _ _ h => h)) t9 (fun _ _ h => h)) t10 (fun g e h => by have := (Hbv7.out.lt g e).1; have := HRBl.out.1; omega)
  clear t8 t9 t10 V7 V8 V9 Hav7 Hbv7
  obtain ⟨ho, hcp, hhv⟩ := row_slice HBw.out.hown
  obtain ⟨wo, wcp, hwv⟩ := row_slice HBw.out.wown
  have HBW : Hid (∀ W, Tch (fun _ => False) w10 W → BKr W (fun i => F i ∨ N ≤ i) b cur R rv hv wv xs) := fun W tW => HBK.out W (HT10.out.trans' (tW.mono (fun _ _ h => h.elim)))
  have Hq13 : Hid (∀ W, Tch (fun _ => False) w10 W → Calls Try.prog 46 #[hv, wv] W fun x w' => x = .returned (.bool true) ∧ Tch (fun _ => False) W w') := fun W tW => by
    have h1 := (HBW.out W tW).hown
    have h2 := (HBW.out W tW).wown
    rw [hhv] at h1 ⊢
    rw [hwv] at h2 ⊢
    exact sameRow_eq xs ho wo hcp wcp W (own_sl h1) (own_sl h2) (by have := HBw.out.len; omega)
  have HS13 : Hid (∀ W, Tch (fun _ => False) w10 W → Tch (fun _ => False) w10 W ∧ W.cell? ⟨b, 15, none⟩ = some hv ∧ W.cell? ⟨b, 16, none⟩ = some wv) := fun W tW => ⟨tW, by rw [blk_cell (HBW.out W tW).blk]; exact HBw.out.c15, by rw [blk_cell (HBW.out W tW).blk]; exact HBw.out.c16⟩
  obtain ⟨_, k15, k16⟩ := HS13.out w10 (Tch.refl _ _)
  have Hhv : Hid _ := hhv
  clear hhv hwv
  go_wp2_with fail
  go_region_held3 (fun W => Tch (fun _ => False) w10 W ∧ W.cell? ⟨b, 15, none⟩ = some hv ∧ W.cell? ⟨b, 16, none⟩ = some wv)
    ((refine HS13.out _ ?_; first | assumption | exact (Tch.refl _ _).drew))
    ((go_at_call 46; refine (Hq13.out _ (show _ ∧ _ by assumption).1).mono ?_; rintro y w11 ⟨rfl, t11⟩; have V11 := Tch.trans' (show _ ∧ _ by assumption).1 t11))
  clear k15 k16
  obtain ⟨_, k15, k16⟩ := HS13.out w11 V11
  have HB11 : Hid _ := HBW.out w11 V11
  have q14 := row_any b cur R rv hv xs.length (vcl xs) (fun i => (F i ∨ (N ≤ i ∧ i < w11.heap.size)) ∨ wv.ownBlock = some i) w11 HB11.out.blk HB11.out.size HB11.out.c2 (HB11.out.ls.fresh (fun i hi h => by
      rcases h with ((h | h) | h) | h
      · exact Or.inl (Or.inl (Or.inl h))
      · exact Or.inl (Or.inl (Or.inr h.1))
      · exact Or.inl (Or.inr h)
      · exact Or.inr h)) HB11.out.hown HB11.out.len (fun g e => ⟨(HB11.out.hg g e).1, fun h => by
      rcases h with (h | h) | h
      · exact (HB11.out.hg g e).2.1 (Or.inl h)
      · exact (HB11.out.hg g e).2.1 (Or.inr h.1)
      · exact (HB11.out.hg g e).2.2 h⟩) (fun i h => by
      have hsz := (HT10.out.trans' (V11.mono (fun _ _ h => h.elim))).size
      rcases h with (h | h) | h
      · have := hF i h; omega
      · exact h.2
      · have := HwvN.out i h; have := HN.out; omega) hR HB11.out.l14
  go_wp2_with fail
  refine q14.mono ?_
  rintro x w12 ⟨rfl, ⟨rv', R', hR', hb12, hL12⟩, t12⟩
  clear q14 k15 k16
  have Hbl : Hid (b < w11.heap.size) := blk_lt HB11.out.blk
  have V12 : Tch (fun i => i = N + 2 ∨ i = b ∨ rv.ownBlock = some i ∨ hv.ownBlock = some i) w5 w12 := ((V10.mono (fun _ _ h => Or.inl h)).trans' (V11.mono (fun _ _ h => h.elim))).trans' (t12.mono (fun _ _ h => Or.inr h))
  have HnS : Hid (∀ i, N ≤ i → i ≠ N + 2 → ¬ (i = N + 2 ∨ i = b ∨ rv.ownBlock = some i ∨ hv.ownBlock = some i)) := fun i hi h2 h => by
    rcases h with h | h | h | h
    · exact h2 h
    · omega
    · have := HrvN.out i h; omega
    · have := HhvN.out i h; omega
  have HnT : Hid (∀ i, N ≤ i → ¬ (i = b ∨ rv.ownBlock = some i ∨ hv.ownBlock = some i)) := fun i hi h => by
    rcases h with h | h | h
    · omega
    · have := HrvN.out i h; omega
    · have := HhvN.out i h; omega
  have Hav12 : Hid (w12.ownsRow (RB + 1) 38 3 (.slice a1 ys.length ac) ys.length (vcl ys)) := own_tch (own_tch Hav10.out V11 (fun _ _ h => h)) t12 (fun g e => HnT.out g (by have := (World.ownsRow.lt Hav10.out g e).1; have := HRBl.out.1; omega))
  have Hbv12 : Hid (w12.ownsRow (RB + 1) 38 3 (.slice b1 ys.length bc) ys.length (vcl ys)) := own_tch (own_tch Hbv10.out V11 (fun _ _ h => h)) t12 (fun g e => HnT.out g (by have := (World.ownsRow.lt Hbv10.out g e).1; have := HRBl.out.1; omega))
  have Hablt : Hid ((∀ g, (Value.slice a1 ys.length ac).ownBlock = some g → RB + 1 ≤ g ∧ g < w11.heap.size) ∧ ∀ g, (Value.slice b1 ys.length bc).ownBlock = some g → RB + 1 ≤ g ∧ g < w11.heap.size) := by
    have hs11 := V11.size
    exact ⟨fun g e => ⟨(World.ownsRow.lt Hav10.out g e).1, Nat.lt_of_lt_of_le (World.ownsRow.lt Hav10.out g e).2 hs11⟩, fun g e => ⟨(World.ownsRow.lt Hbv10.out g e).1, Nat.lt_of_lt_of_le (World.ownsRow.lt Hbv10.out g e).2 hs11⟩⟩
  have q15 := sameRow_eq ys a1 b1 ac bc w12 (own_sl Hav12.out) (own_sl Hbv12.out) (by omega)
  have Hb12 : Hid _ := hb12
  have HL12 : Hid _ := hL12
  have Ht12 : Hid _ := t12
  have HR' : Hid _ := hR'
  clear hb12 hL12 t12 hR'
  go_wp2_with fail
  refine q15.mono ?_
  rintro x w13 ⟨rfl, t13⟩
  clear q15
  have hcz : cur.size = 17 := HBw.out.size
  have Hb13 : Hid (w13.heap[b]? = some (.cells (cur.setIfInBounds 2 rv') 49 (0, 0))) := by
    show _ = _
    rw [t13.block b (blk_lt Hb12.out) (fun h => h)]; exact Hb12.out
  obtain ⟨z15, k15⟩ : ∃ z, w13.cell? ⟨b, 15, none⟩ = some z := ⟨(cur.setIfInBounds 2 rv')[15]'(by simp; omega), by rw [blk_cell Hb13.out]; exact Array.getElem?_eq_getElem _⟩
  obtain ⟨z16, k16⟩ : ∃ z, (w13.setCell ⟨b, 15, none⟩ (.slice a1 ys.length ac)).cell? ⟨b, 16, none⟩ = some z := ⟨(cur.setIfInBounds 2 rv')[16]'(by simp; omega), by
    rw [World.cell?_setCell_other (h := by intro e; injection e; omega), blk_cell Hb13.out]; exact Array.getElem?_eq_getElem _⟩
  have f15 := blk_frozen Hb13.out 15
  have f16 := blk_frozen Hb13.out 16
  obtain ⟨w14, hw14⟩ : ∃ w14, w14 = (w13.setCell ⟨b, 15, none⟩ (.slice a1 ys.length ac)).setCell ⟨b, 16, none⟩ (.slice b1 ys.length bc) := ⟨_, rfl⟩
  have t14 : Tch (fun i => i = b) w13 w14 := by rw [hw14]; exact (Tch.setCell (fun i => i = b) w13 ⟨b, 15, none⟩ _ rfl).setCellR ⟨b, 16, none⟩ _ rfl
  have Hb14 : Hid (w14.heap[b]? = some (.cells (((cur.setIfInBounds 2 rv').setIfInBounds 15 (.slice a1 ys.length ac)).setIfInBounds 16 (.slice b1 ys.length bc)) 49 (0, 0))) := by
    show _ = _
    rw [hw14, blk_set (blk_set Hb13.out _) _]
  have V14 : Tch (fun i => i = N + 2 ∨ i = b ∨ rv.ownBlock = some i ∨ hv.ownBlock = some i) w5 w14 := (V12.trans' (t13.mono (fun _ _ h => h.elim))).trans' (t14.mono (fun _ _ h => Or.inr (Or.inl h)))
  have HSr14 : Hid (SL w14 ro (vcl vs)) := by
    intro hne
    have hne' : vs ≠ [] := by rintro rfl; exact hne rfl
    revert hne
    show SL w14 ro (vcl vs)
    refine (HSL.out w11 (HT10.out.trans' (V11.mono (fun _ _ h => h.elim)))).2.tch ((Ht12.out.trans' (t13.mono (fun _ _ h => h.elim))).trans' (t14.mono (fun _ _ h => Or.inl h))) (fun g o e h => ?_)
    have hf := hrF hne' g o e
    rcases h with h | h | h
    · exact HBw.out.nb (Or.inl (h ▸ hf))
    · exact (HBw.out.ls.ag g h).2 (Or.inl (Or.inl (Or.inl hf)))
    · exact (HBw.out.hg g h).2.1 (Or.inl hf)
  have q18 := Hq9.out _ w14 V14 (HnS.out N (by omega) (by omega)) (HnS.out (N + 1) (by omega) (by omega)) (HnS.out RB (by have := HRBl.out.1; omega) (by have := HRBl.out.1; omega)) HSr14.out
  have Hw14 : Hid _ := hw14
  clear hw14
  go_wp2_with fail
  have hw14 := Hw14.out
  rw [← hw14]
  clear hw14 k15 k16 f15 f16
  refine q18.mono ?_
  rintro x w15 ⟨rfl, t15⟩
  clear q18
  have V15 : Tch (fun i => i = N + 2 ∨ i = b ∨ rv.ownBlock = some i ∨ hv.ownBlock = some i) w5 w15 := V14.trans' (t15.mono (fun _ _ h => h.elim))
  obtain ⟨_, _, ha15⟩ := HC5.out _ w15 V15 (HnS.out N (by omega) (by omega)) (HnS.out (N + 1) (by omega) (by omega)) (HnS.out RB (by have := HRBl.out.1; omega) (by have := HRBl.out.1; omega))
  have hll := lentV_len vs
  have c0 : w15.cell? ⟨RB, m * 3 + 2, none⟩ = some (.string ⟨#[98, 101, 104, 105, 110, 100]⟩) := by
    have := (ha15.val vs.length (by omega)).2.2
    rw [Hm.out]
    simpa [lentV] using this
  have c1 : w15.cell? ⟨RB, (m + 1) * 3 + 2, none⟩ = some (.string ⟨#[102, 97, 114]⟩) := by
    have := (ha15.val (vs.length + 1) (by omega)).2.2
    rw [Hm.out]
    simpa [lentV] using this
  have HBS : Hid (BS 38 w15 RB ((m + 2) * 3)) := (show BS 38 w5 RB ((m + 2) * 3) from ⟨_, HR5.out, by rw [List.size_toArray, vcl_len, hll, ← Hm.out]⟩).tch V15 (HnS.out RB (by have := HRBl.out.1; omega) (by have := HRBl.out.1; omega))
  have HV15 : Hid _ := V15
  clear ha15 hll
  go_wp2_with fail
  go_loopw [21] (fun i wr => ∃ q : Nat, i = .int .i64 q ∧ q ≤ m + 2 ∧ Hid (BS 38 wr RB ((m + 2) * 3)) ∧ Hid (Tch (fun i => i = RB) w15 wr)) (fun i _ => m + 2 - (intOf i).toNat)
  case atStart => exact ⟨0, rfl, by omega, HBS, Tch.refl _ _⟩
  case round =>
    obtain ⟨q, rfl, hq, HB3, HT3⟩ := hrel
    by_cases hqn : (q : Int) < m + 2
    · obtain ⟨cu, hh, hs⟩ := HB3.out
      obtain ⟨⟨y0, e0⟩, ⟨y1, e1⟩, ⟨y2, e2⟩, hf⟩ := set3_cells hh hs (by omega : q < m + 2) (.int .i64 7) (.int .i64 0)
      have f0 := hf (q * 3); have f1 := hf (q * 3 + 1); have f2 := hf (q * 3 + 2)
      have HB4 : Hid (BS 38 (((wr.setCell ⟨RB, q * 3, none⟩ (.int .i64 7)).setCell ⟨RB, q * 3 + 1, none⟩ (.int .i64 0)).setCell ⟨RB, q * 3 + 2, none⟩ (.string ⟨#[]⟩)) RB ((m + 2) * 3)) := ((BS.set HB3.out _ _).set _ _).set _ _
      have HT4 : Hid (Tch (fun i => i = RB) w15 (((wr.setCell ⟨RB, q * 3, none⟩ (.int .i64 7)).setCell ⟨RB, q * 3 + 1, none⟩ (.int .i64 0)).setCell ⟨RB, q * 3 + 2, none⟩ (.string ⟨#[]⟩))) := ((Tch.setCellR HT3.out ⟨RB, q * 3, none⟩ _ rfl).setCellR ⟨RB, q * 3 + 1, none⟩ _ rfl).setCellR ⟨RB, q * 3 + 2, none⟩ _ rfl
      clear hf hs hh
      go_wp2_with fail
      go_roundw
      case rel => exact ⟨q + 1, by go_num, by omega, HB4, HT4⟩
      case measure => simp [intOf]; omega
    · have hRBN := HRBl.out.1
      have tE : Tch (fun i => i = b ∨ i = RB) w13 wr := (t14.mono (fun _ _ h => Or.inl h)).trans' ((t15.mono (fun _ _ h => h.elim)).trans' (HT3.out.mono (fun _ _ h => Or.inr h)))
      have hRBb : RB ≠ b := by omega
      have HFin : Hid (BookOut b cur R F wr) := by
        have hRBlt : RB < w11.heap.size := by
          have h1 := HRBl.out.2; have h2 := V10.size; have h3 := V11.size; omega
        refine ⟨((cur.setIfInBounds 2 rv').setIfInBounds 15 (.slice a1 ys.length ac)).setIfInBounds 16 (.slice b1 ys.length bc), R', rv', .slice a1 ys.length ac, .slice b1 ys.length bc, ys, ⟨?_, by simp [hcz], ?_, ?_, ?_, by rw [HR'.out]; have := HBw.out.l14; omega, hy8, ?_, ?_, ?_, ?_, ?_, ?_⟩, HR'.out, fun j h2 h15 => ?_⟩
        · rw [(HT3.out.block b (by have := t15.size; have := blk_lt Hb14.out; omega) (fun h => hRBb h.symm)), t15.block b (blk_lt Hb14.out) (fun h => h)]; exact Hb14.out
        · rw [Array.getElem?_setIfInBounds_ne (by omega), Array.getElem?_setIfInBounds_ne (by omega), Array.getElem?_setIfInBounds_self_of_lt (by omega)]
        · rw [Array.getElem?_setIfInBounds_ne (by omega), Array.getElem?_setIfInBounds_self_of_lt (by simp; omega)]
        · rw [Array.getElem?_setIfInBounds_self_of_lt (by simp; omega)]
        · have h1 := (HL12.out.tch t13 (fun _ h => h.elim)).tch tE (fun i h => h.imp id (fun h => Or.inl (Or.inr ⟨by omega, by omega⟩)))
          exact h1.fresh (fun i _ h => by
            rcases h with (h | h) | h
            · exact Or.inl (Or.inl h)
            · exact Or.inl (Or.inr ⟨by have := (Hablt.out.2 i h).1; omega, (Hablt.out.2 i h).2⟩)
            · exact Or.inl (Or.inr ⟨by have := (Hablt.out.1 i h).1; omega, (Hablt.out.1 i h).2⟩))
        · exact own_low (own_tch (own_tch Hav12.out t13 (fun _ _ h => h)) tE (fun g e h => by have := (Hablt.out.1 g e).1; omega)) (Nat.zero_le _)
        · exact own_low (own_tch (own_tch Hbv12.out t13 (fun _ _ h => h)) tE (fun g e h => by have := (Hablt.out.2 g e).1; omega)) (Nat.zero_le _)
        · exact fun g e => ⟨by have := (Hablt.out.1 g e).1; omega, fun h => by have := hF g h; have := (Hablt.out.1 g e).1; have := HN.out; omega, Hab.out g e⟩
        · exact fun g e => ⟨by have := (Hablt.out.2 g e).1; omega, fun h => by have := hF g h; have := (Hablt.out.2 g e).1; have := HN.out; omega⟩
        · exact fun h => HBw.out.nb (Or.inl h)
        · rw [Array.getElem?_setIfInBounds_ne (by omega), Array.getElem?_setIfInBounds_ne (by omega), Array.getElem?_setIfInBounds_ne (by omega)]
      have HTF : Hid (Tch (fun i => ¬ F i) w wr) := by
        have h1 : Tch (fun i => ¬ F i) w w11 := (HT10.out.trans' (V11.mono (fun _ _ h => h.elim))).mono (fun i hi h => by have := HN.out; omega)
        have h2 : Tch (fun i => ¬ F i) w11 w12 := Ht12.out.mono (fun i _ h hf => by
          rcases h with h | h | h
          · exact HBw.out.nb (Or.inl (h ▸ hf))
          · exact (HBw.out.ls.ag i h).2 (Or.inl (Or.inl (Or.inl hf)))
          · exact (HBw.out.hg i h).2.1 (Or.inl hf))
        have h3 : Tch (fun i => ¬ F i) w12 wr := (t13.mono (fun _ _ h => h.elim)).trans' (tE.mono (fun i _ h hf => by
          rcases h with h | h
          · exact HBw.out.nb (Or.inl (h ▸ hf))
          · have := hF i hf; have := HN.out; omega))
        exact h1.trans' (h2.trans' h3)
      go_wp2_with fail
      go_ret
      exact ⟨rfl, HFin.out, HTF.out⟩
end Go.Proofs.Ytblhmjndegfofaa
