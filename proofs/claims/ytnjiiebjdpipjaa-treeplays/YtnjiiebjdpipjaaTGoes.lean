import Derived.Test.YtnjiiebjdpipjaaTMap1
/- goes of the law: a loop over an iterator gives what it must. -/
namespace Go.Proofs.Ytnjiiebjdpipjaa
open Go.RowKit Go Go.Shelf
attribute [local go_sem] Oper.semAt_some

structure Fg (T : Array Value) (it p6 p10 p11 p13 p14 p15 p16 it2 : Value) : Prop where
  size : T.size = 115
  s1 : T.getD 1 undef = it
  s6 : T.getD 6 undef = p6
  s10 : T.getD 10 undef = p10
  s11 : T.getD 11 undef = p11
  s13 : T.getD 13 undef = p13
  s14 : T.getD 14 undef = p14
  s15 : T.getD 15 undef = p15
  s16 : T.getD 16 undef = p16
  s32 : T.getD 32 undef = it2
theorem arr115 (a : Array Value) (h : a.size = 115) : a = ((List.range 115).map (fun n => a.getD n undef)).toArray := by
  refine Array.ext (by simp [h]) (fun n h1 h2 => ?_)
  simp [Array.getD, h1]
set_option maxRecDepth 100000 in
theorem Fg.use {T : Array Value} {it p6 p10 p11 p13 p14 p15 p16 it2 : Value} {P : Array Value → Prop} (h : Fg T it p6 p10 p11 p13 p14 p15 p16 it2) (H : ∀ u : Nat → Value, P (List.toArray (u 0 :: it :: u 2 :: u 3 :: u 4 :: u 5 :: p6 :: u 7 :: u 8 :: u 9 :: p10 :: p11 :: u 12 :: p13 :: p14 :: p15 :: p16 :: u 17 :: u 18 :: u 19 :: u 20 :: u 21 :: u 22 :: u 23 :: u 24 :: u 25 :: u 26 :: u 27 :: u 28 :: u 29 :: u 30 :: u 31 :: it2 :: u 33 :: u 34 :: u 35 :: u 36 :: u 37 :: u 38 :: u 39 :: u 40 :: u 41 :: u 42 :: u 43 :: u 44 :: u 45 :: u 46 :: u 47 :: u 48 :: u 49 :: u 50 :: u 51 :: u 52 :: u 53 :: u 54 :: u 55 :: u 56 :: u 57 :: u 58 :: u 59 :: u 60 :: u 61 :: u 62 :: u 63 :: u 64 :: u 65 :: u 66 :: u 67 :: u 68 :: u 69 :: u 70 :: u 71 :: u 72 :: u 73 :: u 74 :: u 75 :: u 76 :: u 77 :: u 78 :: u 79 :: u 80 :: u 81 :: u 82 :: u 83 :: u 84 :: u 85 :: u 86 :: u 87 :: u 88 :: u 89 :: u 90 :: u 91 :: u 92 :: u 93 :: u 94 :: u 95 :: u 96 :: u 97 :: u 98 :: u 99 :: u 100 :: u 101 :: u 102 :: u 103 :: u 104 :: u 105 :: u 106 :: u 107 :: u 108 :: u 109 :: u 110 :: u 111 :: u 112 :: u 113 :: u 114 :: []))) : P T := by
  have h1 := arr115 T h.size
  obtain ⟨u, hu⟩ : ∃ u : Nat → Value, u = fun n => T.getD n undef := ⟨_, rfl⟩
  have e : ∀ n, T.getD n undef = u n := fun n => by rw [hu]
  have e1 : u 1 = it := (e 1).symm.trans h.s1
  have e6 : u 6 = p6 := (e 6).symm.trans h.s6
  have e10 : u 10 = p10 := (e 10).symm.trans h.s10
  have e11 : u 11 = p11 := (e 11).symm.trans h.s11
  have e13 : u 13 = p13 := (e 13).symm.trans h.s13
  have e14 : u 14 = p14 := (e 14).symm.trans h.s14
  have e15 : u 15 = p15 := (e 15).symm.trans h.s15
  have e16 : u 16 = p16 := (e 16).symm.trans h.s16
  have e32 : u 32 = it2 := (e 32).symm.trans h.s32
  have h2 : T = (List.toArray (u 0 :: it :: u 2 :: u 3 :: u 4 :: u 5 :: p6 :: u 7 :: u 8 :: u 9 :: p10 :: p11 :: u 12 :: p13 :: p14 :: p15 :: p16 :: u 17 :: u 18 :: u 19 :: u 20 :: u 21 :: u 22 :: u 23 :: u 24 :: u 25 :: u 26 :: u 27 :: u 28 :: u 29 :: u 30 :: u 31 :: it2 :: u 33 :: u 34 :: u 35 :: u 36 :: u 37 :: u 38 :: u 39 :: u 40 :: u 41 :: u 42 :: u 43 :: u 44 :: u 45 :: u 46 :: u 47 :: u 48 :: u 49 :: u 50 :: u 51 :: u 52 :: u 53 :: u 54 :: u 55 :: u 56 :: u 57 :: u 58 :: u 59 :: u 60 :: u 61 :: u 62 :: u 63 :: u 64 :: u 65 :: u 66 :: u 67 :: u 68 :: u 69 :: u 70 :: u 71 :: u 72 :: u 73 :: u 74 :: u 75 :: u 76 :: u 77 :: u 78 :: u 79 :: u 80 :: u 81 :: u 82 :: u 83 :: u 84 :: u 85 :: u 86 :: u 87 :: u 88 :: u 89 :: u 90 :: u 91 :: u 92 :: u 93 :: u 94 :: u 95 :: u 96 :: u 97 :: u 98 :: u 99 :: u 100 :: u 101 :: u 102 :: u 103 :: u 104 :: u 105 :: u 106 :: u 107 :: u 108 :: u 109 :: u 110 :: u 111 :: u 112 :: u 113 :: u 114 :: [])) := by
    refine h1.trans ?_
    rw [← hu]
    show List.toArray (u 0 :: u 1 :: u 2 :: u 3 :: u 4 :: u 5 :: u 6 :: u 7 :: u 8 :: u 9 :: u 10 :: u 11 :: u 12 :: u 13 :: u 14 :: u 15 :: u 16 :: u 17 :: u 18 :: u 19 :: u 20 :: u 21 :: u 22 :: u 23 :: u 24 :: u 25 :: u 26 :: u 27 :: u 28 :: u 29 :: u 30 :: u 31 :: u 32 :: u 33 :: u 34 :: u 35 :: u 36 :: u 37 :: u 38 :: u 39 :: u 40 :: u 41 :: u 42 :: u 43 :: u 44 :: u 45 :: u 46 :: u 47 :: u 48 :: u 49 :: u 50 :: u 51 :: u 52 :: u 53 :: u 54 :: u 55 :: u 56 :: u 57 :: u 58 :: u 59 :: u 60 :: u 61 :: u 62 :: u 63 :: u 64 :: u 65 :: u 66 :: u 67 :: u 68 :: u 69 :: u 70 :: u 71 :: u 72 :: u 73 :: u 74 :: u 75 :: u 76 :: u 77 :: u 78 :: u 79 :: u 80 :: u 81 :: u 82 :: u 83 :: u 84 :: u 85 :: u 86 :: u 87 :: u 88 :: u 89 :: u 90 :: u 91 :: u 92 :: u 93 :: u 94 :: u 95 :: u 96 :: u 97 :: u 98 :: u 99 :: u 100 :: u 101 :: u 102 :: u 103 :: u 104 :: u 105 :: u 106 :: u 107 :: u 108 :: u 109 :: u 110 :: u 111 :: u 112 :: u 113 :: u 114 :: []) = _
    rw [e1, e6, e10, e11, e13, e14, e15, e16, e32]
  rw [h2]
  exact H u
def rngs : Code → List Code
  | .rangeFunc g ps a b => [.rangeFunc g ps a b]
  | .loop c => rngs c
  | .seq a b => rngs a ++ rngs b
  | .block _ c => rngs c
  | .scope c => rngs c
  | .cond _ a b => rngs a ++ rngs b
  | _ => []
noncomputable def goesRng : Code := (Try.f25.body.elim [] rngs).getD 0 .skip
/-- Which element comes. -/
theorem wlk_at {f o : ByteArray} {d : Bool} {l : List It} {a b p : Nat} {x : It} (h : PartRel f o l a b) (hx : (wlk f o d l)[p]? = some x) : p < b - a ∧ l[if d then b - 1 - p else a + p]? = some x := by
  obtain ⟨h1, h2, h3⟩ := part_sp h
  have hl : (cut l a b).length = b - a := by unfold cut; rw [List.length_drop, List.length_take]; omega
  have hg : ∀ j, j < b - a → (cut l a b)[j]? = l[a + j]? := fun j hj => by unfold cut; rw [List.getElem?_drop, List.getElem?_take, if_pos (by omega)]
  unfold wlk fall at hx
  rw [h3] at hx
  cases d with
  | false =>
    simp only [Bool.false_eq_true, if_false] at hx ⊢
    have hp : p < b - a := by have := (List.getElem?_eq_some_iff.1 hx).1; omega
    exact ⟨hp, by rw [← hg p hp]; exact hx⟩
  | true =>
    simp only [if_true] at hx ⊢
    have hp : p < b - a := by have := (List.getElem?_eq_some_iff.1 hx).1; rw [List.length_reverse] at this; omega
    rw [List.getElem?_reverse (by omega), hl] at hx
    refine ⟨hp, ?_⟩
    rw [hg _ (by omega)] at hx
    rw [show b - 1 - p = a + (b - a - 1 - p) by omega]
    exact hx
theorem wlk_len {f o : ByteArray} {d : Bool} {l : List It} {a b : Nat} (h : PartRel f o l a b) : (wlk f o d l).length = b - a := by
  obtain ⟨h1, h2, h3⟩ := part_sp h
  unfold wlk fall
  rw [h3]
  cases d
  · simp only [Bool.false_eq_true, if_false]; unfold cut; rw [List.length_drop, List.length_take]; omega
  · simp only [if_true]; rw [List.length_reverse]; unfold cut; rw [List.length_drop, List.length_take]; omega
/-- What goes knows while its loop goes on. -/
structure GI (W1 : World) (nb : Nat) (c : Nat) (Z : Nat → Prop) (W : World) : Prop where
  t : Tch (fun k => k = nb) W1 W
  n : W.heap[nb]? = some (.cells #[.int .i64 c] 3 (0, 0))
  z : ∀ k, ¬ Z k
set_option maxHeartbeats 4000000 in
set_option maxRecDepth 100000 in
theorem goes_rng (n : Nat) (W1 : World) (b mb q0 bt bs : Nat) (l : List It) (ht : Nat) (F FM : List Nat) (f o : ByteArray) (d : Bool) (most : Int) (a e : Nat) (HTW : Hid (TW W1 b l ht F)) (HMW : Hid (MW W1 mb l FM)) (HP : Hid (PartRel f o l a e)) (Hl : Hid (l.length ≤ 1000000000))
    (Hq : Hid (W1.heap[q0]? = some (.cells #[pv b, pv mb] 53 (0, 0)) ∧ W1.heap[q0 + 1]? = some (.cells #[.bool d] 4 (0, 0)) ∧ W1.heap[q0 + 2]? = some (.cells #[.int .i64 most] 3 (0, 0)) ∧ W1.heap[q0 + 3]? = some (.cells #[.int .i64 a] 3 (0, 0)) ∧ W1.heap[q0 + 4]? = some (.cells #[.int .i64 e] 3 (0, 0)) ∧ W1.heap[q0 + 5]? = some (.cells #[.int .i64 0] 3 (0, 0)) ∧ W1.heap[q0 + 6]? = some (.cells #[.bool true] 4 (0, 0))))
    (HF : Hid (q0 + 5 ∉ F ∧ q0 + 5 ∉ FM)) (Hbt : Hid (W1.heap[bt]? = some (.cells #[pv b] 23 (0, 0)) ∧ bt ≠ q0 + 5)) (Hbs : Hid (W1.heap[bs]? = some (.cells #[.string f, .string o, .bool d] 90 (0, 0)) ∧ bs ≠ q0 + 5))
    {T : Array Value} (hf : Fg T (.func (.func 72) #[] #[pv bt, pv bs]) (pv q0) (pv (q0 + 1)) (pv (q0 + 2)) (pv (q0 + 3)) (pv (q0 + 4)) (pv (q0 + 5)) (pv (q0 + 6)) (.func (.func 72) #[] #[pv bt, pv bs])) (Q0 : Exit → Act → World → Prop)
    (Hexit : Hid (∀ (D c : Nat) (x : Exit) (Z : Nat → Prop) (W' : World), GI W1 (q0 + 5) c Z W' → W1.heap.size ≤ D → W'.heap[D]? = some (.deferred (some [])) → ((x = .normal ∧ c = e - a) ∨ (x = .exit 0 ∧ (c : Int) = most ∧ c ≤ e - a)) → Q0 x ⟨T, [mkD D]⟩ W')) :
    Code.wpIn Fence.wide n Try.prog goesRng Q0 ⟨T, []⟩ W1 := by
  revert Hexit
  refine hf.use (P := fun T => Hid (∀ (D c : Nat) (x : Exit) (Z : Nat → Prop) (W' : World), GI W1 (q0 + 5) c Z W' → W1.heap.size ≤ D → W'.heap[D]? = some (.deferred (some [])) → ((x = .normal ∧ c = e - a) ∨ (x = .exit 0 ∧ (c : Int) = most ∧ c ≤ e - a)) → Q0 x ⟨T, [mkD D]⟩ W') → Code.wpIn Fence.wide n Try.prog goesRng Q0 ⟨T, []⟩ W1) ?_
  clear hf T
  intro u Hexit
  have hse := over1_any (n - 1) W1 b l ht F bt bs f o d HTW.out Hbt.out.1 Hbs.out.1
  have hq5 := blk_lt Hq.out.2.2.2.2.2.1
  conv => arg 4; whnf
  refine range_l (T := fun k => k = q0 + 5) (Z := fun _ => False) rfl (enters_of Try.func72 (by kernel_rfl) rfl) hse (fun _ => rfl) (fun x hx => ⟨by rw [hx]; exact hq5, fun hy => by
      rcases hy with hy | hy | hy
      · exact HF.out.1 (hx ▸ hy)
      · exact Hbt.out.2 (hy.symm.trans hx)
      · exact Hbs.out.2 (hy.symm.trans hx)⟩) (fun x hx => hx.elim) (fun x hx => by
      rcases hx with hx | rfl | rfl
      · exact HTW.out.lt x hx
      · exact blk_lt Hbt.out.1
      · exact blk_lt Hbs.out.1)
    (fun pre Z' W' => GI W1 (q0 + 5) pre.length Z' W')
    (fun cc pre Z' W' => cc = .exit 0 ∧ (pre.length : Int) = most ∧ GI W1 (q0 + 5) pre.length Z' W')
    ?abI ?abX ?start (fun x => { tmps := (List.toArray (u 0 :: .func (.func 72) #[] #[pv bt, pv bs] :: u 2 :: u 3 :: u 4 :: u 5 :: pv q0 :: u 7 :: u 8 :: u 9 :: pv (q0 + 1) :: pv (q0 + 2) :: u 12 :: pv (q0 + 3) :: pv (q0 + 4) :: pv (q0 + 5) :: pv (q0 + 6) :: .string x.1 :: ev x.2 :: u 19 :: u 20 :: u 21 :: u 22 :: u 23 :: u 24 :: u 25 :: u 26 :: u 27 :: u 28 :: u 29 :: u 30 :: u 31 :: .func (.func 72) #[] #[pv bt, pv bs] :: .string x.1 :: ev x.2 :: u 35 :: u 36 :: u 37 :: u 38 :: u 39 :: u 40 :: u 41 :: u 42 :: u 43 :: u 44 :: u 45 :: u 46 :: u 47 :: u 48 :: u 49 :: u 50 :: u 51 :: u 52 :: u 53 :: u 54 :: u 55 :: u 56 :: u 57 :: u 58 :: u 59 :: u 60 :: u 61 :: u 62 :: u 63 :: u 64 :: u 65 :: u 66 :: u 67 :: u 68 :: u 69 :: u 70 :: u 71 :: u 72 :: u 73 :: u 74 :: u 75 :: u 76 :: u 77 :: u 78 :: u 79 :: u 80 :: u 81 :: u 82 :: u 83 :: u 84 :: u 85 :: u 86 :: u 87 :: u 88 :: u 89 :: u 90 :: u 91 :: u 92 :: u 93 :: u 94 :: u 95 :: u 96 :: u 97 :: u 98 :: u 99 :: u 100 :: u 101 :: u 102 :: u 103 :: u 104 :: u 105 :: u 106 :: u 107 :: u 108 :: u 109 :: u 110 :: u 111 :: u 112 :: u 113 :: u 114 :: [])), defers := [] }) ?assign ?body ?done ?stop
  case abI =>
    intro pre Z' W' W'' h t
    exact ⟨h.t.trans t (fun i hi hs => by omega), (t.block _ (blk_lt h.n) (fun hs => by omega)).trans h.n, h.z⟩
  case abX =>
    rintro cc pre Z' W' W'' ⟨h1, h2, h⟩ t
    exact ⟨h1, h2, h.t.trans t (fun i hi hs => by omega), (t.block _ (blk_lt h.n) (fun hs => by omega)).trans h.n, h.z⟩
  case start => exact ⟨Tch.refl _ _, Hq.out.2.2.2.2.2.1, fun k h => h⟩
  case assign =>
    intro l' x Wx K hK
    clear Hexit hse
    gi_wp2
    exact hK
  case body =>
    intro l' pre x Z' Wb hpre hI
    obtain ⟨rest, hrest⟩ := hpre
    have hx : (wlk f o d l)[pre.length]? = some x := by rw [← hrest]; simp
    obtain ⟨hm, hix⟩ := wlk_at HP.out hx
    obtain ⟨ix, hixd⟩ : ∃ ix, ix = if d then e - 1 - pre.length else a + pre.length := ⟨_, rfl⟩
    rw [← hixd] at hix
    obtain ⟨pa, pb, _⟩ := part_sp HP.out
    obtain ⟨m, hmd⟩ : ∃ m, m = pre.length := ⟨_, rfl⟩
    rw [← hmd] at hm hixd
    have hl9 := Hl.out
    have hixl : ix < l.length := (List.getElem?_eq_some_iff.1 hix).1
    have keep : ∀ {q : Nat} {ob : Obj}, W1.heap[q]? = some ob → q ≠ q0 + 5 → Wb.heap[q]? = some ob := fun h hne => (hI.t.block _ (blk_lt h) (fun e => hne e)).trans h
    obtain ⟨k0, k1, k2, k3, k4, _, k6⟩ := Hq.out
    have b0 := keep k0 (by omega)
    have b1 := keep k1 (by omega)
    have b2 := keep k2 (by omega)
    have b3 := keep k3 (by omega)
    have b4 := keep k4 (by omega)
    have b5 := hI.n
    rw [← hmd] at b5
    have b6 := keep k6 (by omega)
    have hTb : TW Wb b l ht F := HTW.out.tch hI.t (fun x hx e => HF.out.1 (e ▸ hx))
    have hMb : MW Wb mb l FM := HMW.out.tch hI.t (fun x hx e => HF.out.2 (e ▸ hx))
    obtain ⟨ko, vo, c1, c2, y0, y1, hc⟩ := hMb.read
    obtain ⟨⟨g, rfl, y2⟩, ⟨g', rfl, y3⟩⟩ := hc ix x hix
    obtain ⟨xk, xv⟩ := x
    have x0 : Wb.cell? ⟨q0, 0, none⟩ = some (pv b) := by rw [blk_cell b0]; rfl
    have x1 : Wb.cell? ⟨q0, 1, none⟩ = some (pv mb) := by rw [blk_cell b0]; rfl
    have x2 : Wb.cell? ⟨q0 + 1, 0, none⟩ = some (.bool d) := by rw [blk_cell b1]; rfl
    have x3 : Wb.cell? ⟨q0 + 2, 0, none⟩ = some (.int .i64 most) := by rw [blk_cell b2]; rfl
    have x4 : Wb.cell? ⟨q0 + 3, 0, none⟩ = some (.int .i64 a) := by rw [blk_cell b3]; rfl
    have x5 : Wb.cell? ⟨q0 + 4, 0, none⟩ = some (.int .i64 e) := by rw [blk_cell b4]; rfl
    have x6 : Wb.cell? ⟨q0 + 5, 0, none⟩ = some (.int .i64 m) := by rw [blk_cell b5]; rfl
    have HG : Hid (∀ W, Tch (fun _ => False) Wb W → Calls Try.prog 28 #[pv b, .string xk] W fun y w' => y = .returned (.tuple #[ev xv, .bool true]) ∧ Tch (fun _ => False) Wb w') := fun W t => by
      refine (get_t W b l ht F xk (hTb.tch t (fun _ _ h => h))).mono ?_
      rintro y w' ⟨⟨v, th, rfl, hr⟩, t2⟩
      obtain ⟨e1, e2⟩ := hr.uniq (get_of_mem hTb.so (List.mem_of_getElem? hix))
      subst e1; subst e2
      exact ⟨rfl, t.trans' t2⟩
    have HRk : Hid (∀ W, Tch (fun _ => False) Wb W → Calls Try.prog 48 #[pv b, .string xk] W fun y w' => y = .returned (.int .i64 ix) ∧ Tch (fun _ => False) Wb w') := fun W t => by
      refine (rank_t W b l ht F xk (hTb.tch t (fun _ _ h => h)) (by omega)).mono ?_
      rintro y w' ⟨⟨r', rfl, hr⟩, t2⟩
      have := hr.uniq (rank_found (X := l.take ix) (Y := l.drop (ix + 1)) (it := (xk, xv)) (by
        obtain ⟨h1, h2⟩ := List.getElem?_eq_some_iff.1 hix
        rw [← h2, ← List.drop_eq_getElem_cons h1, List.take_append_drop]) hTb.so rfl)
      rw [List.length_take, Nat.min_eq_left (by omega)] at this
      subst this
      exact ⟨rfl, t.trans' t2⟩
    have HN : Hid (∀ W, Tch (fun _ => False) Wb W → W.cell? ⟨q0, 0, none⟩ = some (pv b) ∧ W.cell? ⟨q0 + 2, 0, none⟩ = some (.int .i64 most) ∧ W.cell? ⟨q0 + 5, 0, none⟩ = some (.int .i64 m) ∧ W.frozen? ⟨q0 + 5, 0, none⟩ = false ∧ W.heap[q0 + 5]? = some (.cells #[.int .i64 m] 3 (0, 0))) := fun W t => by
      have c5 := (t.block _ (blk_lt b5) (fun h => h)).trans b5
      exact ⟨(t.cell (p := ⟨q0, 0, none⟩) (blk_lt b0) (fun h => h)).trans x0, (t.cell (p := ⟨q0 + 2, 0, none⟩) (blk_lt b2) (fun h => h)).trans x3, by rw [blk_cell c5]; rfl, blk_frozen c5 0, c5⟩
    have HI : Hid (GI W1 (q0 + 5) m Z' Wb) := by show GI _ _ _ _ _; rw [hmd]; exact hI
    have HEnd : Hid (∀ W, Tch (fun _ => False) Wb W → Lft (fun k => k = q0 + 5) Z' Wb (W.setCell ⟨q0 + 5, 0, none⟩ (.int .i64 ((m : Int) + 1))) (GI W1 (q0 + 5) (m + 1))) := fun W t => by
      have c5 := (t.block _ (blk_lt b5) (fun h => h)).trans b5
      have t9 : Tch (fun k => k = q0 + 5) W (W.setCell ⟨q0 + 5, 0, none⟩ (.int .i64 ((m : Int) + 1))) := Tch.setCell _ _ _ _ rfl
      have tt : Tch (fun k => k = q0 + 5) Wb (W.setCell ⟨q0 + 5, 0, none⟩ (.int .i64 ((m : Int) + 1))) := (t.mono (fun _ _ h => h.elim)).trans' t9
      refine ⟨fun _ => False, fun k hk => hk.elim, tt.mono (fun _ _ h => .inl h), HI.out.t.trans' tt, ?_, fun k h => h⟩
      have := blk_set (i := 0) c5 (.int .i64 ((m : Int) + 1))
      rw [show ((m + 1 : Nat) : Int) = (m : Int) + 1 by omega]
      exact this
    have hlen : (pre ++ [(xk, xv)]).length = m + 1 := by rw [List.length_append, ← hmd]; rfl
    rw [← hmd] at hmd
    have hixI : (ix : Int) < l.length := by omega
    have hlI : (l.length : Int) ≤ 1000000000 := by omega
    have q := HG.out Wb (Tch.refl _ _)
    have Hlen : Hid ((pre ++ [(xk, xv)]).length = m + 1) := hlen
    have Hix : Hid (ix = if d then e - 1 - m else a + m) := hixd
    clear hrest hx hix keep k0 k1 k2 k3 k4 k6 b0 b1 b2 b3 b4 b5 b6 hTb hMb hc hI hse Hexit hlen hmd hl9 hixl
    cases d with
    | false =>
      have hi0 : (a : Int) + m = ix := by rw [hixd]; simp
      have hi1 : ¬ (ix : Int) < a := by omega
      have hi2 : ¬ (e : Int) ≤ ix := by omega
      clear hixd
      gi_wp2_with fail
      refine ⟨trivial, fun h => (by cases h), (CallsIn.inRound l' (callsIn_wide.2 q)).mono ?_⟩
      clear q x0 x1 x2 x3 x4 x5 x6 y0 y1 y2 y3
      rintro y w1 ⟨rfl, t1⟩
      obtain ⟨x0, -, -, -, -⟩ := HN.out w1 t1
      have q := HRk.out w1 t1
      gi_wp2_with fail
      refine ⟨trivial, fun h => (by cases h), (CallsIn.inRound l' (callsIn_wide.2 q)).mono ?_⟩
      clear q x0 t1
      rintro y w2 ⟨rfl, t2⟩
      obtain ⟨x0, x3, x6, x7, x8⟩ := HN.out w2 t2
      have hEnd := HEnd.out w2 t2
      have HE2 : Hid _ := hEnd
      have x9 : (w2.setCell ⟨q0 + 5, 0, none⟩ (.int .i64 ((m : Int) + 1))).cell? ⟨q0 + 5, 0, none⟩ = some (.int .i64 ((m : Int) + 1)) := World.cell?_setCell_same' _ _ _ (by rw [x6]; rfl)
      have x10 : (w2.setCell ⟨q0 + 5, 0, none⟩ (.int .i64 ((m : Int) + 1))).cell? ⟨q0 + 2, 0, none⟩ = some (.int .i64 most) := by
        rw [World.cell?_of_block (w := w2) (Below.heap_setCell _ _ _ _ (by show q0 + 2 ≠ q0 + 5; omega))]
        exact x3
      clear hEnd t2 x0 x8
      by_cases hmo : (m : Int) + 1 = most
      · have Hmo : Hid ((m : Int) + 1 = most) := hmo
        have hmo' : ((m : Int) + 1 == most) = true := by rw [hmo]; simp
        clear hmo
        gi_wp2_with fail
        obtain ⟨Z3, e1, e2, e3⟩ := HE2.out
        exact ⟨Z3, e1, e2, rfl, by rw [Hlen.out]; have := Hmo.out; omega, by rw [Hlen.out]; exact e3⟩
      · have hmo' : ((m : Int) + 1 == most) = false := beq_eq_false_iff_ne.2 hmo
        gi_wp2_with fail
        obtain ⟨Z3, e1, e2, e3⟩ := HE2.out
        exact ⟨Z3, e1, e2, by show GI W1 (q0 + 5) (pre ++ [(xk, xv)]).length _ _; rw [Hlen.out]; exact e3⟩
    | true =>
      have hi0 : (e : Int) - 1 - m = ix := by rw [hixd]; simp; omega
      have hi1 : ¬ (ix : Int) < a := by omega
      have hi2 : ¬ (e : Int) ≤ ix := by omega
      have hi3 : (a : Int) + m ≤ 2000000000 := by omega
      have hi4 : (0 : Int) ≤ (e : Int) - 1 := by omega
      clear hixd
      gi_wp2_with fail
      refine ⟨trivial, fun h => (by cases h), (CallsIn.inRound l' (callsIn_wide.2 q)).mono ?_⟩
      clear q x0 x1 x2 x3 x4 x5 x6 y0 y1 y2 y3
      rintro y w1 ⟨rfl, t1⟩
      obtain ⟨x0, -, -, -, -⟩ := HN.out w1 t1
      have q := HRk.out w1 t1
      gi_wp2_with fail
      refine ⟨trivial, fun h => (by cases h), (CallsIn.inRound l' (callsIn_wide.2 q)).mono ?_⟩
      clear q x0 t1
      rintro y w2 ⟨rfl, t2⟩
      obtain ⟨x0, x3, x6, x7, x8⟩ := HN.out w2 t2
      have hEnd := HEnd.out w2 t2
      have HE2 : Hid _ := hEnd
      have x9 : (w2.setCell ⟨q0 + 5, 0, none⟩ (.int .i64 ((m : Int) + 1))).cell? ⟨q0 + 5, 0, none⟩ = some (.int .i64 ((m : Int) + 1)) := World.cell?_setCell_same' _ _ _ (by rw [x6]; rfl)
      have x10 : (w2.setCell ⟨q0 + 5, 0, none⟩ (.int .i64 ((m : Int) + 1))).cell? ⟨q0 + 2, 0, none⟩ = some (.int .i64 most) := by
        rw [World.cell?_of_block (w := w2) (Below.heap_setCell _ _ _ _ (by show q0 + 2 ≠ q0 + 5; omega))]
        exact x3
      clear hEnd t2 x0 x8
      by_cases hmo : (m : Int) + 1 = most
      · have Hmo : Hid ((m : Int) + 1 = most) := hmo
        have hmo' : ((m : Int) + 1 == most) = true := by rw [hmo]; simp
        clear hmo
        gi_wp2_with fail
        obtain ⟨Z3, e1, e2, e3⟩ := HE2.out
        exact ⟨Z3, e1, e2, rfl, by rw [Hlen.out]; have := Hmo.out; omega, by rw [Hlen.out]; exact e3⟩
      · have hmo' : ((m : Int) + 1 == most) = false := beq_eq_false_iff_ne.2 hmo
        gi_wp2_with fail
        obtain ⟨Z3, e1, e2, e3⟩ := HE2.out
        exact ⟨Z3, e1, e2, by show GI W1 (q0 + 5) (pre ++ [(xk, xv)]).length _ _; rw [Hlen.out]; exact e3⟩
  case done =>
    intro D Z' W' hD hzD hI hK
    exact Hexit.out D _ _ Z' W' hI hD hK (.inl ⟨rfl, wlk_len HP.out⟩)
  case stop =>
    rintro D cc pre Z' W' hD hzD hpre ⟨rfl, hm, hI⟩ hK
    have hpl : pre.length ≤ e - a := by
      have := hpre.length_le
      rw [wlk_len HP.out] at this
      exact this
    have HX := Hexit.out D pre.length (.exit 0) Z' W' hI hD hK (.inr ⟨rfl, hm, hpl⟩)
    clear Hexit hse
    gi_wp2
    exact HX
end Go.Proofs.Ytnjiiebjdpipjaa
