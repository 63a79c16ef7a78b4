import Derived.Test.YtnjiiebjdpipjaaTWalk
import Derived.Test.YtnjiiebjdpipjaaOrdv
import Derived.Sort.LoopGhostIn
/- The iterator of a node. -/
namespace Go.Proofs.Ytnjiiebjdpipjaa
open Go.RowKit Go Go.Shelf
attribute [local go_sem] Oper.semAt_some

/-- A node's iterator, and what it reads. -/
def Nit (h : Nat) : Prop := ∀ (n : Nat) (t : Nd It h) (p : Nat) (G : List Nat) (bn bs : Nat) (f o : ByteArray) (b : Bool) (w : World), NW h w p t G → t.ok → Sorted (t.flat h) →
  w.heap[bn]? = some (.cells #[pv p] 62 (0, 0)) → w.heap[bs]? = some (.cells #[.string f, .string o, .bool b] 90 (0, 0)) →
  SeqL n Try.prog 94 #[pv bn, pv bs] eI (fun k => k ∈ G ∨ k = bn ∨ k = bs) (wlk f o b (t.flat h)) w

/-- The mark of a loop over an iterator. -/
abbrev mkD (d : Nat) : Deferred := { target := .collected d, args := #[] }
theorem arr79 (a : Array Value) (h : a.size = 79) : a = ((List.range 79).map (fun n => a.getD n undef)).toArray := by
  refine Array.ext (by simp [h]) (fun n h1 h2 => ?_)
  simp [Array.getD, h1]
/-- The slots that a node's iterator leans on. -/
structure Fr (T : Array Value) (l bn bs yb : Nat) (iv kv : Value) (i j k : Nat) : Prop where
  size : T.size = 79
  s0 : T.getD 0 undef = yF l
  s1 : T.getD 1 undef = pv bn
  s2 : T.getD 2 undef = pv bs
  s3 : T.getD 3 undef = pv yb
  s4 : T.getD 4 undef = iv
  s5 : T.getD 5 undef = kv
  s6 : T.getD 6 undef = .int .i64 (2 * (i : Int))
  s7 : T.getD 7 undef = .int .i64 (2 * (j : Int))
  s32 : T.getD 32 undef = .int .i64 (2 * (j : Int) - 2 * (i : Int) + 1)
  s33 : T.getD 33 undef = .int .i64 (k : Int)
theorem Fr.elim {T : Array Value} {l bn bs yb : Nat} {iv kv : Value} {i j k : Nat} (h : Fr T l bn bs yb iv kv i j k) : ∃ u : Nat → Value, T = (List.toArray (yF l :: pv bn :: pv bs :: pv yb :: iv :: kv :: .int .i64 (2 * (i : Int)) :: .int .i64 (2 * (j : Int)) :: u 8 :: u 9 :: u 10 :: u 11 :: u 12 :: u 13 :: u 14 :: u 15 :: u 16 :: u 17 :: u 18 :: u 19 :: u 20 :: u 21 :: u 22 :: u 23 :: u 24 :: u 25 :: u 26 :: u 27 :: u 28 :: u 29 :: u 30 :: u 31 :: .int .i64 (2 * (j : Int) - 2 * (i : Int) + 1) :: .int .i64 (k : Int) :: u 34 :: u 35 :: u 36 :: u 37 :: u 38 :: u 39 :: u 40 :: u 41 :: u 42 :: u 43 :: u 44 :: u 45 :: u 46 :: u 47 :: u 48 :: u 49 :: u 50 :: u 51 :: u 52 :: u 53 :: u 54 :: u 55 :: u 56 :: u 57 :: u 58 :: u 59 :: u 60 :: u 61 :: u 62 :: u 63 :: u 64 :: u 65 :: u 66 :: u 67 :: u 68 :: u 69 :: u 70 :: u 71 :: u 72 :: u 73 :: u 74 :: u 75 :: u 76 :: u 77 :: u 78 :: [])) := by
  have h1 := arr79 T h.size
  obtain ⟨u, hu⟩ : ∃ u : Nat → Value, u = fun n => T.getD n undef := ⟨_, rfl⟩
  have e : ∀ n, T.getD n undef = u n := fun n => by rw [hu]
  have e0 : u 0 = yF l := (e 0).symm.trans h.s0
  have e1 : u 1 = pv bn := (e 1).symm.trans h.s1
  have e2 : u 2 = pv bs := (e 2).symm.trans h.s2
  have e3 : u 3 = pv yb := (e 3).symm.trans h.s3
  have e4 : u 4 = iv := (e 4).symm.trans h.s4
  have e5 : u 5 = kv := (e 5).symm.trans h.s5
  have e6 : u 6 = .int .i64 (2 * (i : Int)) := (e 6).symm.trans h.s6
  have e7 : u 7 = .int .i64 (2 * (j : Int)) := (e 7).symm.trans h.s7
  have e32 : u 32 = .int .i64 (2 * (j : Int) - 2 * (i : Int) + 1) := (e 32).symm.trans h.s32
  have e33 : u 33 = .int .i64 (k : Int) := (e 33).symm.trans h.s33
  refine ⟨u, h1.trans ?_⟩
  rw [← hu]
  show List.toArray (u 0 :: u 1 :: u 2 :: u 3 :: u 4 :: u 5 :: u 6 :: u 7 :: u 8 :: u 9 :: u 10 :: u 11 :: u 12 :: u 13 :: u 14 :: u 15 :: u 16 :: u 17 :: u 18 :: u 19 :: u 20 :: u 21 :: u 22 :: u 23 :: u 24 :: u 25 :: u 26 :: u 27 :: u 28 :: u 29 :: u 30 :: u 31 :: u 32 :: u 33 :: u 34 :: u 35 :: u 36 :: u 37 :: u 38 :: u 39 :: u 40 :: u 41 :: u 42 :: u 43 :: u 44 :: u 45 :: u 46 :: u 47 :: u 48 :: u 49 :: u 50 :: u 51 :: u 52 :: u 53 :: u 54 :: u 55 :: u 56 :: u 57 :: u 58 :: u 59 :: u 60 :: u 61 :: u 62 :: u 63 :: u 64 :: u 65 :: u 66 :: u 67 :: u 68 :: u 69 :: u 70 :: u 71 :: u 72 :: u 73 :: u 74 :: u 75 :: u 76 :: u 77 :: u 78 :: []) = _
  rw [e0, e1, e2, e3, e4, e5, e6, e7, e32, e33]
structure Fr3 (T : Array Value) (l bn bs yb : Nat) (iv kv : Value) (i j k : Nat) (clo : Value) : Prop where
  size : T.size = 79
  s0 : T.getD 0 undef = yF l
  s1 : T.getD 1 undef = pv bn
  s2 : T.getD 2 undef = pv bs
  s3 : T.getD 3 undef = pv yb
  s4 : T.getD 4 undef = iv
  s5 : T.getD 5 undef = kv
  s6 : T.getD 6 undef = .int .i64 (2 * (i : Int))
  s7 : T.getD 7 undef = .int .i64 (2 * (j : Int))
  s32 : T.getD 32 undef = .int .i64 (2 * (j : Int) - 2 * (i : Int) + 1)
  s33 : T.getD 33 undef = .int .i64 (k : Int)
  s70 : T.getD 70 undef = clo
theorem Fr3.use {T : Array Value} {l bn bs yb : Nat} {iv kv : Value} {i j k : Nat} {clo : Value} {P : Array Value → Prop} (h : Fr3 T l bn bs yb iv kv i j k clo) (H : ∀ u2 : Nat → Value, P (List.toArray (yF l :: pv bn :: pv bs :: pv yb :: iv :: kv :: .int .i64 (2 * (i : Int)) :: .int .i64 (2 * (j : Int)) :: u2 8 :: u2 9 :: u2 10 :: u2 11 :: u2 12 :: u2 13 :: u2 14 :: u2 15 :: u2 16 :: u2 17 :: u2 18 :: u2 19 :: u2 20 :: u2 21 :: u2 22 :: u2 23 :: u2 24 :: u2 25 :: u2 26 :: u2 27 :: u2 28 :: u2 29 :: u2 30 :: u2 31 :: .int .i64 (2 * (j : Int) - 2 * (i : Int) + 1) :: .int .i64 (k : Int) :: u2 34 :: u2 35 :: u2 36 :: u2 37 :: u2 38 :: u2 39 :: u2 40 :: u2 41 :: u2 42 :: u2 43 :: u2 44 :: u2 45 :: u2 46 :: u2 47 :: u2 48 :: u2 49 :: u2 50 :: u2 51 :: u2 52 :: u2 53 :: u2 54 :: u2 55 :: u2 56 :: u2 57 :: u2 58 :: u2 59 :: u2 60 :: u2 61 :: u2 62 :: u2 63 :: u2 64 :: u2 65 :: u2 66 :: u2 67 :: u2 68 :: u2 69 :: clo :: u2 71 :: u2 72 :: u2 73 :: u2 74 :: u2 75 :: u2 76 :: u2 77 :: u2 78 :: []))) : P T := by
  have h1 := arr79 T h.size
  obtain ⟨u, hu⟩ : ∃ u : Nat → Value, u = fun n => T.getD n undef := ⟨_, rfl⟩
  have e : ∀ n, T.getD n undef = u n := fun n => by rw [hu]
  have e0 : u 0 = yF l := (e 0).symm.trans h.s0
  have e1 : u 1 = pv bn := (e 1).symm.trans h.s1
  have e2 : u 2 = pv bs := (e 2).symm.trans h.s2
  have e3 : u 3 = pv yb := (e 3).symm.trans h.s3
  have e4 : u 4 = iv := (e 4).symm.trans h.s4
  have e5 : u 5 = kv := (e 5).symm.trans h.s5
  have e6 : u 6 = .int .i64 (2 * (i : Int)) := (e 6).symm.trans h.s6
  have e7 : u 7 = .int .i64 (2 * (j : Int)) := (e 7).symm.trans h.s7
  have e32 : u 32 = .int .i64 (2 * (j : Int) - 2 * (i : Int) + 1) := (e 32).symm.trans h.s32
  have e33 : u 33 = .int .i64 (k : Int) := (e 33).symm.trans h.s33
  have e70 : u 70 = clo := (e 70).symm.trans h.s70
  have h2 : T = (List.toArray (yF l :: pv bn :: pv bs :: pv yb :: iv :: kv :: .int .i64 (2 * (i : Int)) :: .int .i64 (2 * (j : Int)) :: u 8 :: u 9 :: u 10 :: u 11 :: u 12 :: u 13 :: u 14 :: u 15 :: u 16 :: u 17 :: u 18 :: u 19 :: u 20 :: u 21 :: u 22 :: u 23 :: u 24 :: u 25 :: u 26 :: u 27 :: u 28 :: u 29 :: u 30 :: u 31 :: .int .i64 (2 * (j : Int) - 2 * (i : Int) + 1) :: .int .i64 (k : Int) :: u 34 :: u 35 :: u 36 :: u 37 :: u 38 :: u 39 :: u 40 :: u 41 :: u 42 :: u 43 :: u 44 :: u 45 :: u 46 :: u 47 :: u 48 :: u 49 :: u 50 :: u 51 :: u 52 :: u 53 :: u 54 :: u 55 :: u 56 :: u 57 :: u 58 :: u 59 :: u 60 :: u 61 :: u 62 :: u 63 :: u 64 :: u 65 :: u 66 :: u 67 :: u 68 :: u 69 :: clo :: u 71 :: u 72 :: u 73 :: u 74 :: u 75 :: u 76 :: u 77 :: u 78 :: [])) := by
    refine h1.trans ?_
    rw [← hu]
    show List.toArray (u 0 :: u 1 :: u 2 :: u 3 :: u 4 :: u 5 :: u 6 :: u 7 :: u 8 :: u 9 :: u 10 :: u 11 :: u 12 :: u 13 :: u 14 :: u 15 :: u 16 :: u 17 :: u 18 :: u 19 :: u 20 :: u 21 :: u 22 :: u 23 :: u 24 :: u 25 :: u 26 :: u 27 :: u 28 :: u 29 :: u 30 :: u 31 :: u 32 :: u 33 :: u 34 :: u 35 :: u 36 :: u 37 :: u 38 :: u 39 :: u 40 :: u 41 :: u 42 :: u 43 :: u 44 :: u 45 :: u 46 :: u 47 :: u 48 :: u 49 :: u 50 :: u 51 :: u 52 :: u 53 :: u 54 :: u 55 :: u 56 :: u 57 :: u 58 :: u 59 :: u 60 :: u 61 :: u 62 :: u 63 :: u 64 :: u 65 :: u 66 :: u 67 :: u 68 :: u 69 :: u 70 :: u 71 :: u 72 :: u 73 :: u 74 :: u 75 :: u 76 :: u 77 :: u 78 :: []) = _
    rw [e0, e1, e2, e3, e4, e5, e6, e7, e32, e33, e70]
  rw [h2]
  exact H u
/-- Where the iterator of a node stands when k places are over: so many are left. -/
def WI (h : Nat) (t : Nd It h) (f o : ByteArray) (b : Bool) (i j l : Nat) (J : List It → (Nat → Prop) → World → Prop) (w : World) (Y : Nat → Prop) (yb bn bs : Nat) (iv kv : Value) (left : Nat) (a : Act) (W : World) : Prop :=
  ∃ (k : Nat) (Z : Nat → Prop) (ds : List Nat), Fr a.tmps l bn bs yb iv kv i j k ∧ a.defers = ds.map mkD ∧ k + left = 2 * j + 1 - 2 * i ∧ Hid (WS w l Y yb ds Z W) ∧ Hid (J (cm h t f o b i j k) Z W)
theorem WI.elim {h : Nat} {t : Nd It h} {f o : ByteArray} {b : Bool} {i j l : Nat} {J : List It → (Nat → Prop) → World → Prop} {w : World} {Y : Nat → Prop} {yb bn bs : Nat} {iv kv : Value} {left : Nat} {a : Act} {W : World} {P : Act → World → Prop} (hI : WI h t f o b i j l J w Y yb bn bs iv kv left a W)
    (H : ∀ (k : Nat) (Z : Nat → Prop) (ds : List Nat) (u : Nat → Value), k + left = 2 * j + 1 - 2 * i → Hid (WS w l Y yb ds Z W) → Hid (J (cm h t f o b i j k) Z W) → P { tmps := (List.toArray (yF l :: pv bn :: pv bs :: pv yb :: iv :: kv :: .int .i64 (2 * (i : Int)) :: .int .i64 (2 * (j : Int)) :: u 8 :: u 9 :: u 10 :: u 11 :: u 12 :: u 13 :: u 14 :: u 15 :: u 16 :: u 17 :: u 18 :: u 19 :: u 20 :: u 21 :: u 22 :: u 23 :: u 24 :: u 25 :: u 26 :: u 27 :: u 28 :: u 29 :: u 30 :: u 31 :: .int .i64 (2 * (j : Int) - 2 * (i : Int) + 1) :: .int .i64 (k : Int) :: u 34 :: u 35 :: u 36 :: u 37 :: u 38 :: u 39 :: u 40 :: u 41 :: u 42 :: u 43 :: u 44 :: u 45 :: u 46 :: u 47 :: u 48 :: u 49 :: u 50 :: u 51 :: u 52 :: u 53 :: u 54 :: u 55 :: u 56 :: u 57 :: u 58 :: u 59 :: u 60 :: u 61 :: u 62 :: u 63 :: u 64 :: u 65 :: u 66 :: u 67 :: u 68 :: u 69 :: u 70 :: u 71 :: u 72 :: u 73 :: u 74 :: u 75 :: u 76 :: u 77 :: u 78 :: [])), defers := ds.map mkD } W) : P a W := by
  obtain ⟨k, Z, ds, hf, hd, h1, h2, h3⟩ := hI
  obtain ⟨u, hu⟩ := hf.elim
  obtain ⟨T, D⟩ := a
  have hu' : T = _ := hu
  have hd' : D = _ := hd
  rw [hu', hd']
  exact H k Z ds u h1 h2 h3

set_option maxHeartbeats 4000000 in
set_option maxRecDepth 100000 in
theorem walk1_step (h : Nat) (IH : ∀ j, h = j + 1 → Nit j) : Nit h := by
  intro n t p G bn bs f o b w hN hok hs hbn hbs l J Jx T Z W hl hlW tW hT hZ aJ aJx hY h0
  obtain ⟨Y, hYd⟩ : ∃ Y : Nat → Prop, Y = fun k => k ∈ G ∨ k = bn ∨ k = bs := ⟨_, rfl⟩
  rw [← hYd] at hT hZ
  have hYw : ∀ k, Y k → k < w.heap.size := fun k hk => by
    rw [hYd] at hk
    rcases hk with hk | rfl | rfl
    · exact hN.lt k hk
    · exact blk_lt hbn
    · exact blk_lt hbs
  obtain ⟨iv, kv, qs, FF, hP, hK, hFe⟩ := NW_iff.1 hN
  obtain ⟨io, ic, rfl⟩ := row_slice hP.its
  obtain ⟨ko, kcp, rfl⟩ := row_slice hP.kids
  have HR : Hid (∀ W1, Tch (fun k => ¬ Y k) w W1 → NW h W1 p t G ∧ W1.heap[bn]? = some (.cells #[pv p] 62 (0, 0)) ∧ W1.heap[bs]? = some (.cells #[.string f, .string o, .bool b] 90 (0, 0)) ∧ FN W1 p (.slice io t.its.length ic) (.slice ko qs.length kcp) t.its qs (t.flat h).length ∧ Kids h W1 t qs FF) := fun W1 t1 => by
    have hG : ∀ k ∈ G, ¬ ¬ Y k := fun k hk hn => hn (by rw [hYd]; exact .inl hk)
    refine ⟨hN.tch t1 hG, (t1.block _ (blk_lt hbn) (fun hn => hn (by rw [hYd]; exact .inr (.inl rfl)))).trans hbn, (t1.block _ (blk_lt hbs) (fun hn => hn (by rw [hYd]; exact .inr (.inr rfl)))).trans hbs, hP.tch t1 (fun k hk => hG k (by rw [hFe]; exact List.mem_append.2 (.inl hk))), hK.tch t1 (fun k hk => hG k (by rw [hFe]; exact List.mem_append.2 (.inr hk)))⟩
  have HFF : Hid (∀ k ∈ FF, k ∈ G) := fun k hk => by rw [hFe]; exact List.mem_append.2 (.inr hk)
  obtain ⟨yb, hyb⟩ : ∃ yb, yb = W.heap.size := ⟨_, rfl⟩
  obtain ⟨W0, hW0⟩ : ∃ W0, W0 = W.alloc (.cells #[yF l] 108) := ⟨_, rfl⟩
  have t0 : Tch (fun _ => False) W W0 := by rw [hW0]; exact Tch.alloc _ _ _
  have HS0 : Hid (WS w l Y yb [] Z W0) := ⟨(tW.trans' t0).mono (fun _ _ h => h.elim), by omega, fun h => by have := (hZ _ h).1; omega, by rw [hW0, hyb]; exact alloc_new _ _, fun d hd => (by cases hd), List.nodup_nil, fun k hk => ⟨Nat.lt_of_lt_of_le (hZ k hk).1 t0.size, (hZ k hk).2⟩⟩
  have HJ0 : Hid (J [] Z W0) := aJ _ _ _ _ h0 (t0.mono (fun _ _ h => h.elim))
  obtain ⟨hN0, hbn0, hbs0, hP0, hK0⟩ := HR.out W0 HS0.out.tw
  have HO : Hid (t.ok ∧ Sorted (t.flat h)) := ⟨hok, hs⟩
  have HaJ : Hid (Abl l J ∧ Abl l Jx) := ⟨aJ, aJx⟩
  have HY : Hid (∀ m pre x Z1 W1, pre ++ [x] <+: wlk f o b (t.flat h) → J pre Z1 W1 → YieldAt Fence.wide m Try.prog l (eI x) W1 (Rnd T Z1 W1 (J (pre ++ [x])) (Jx (pre ++ [x])))) := hY
  have HT : Hid (∀ k, T k → k ≤ l ∧ ¬ Y k) := hT
  have HYw : Hid (∀ k, Y k → k < w.heap.size) := hYw
  have HYd : Hid (Y = fun k => k ∈ G ∨ k = bn ∨ k = bs) := hYd
  have HIH : Hid (∀ j, h = j + 1 → Nit j) := IH
  have Hl : Hid (w.heap.size ≤ l) := hl
  have c0 := hP0.nd.cells.1
  have c1 := hP0.nd.cells.2.1
  have x0 : W0.cell? ⟨bn, 0, none⟩ = some (pv p) := by rw [blk_cell hbn0]; rfl
  have x1 : W0.cell? ⟨bs, 0, none⟩ = some (.string f) := by rw [blk_cell hbs0]; rfl
  have x2 : W0.cell? ⟨bs, 1, none⟩ = some (.string o) := by rw [blk_cell hbs0]; rfl
  have x3 : W0.cell? ⟨bs, 2, none⟩ = some (.bool b) := by rw [blk_cell hbs0]; rfl
  refine callsIn_of_wp_marks Try.func94 rfl trivial ?_ rfl
  simp only [Try.ntmps94, List.size_toArray, List.length_cons, List.length_nil, Nat.reduceAdd, Nat.reduceSub, Array.replicate_succ, Array.replicate_zero, List.push_toArray, List.append_toArray, List.nil_append, List.cons_append]
  refine wpIn_wide.2 ?_
  have HW0 : Hid (W0 = W.alloc (.cells #[yF l] 108)) := hW0
  have HYb : Hid (yb = W.heap.size) := hyb
  rw [hW0] at x0 x1 x2 x3 c0 c1
  clear hP0 hK0 hW0 hyb hN hok hs hbn hbs tW t0 h0 hN0 hbn0 hbs0 hP hK hFe hZ aJ aJx hY IH hT hYw hYd hl hlW
  go_wp2_with fail
  go_quiet (fail)
  go_wp2_with fail
  have hw := HW0.out
  change W0 = W.alloc (Obj.cells #[Value.func (Fn.yield l) #[] #[]] 108) at hw
  rw [← hw]
  have hyb := HYb.out
  rw [← hyb]
  clear hw hyb c0 c1 x0 x1 x2 x3
  have t1 : Tch (fun _ => False) W0 (W0.drewN nq) := (Tch.refl _ _).drewN _
  have HS1 : Hid (WS w l Y yb [] Z (W0.drewN nq)) := HS0.out.new t1
  have HJ1 : Hid (J [] Z (W0.drewN nq)) := HaJ.out.1 _ _ _ _ HJ0.out (t1.mono (fun _ _ h => h.elim))
  revert HS1 HJ1
  generalize W0.drewN nq = W1
  intro HS1 HJ1
  clear t1 HS0 HJ0 HW0 HYb
  have q := ends_any (HR.out W1 HS1.out.tw).1 HO.out.1 HO.out.2 f o b
  refine q.mono ?_
  rintro x w1 ⟨⟨i, j, rfl, hf, he⟩, t1⟩
  have HS2 : Hid (WS w l Y yb [] Z w1) := HS1.out.new t1
  have HJ2 : Hid (J [] Z w1) := HaJ.out.1 _ _ _ _ HJ1.out (t1.mono (fun _ _ h => h.elim))
  have hsu := (ok_iff h t).1 HO.out.1
  have HE : Hid (Ends t.its f o i j) := ends_of (its_sorted t (sub_even h t hsu.2) HO.out.2) hf he
  have hiI : (i : Int) ≤ 15 := by have := HE.out.il; have := hsu.1; omega
  have hjI : (j : Int) ≤ 15 := by have := HE.out.jl; have := hsu.1; omega
  clear q hf he t1 HS1 HJ1 hsu
  go_wp2_with fail
  refine (wpIn_wide (n := n)).1 ?_
  refine wpIn_loop_ghost_k (WI h t f o b i j l J w Y yb bn bs (.slice io t.its.length ic) (.slice ko qs.length kcp)) (2 * j + 1 - 2 * i) ?start ?round
  case start => exact ⟨0, Z, [], ⟨rfl, rfl, rfl, rfl, rfl, rfl, rfl, rfl, rfl, rfl, rfl⟩, rfl, by omega, HS2, by rw [cm_zero]; exact HJ2⟩
  case round =>
  clear HS2 HJ2
  intro lf a wr hI JJ K hJJ hKK
  refine hI.elim ?_
  clear hI a
  intro k Z1 ds u hk HS HJ
  by_cases hlt : (k : Int) < 2 * (j : Int) - 2 * (i : Int) + 1
  · obtain ⟨hNr, hbnr, hbsr, hPr, hKr⟩ := HR.out wr HS.out.tw
    have x3 : wr.cell? ⟨bs, 2, none⟩ = some (.bool b) := by rw [blk_cell hbsr]; rfl
    obtain ⟨q, hq⟩ : ∃ q, q = plc b i j k := ⟨_, rfl⟩
    have Hq : Hid (q = plc b i j k) := hq
    have h15 := ((ok_iff h t).1 HO.out.1).1
    have hyc : wr.cell? ⟨yb, 0, none⟩ = some (yF l) := by rw [blk_cell HS.out.yc]; rfl
    cases b with
    | false =>
      have hq' : 2 * (i : Int) + (k : Int) = (q : Int) := by rw [hq]; unfold plc; simp only [Bool.false_eq_true, if_false]; omega
      have hqI : (q : Int) ≤ 30 := by omega
      clear hq
      rcases Nat.mod_two_eq_zero_or_one q with hm | hm
      · obtain ⟨c, hc⟩ : ∃ c, c = q / 2 := ⟨_, rfl⟩
        have hm' : (q : Int) % 2 = 0 := by omega
        have hd' : (q : Int) / 2 = (c : Int) := by omega
        have Hc : Hid (q = 2 * c ∧ i ≤ c ∧ c ≤ j ∧ k ≤ 2 * j - 2 * i ∧ i ≤ j) := ⟨by omega, by omega, by omega, by omega, by omega⟩
        have hcs : cm h t f o false i j (k + 1) = cm h t f o false i j k ++ wlk f o false (cut (t.flat h) (pos h t (2 * c)) (pos h t (2 * c + 1))) := by
          rw [cm_step h t f o false i j k (by have := Hc.out; omega), ← Hq.out, Hc.out.1]
        have Hpre : Hid (cm h t f o false i j (k + 1) <+: wlk f o false (t.flat h)) := by
          obtain ⟨v1, A1, K1, B1, p1⟩ := pl_any hNr HO.out.1 i HE.out.il
          obtain ⟨v2, A2, K2, B2, p2⟩ := pl_any hNr HO.out.1 j HE.out.jl
          show _ <+: _
          rw [← cm_all false HE.out HO.out.2 p1 p2 Hc.out.2.2.2.2]
          have := cm_pre h t f o false i j (k + 1) (2 * j - 2 * i - k) (by have := Hc.out; omega)
          rwa [show k + 1 + (2 * j - 2 * i - k) = 2 * j - 2 * i + 1 by have := Hc.out; omega] at this
        clear hm hc
        cases h with
        | zero =>
          have hq0 : qs = [] := kids_none hKr
          subst hq0
          rw [cut_leaf] at hcs
          have HJ3 : Hid (J (cm 0 t f o false i j (k + 1)) Z1 wr) := by
            show J _ _ _
            rw [hcs]
            have := HJ.out
            simpa [wlk, fall, sp] using this
          clear hcs hNr hbnr hbsr hPr hKr
          gi_wp2_with fail
          refine Handed.intro (lf - 1) (by omega) (hJJ _ _ _ ⟨k + 1, Z1, ds, ⟨rfl, rfl, rfl, rfl, rfl, rfl, rfl, rfl, rfl, rfl, congrArg (Value.int .i64) (by omega)⟩, rfl, by omega, HS, HJ3⟩)
        | succ h =>
          obtain ⟨qk, kk, Fk, hqk, hNk, hFk, hokk, hcut, hsk⟩ := kid_pc hKr HO.out.1 c (Nat.le_trans Hc.out.2.2.1 HE.out.jl)
          rw [hcut] at hcs
          have Hcs : Hid (cm (h + 1) t f o false i j (k + 1) = cm (h + 1) t f o false i j k ++ wlk f o false (kk.flat h)) := hcs
          obtain ⟨hcl, hqe⟩ := List.getElem?_eq_some_iff.1 hqk
          obtain ⟨kg, kgc, hkv, _, _, _, hkA, _⟩ := own_at hPr.kids (by omega)
          injection hkv with hg1 _ hg2
          subst hg1
          subst hg2
          have y0 : wr.cell? ⟨kg, c, none⟩ = some (pv qk) := by
            have := hkA c _ (pcl_get qs c hcl)
            rw [Nat.zero_add, hqe] at this
            exact this
          have hqlen : (0 : Int) < qs.length := by omega
          have hcI : (c : Int) < qs.length := by omega
          have hwc : IntKind.i64.wrap (c : Int) = (c : Int) := by rw [IntKind.wrap_i64]; omega
          have hc0 : (0 : Int) ≤ (c : Int) := by omega
          have hqlen2 : (qs.length : Int) ≤ 1000 := by
            have := HO.out.1
            have h1 := hKr.len (sub_even _ t ((ok_iff _ t).1 this).2)
            rcases h1 with h1 | h1
            · rw [h1]; simp
            · rw [h1]; omega
          have HNk : Hid (∀ W2, Tch (fun _ => False) wr W2 → NW h W2 qk kk Fk) := fun W2 t2 => hNk.tch t2 (fun _ _ h => h)
          have HFk : Hid (∀ x ∈ Fk, x ∈ G) := fun x hx => HFF.out x (hFk x hx)
          have Hok : Hid (kk.ok ∧ Sorted (kk.flat h)) := ⟨hokk, hsk HO.out.2⟩
          have x1 : wr.cell? ⟨bs, 0, none⟩ = some (.string f) := by rw [blk_cell hbsr]; rfl
          have x2 : wr.cell? ⟨bs, 1, none⟩ = some (.string o) := by rw [blk_cell hbsr]; rfl
          have hbl : bs < wr.heap.size := blk_lt hbsr
          have hkl : kg < wr.heap.size := cell_lt y0
          obtain ⟨C, hC⟩ : ∃ C : List Value → World → Prop, C = fun s W2 => match s with
            | [] => Tch (fun _ => False) wr W2
            | [v] => ∃ B, v = .func (.func 94) #[] #[pv B, pv (B + 1)] ∧ Tch (fun _ => False) wr W2 ∧ wr.heap.size ≤ B ∧ W2.heap[B]? = some (.cells #[pv qk] 62 (0, 0)) ∧ W2.heap[B + 1]? = some (.cells #[.string f, .string o, .bool false] 90 (0, 0))
            | _ => False := ⟨_, rfl⟩
          have hKC : ∀ s W2, C s W2 → W2.cell? ⟨kg, c, none⟩ = some (pv qk) ∧ W2.cell? ⟨bs, 0, none⟩ = some (.string f) ∧ W2.cell? ⟨bs, 1, none⟩ = some (.string o) ∧ W2.cell? ⟨bs, 2, none⟩ = some (.bool false) := fun s W2 h => by
            have hh : Tch (fun _ => False) wr W2 := by
              rw [hC] at h
              match s, h with
              | [], h => exact h
              | [_], ⟨_, _, h, _⟩ => exact h
            exact ⟨(hh.cell hkl (fun h => h)).trans y0, (hh.cell hbl (fun h => h)).trans x1, (hh.cell hbl (fun h => h)).trans x2, (hh.cell hbl (fun h => h)).trans x3⟩
          have HCt : ∀ W2, C [] W2 → Calls Try.prog 73 #[pv qk, spV f o false] W2 fun x w' => ∃ y, x = .returned y ∧ C [y] w' := fun W2 h => by
            rw [hC] at h
            refine (walk_any _ f o false W2).mono ?_
            rintro x w' ⟨rfl, rfl⟩
            refine ⟨_, rfl, ?_⟩
            rw [hC]
            have hh : Tch (fun _ => False) wr W2 := h
            refine ⟨W2.heap.size, rfl, (hh.allocR _).allocR _, hh.size, ?_, ?_⟩
            · rw [Below.heap_alloc _ _ _ (by simp)]; exact alloc_new _ _
            · have := alloc_new (W2.alloc (.cells #[.pointer (some ⟨qk, 0, none⟩)] 62)) (.cells #[.string f, .string o, .bool false] 90)
              rw [World.size_alloc] at this
              exact this
          have HCe : Hid (∀ y W2, C [y] W2 → ∃ B, y = .func (.func 94) #[] #[pv B, pv (B + 1)] ∧ Tch (fun _ => False) wr W2 ∧ wr.heap.size ≤ B ∧ W2.heap[B]? = some (.cells #[pv qk] 62 (0, 0)) ∧ W2.heap[B + 1]? = some (.cells #[.string f, .string o, .bool false] 90 (0, 0))) := fun y W2 h => by
            rw [hC] at h
            exact h
          have h0' : C [] wr.drew := by rw [hC]; exact (Tch.refl _ _).drew
          clear hcs hNr hbnr hbsr hPr hKr hqk hNk hFk hokk hcut hsk hcl hqe hkA hC x1 x2
          gi_wp2_with fail
          refine wpIn_wide.2 ?_
          refine wp_region_barv [6] C (by kernel_rfl) (by kernel_rfl) (by kernel_rfl) h0' ?_
          clear h0'
          refine barv_read (by go_simp) (by rfl) ?_
          apply Exists.intro
          refine ⟨fun s' Wy hW b K Q hK' => ?_, fun K hK' => ?_⟩
          · obtain ⟨v0, v1, v2, v3⟩ := hKC _ Wy hW
            go_simp
            exact hK' Wy hW
          go_simp
          refine hK' _ ?_
          clear hK' K
          refine barv_read (by go_simp) (by rfl) ?_
          apply Exists.intro
          refine ⟨fun s' Wy hW b K Q hK' => ?_, fun K hK' => ?_⟩
          · obtain ⟨v0, v1, v2, v3⟩ := hKC _ Wy hW
            go_simp
            exact hK' Wy hW
          go_simp
          refine hK' _ ?_
          clear hK' K
          refine barv_read (by go_simp) (by rfl) ?_
          apply Exists.intro
          refine ⟨fun s' Wy hW b K Q hK' => ?_, fun K hK' => ?_⟩
          · obtain ⟨v0, v1, v2, v3⟩ := hKC _ Wy hW
            go_simp
            exact hK' Wy hW
          go_simp
          refine hK' _ ?_
          clear hK' K
          refine barv_read (by go_simp) (by rfl) ?_
          apply Exists.intro
          refine ⟨fun s' Wy hW b K Q hK' => ?_, fun K hK' => ?_⟩
          · obtain ⟨v0, v1, v2, v3⟩ := hKC _ Wy hW
            go_simp
            exact hK' Wy hW
          go_simp
          refine hK' _ ?_
          clear hK' K
          refine barv_read (by go_simp) (by rfl) ?_
          apply Exists.intro
          refine ⟨fun s' Wy hW b K Q hK' => ?_, fun K hK' => ?_⟩
          · obtain ⟨v0, v1, v2, v3⟩ := hKC _ Wy hW
            go_simp
            exact hK' Wy hW
          go_simp
          refine hK' _ ?_
          clear hK' K
          refine barv_read (by go_simp) (by rfl) ?_
          apply Exists.intro
          refine ⟨fun s' Wy hW b K Q hK' => ?_, fun K hK' => ?_⟩
          · obtain ⟨v0, v1, v2, v3⟩ := hKC _ Wy hW
            go_simp
            exact hK' Wy hW
          go_simp
          refine hK' _ ?_
          clear hK' K
          refine barv_turn (by go_simp) (by rfl) (fun Wy hW b K Q hK' => ?_) (fun v hv K hK' => ?_)
          · go_simp
            go_at_call 73
            refine (HCt Wy hW).mono ?_
            rintro x w' ⟨y, rfl, h1⟩
            exact hK' y w' h1
          obtain ⟨B, hBv⟩ : ∃ B, v = .func (.func 94) #[] #[pv B, pv (B + 1)] := by
            obtain ⟨Wy, hW⟩ := hv
            obtain ⟨B, hBv, _⟩ := HCe.out v Wy hW
            exact ⟨B, hBv⟩
          clear hv HCt hKC
          subst hBv
          go_simp
          refine hK' _ ?_
          clear hK' K
          refine barv_nil ?_
          intro W2 hW2
          have HB : Hid (Tch (fun _ => False) wr W2 ∧ wr.heap.size ≤ B ∧ W2.heap[B]? = some (.cells #[pv qk] 62 (0, 0)) ∧ W2.heap[B + 1]? = some (.cells #[.string f, .string o, .bool false] 90 (0, 0))) := by
            obtain ⟨B', e, h1, h2, h3, h4⟩ := HCe.out _ W2 hW2
            have e' : B = B' := by
              injection e with _ _ e
              have e := congrArg (fun a : Array Value => a.getD 0 undef) e
              injection e with e
              injection e with e
              injection e
            subst e'
            exact ⟨h1, h2, h3, h4⟩
          clear hW2 HCe
          gi_wp2_with fail
          have HS2 : Hid (WS w l Y yb ds Z1 W2) := HS.out.new HB.out.1
          have HJ2 : Hid (J (cm (h + 1) t f o false i j k) Z1 W2) := HaJ.out.1 _ _ _ _ HJ.out (HB.out.1.mono (fun _ _ h => h.elim))
          have HZr : Hid (∀ y, Z1 y → y < wr.heap.size ∧ ¬ Y y) := HS.out.zb
          have HlW : Hid (l < wr.heap.size) := Nat.lt_trans HS.out.ylt (blk_lt HS.out.yc)
          clear HS HJ hyc x3 y0 hbl hkl
          refine Fr3.use (P := fun T => Code.wpIn Fence.wide n Try.prog _ _ { tmps := T, defers := List.map mkD ds } W2) (l := l) (bn := bn) (bs := bs) (yb := yb) (iv := .slice io t.its.length ic) (kv := .slice (some ⟨kg, 0, none⟩) qs.length kcp) (i := i) (j := j) (k := k) (clo := .func (.func 94) #[] #[pv B, pv (B + 1)]) ⟨rfl, rfl, rfl, rfl, rfl, rfl, rfl, rfl, rfl, rfl, rfl, rfl⟩ ?_
          clear u
          intro u2
          have HY2 : Hid (∀ k, (k ∈ Fk ∨ k = B ∨ k = B + 1) → k < W2.heap.size ∧ ¬ T k ∧ ¬ Z1 k) := fun x hx => by
            have hw : wr.heap.size ≤ B := HB.out.2.1
            have hzb : ∀ y, Z1 y → y < wr.heap.size ∧ ¬ Y y := HZr.out
            rcases hx with hx | rfl | rfl
            · have hy : Y x := by have := HYd.out; rw [this]; exact .inl (HFk.out x hx)
              exact ⟨Nat.lt_of_lt_of_le (HYw.out x hy) HS2.out.tw.size, fun h => (HT.out x h).2 hy, fun h => (HS2.out.zb x h).2 hy⟩
            · exact ⟨blk_lt HB.out.2.2.1, fun h => by have := (HT.out _ h).1; have := HlW.out; omega, fun h => by have := (hzb _ h).1; omega⟩
            · exact ⟨blk_lt HB.out.2.2.2, fun h => by have := (HT.out _ h).1; have := HlW.out; omega, fun h => by have := (hzb _ h).1; omega⟩
          have hse : SeqL (n - 1) Try.prog 94 #[pv B, pv (B + 1)] eI (fun k => k ∈ Fk ∨ k = B ∨ k = B + 1) (wlk f o false (kk.flat h)) W2 :=
            HIH.out h rfl (n - 1) kk qk Fk B (B + 1) f o false W2 (HNk.out W2 HB.out.1) Hok.out.1 Hok.out.2 HB.out.2.2.1 HB.out.2.2.2
          refine range_l (T := T) (Z := Z1) rfl (enters_of Try.func94 (by kernel_rfl) rfl) hse (fun _ => rfl) (fun x hx => ⟨by have := (HT.out x hx).1; have := HlW.out; have := HB.out.1.size; omega, fun hy => (HY2.out x hy).2.1 hx⟩) (fun x hx => ⟨(HS2.out.zb x hx).1, fun hy => (HY2.out x hy).2.2 hx⟩) (fun x hx => (HY2.out x hx).1)
            (fun pre Z' W' => WS w l Y yb ds Z' W' ∧ J (cm (h + 1) t f o false i j k ++ pre) Z' W')
            (fun cc pre Z' W' => cc = .ret ∧ WS w l Y yb ds Z' W' ∧ Jx (cm (h + 1) t f o false i j k ++ pre) Z' W')
            ?abI ?abX ⟨HS2.out, by rw [List.append_nil]; exact HJ2.out⟩ (fun x => { tmps := (List.toArray (yF l :: pv bn :: pv bs :: pv yb :: .slice io t.its.length ic :: .slice (some ⟨kg, 0, none⟩) qs.length kcp :: .int .i64 (2 * (i : Int)) :: .int .i64 (2 * (j : Int)) :: u2 8 :: u2 9 :: u2 10 :: .string x.1 :: ev x.2 :: u2 13 :: u2 14 :: u2 15 :: u2 16 :: u2 17 :: u2 18 :: u2 19 :: u2 20 :: u2 21 :: u2 22 :: u2 23 :: u2 24 :: u2 25 :: u2 26 :: u2 27 :: u2 28 :: u2 29 :: u2 30 :: u2 31 :: .int .i64 (2 * (j : Int) - 2 * (i : Int) + 1) :: .int .i64 (k : Int) :: u2 34 :: u2 35 :: u2 36 :: u2 37 :: u2 38 :: u2 39 :: u2 40 :: u2 41 :: u2 42 :: u2 43 :: u2 44 :: u2 45 :: u2 46 :: u2 47 :: u2 48 :: u2 49 :: u2 50 :: u2 51 :: u2 52 :: u2 53 :: u2 54 :: u2 55 :: u2 56 :: u2 57 :: u2 58 :: u2 59 :: u2 60 :: u2 61 :: u2 62 :: u2 63 :: u2 64 :: u2 65 :: u2 66 :: u2 67 :: u2 68 :: u2 69 :: .func (.func 94) #[] #[pv B, pv (B + 1)] :: .string x.1 :: ev x.2 :: u2 73 :: u2 74 :: u2 75 :: u2 76 :: u2 77 :: u2 78 :: [])), defers := [] }) ?assign ?body ?done ?stop
          case abI =>
            rintro pre Z' W' W'' ⟨hs, hj⟩ tt
            exact ⟨hs.tch tt (fun x hx => ⟨fun hy => by have := HS2.out.lt HYw.out (.inl hy); omega, fun e => by have := HS2.out.lt HYw.out (.inr (.inl e)); omega, fun hd => by have := HS2.out.lt HYw.out (.inr (.inr hd)); omega⟩), HaJ.out.1 _ _ _ _ hj (tt.mono (fun x _ hx => ⟨by have := HlW.out; have := HB.out.1.size; omega, hx.2⟩))⟩
          case abX =>
            rintro cc pre Z' W' W'' ⟨hcc, hs, hj⟩ tt
            exact ⟨hcc, hs.tch tt (fun x hx => ⟨fun hy => by have := HS2.out.lt HYw.out (.inl hy); omega, fun e => by have := HS2.out.lt HYw.out (.inr (.inl e)); omega, fun hd => by have := HS2.out.lt HYw.out (.inr (.inr hd)); omega⟩), HaJ.out.2 _ _ _ _ hj (tt.mono (fun x _ hx => ⟨by have := HlW.out; have := HB.out.1.size; omega, hx.2⟩))⟩
          case assign =>
            intro l' x Wx K hK
            clear HE HJ2 HS2 HR
            gi_wp2
            exact hK
          case body =>
            rintro l' pre x Z' Wb hpre ⟨hs, hj⟩
            have hyc : Wb.cell? ⟨yb, 0, none⟩ = some (yF l) := by rw [blk_cell hs.yc]; rfl
            have hpr : (cm (h + 1) t f o false i j k ++ pre) ++ [x] <+: wlk f o false (t.flat (h + 1)) := by
              refine List.IsPrefix.trans ?_ Hpre.out
              rw [Hcs.out, List.append_assoc]
              exact List.prefix_append_right_inj _ |>.2 hpre
            obtain ⟨fn, tmps, assign, body, hy, hR⟩ := YieldAt.inRound l' (HY.out (n - 1 - 1 - 1) _ x Z' Wb hpr hj)
            have Hs : Hid (WS w l Y yb ds Z' Wb) := hs
            clear hpr hj hs hpre HE HJ2 HS2 HR hse HY2 HNk HFk Hok
            gi_wp2_with fail
            refine ⟨fun h => (by cases h), hR.mono ?_⟩
            rintro e W3 ⟨Z2, hz2, t3, (⟨rfl, hJ3⟩ | ⟨rfl, hx3⟩)⟩
            · have HL : Hid (Lft T Z' Wb W3 (fun Z' W' => WS w l Y yb ds Z' W' ∧ J (cm (h + 1) t f o false i j k ++ (pre ++ [x])) Z' W')) := ⟨Z2, hz2, t3, Hs.out.round HYw.out HT.out hz2 t3, by rw [← List.append_assoc]; exact hJ3⟩
              clear hR hy hyc hJ3 hz2 t3
              gi_wp2_with fail
              exact HL.out
            · have HL : Hid (Lft T Z' Wb W3 (fun Z' W' => WS w l Y yb ds Z' W' ∧ Jx (cm (h + 1) t f o false i j k ++ (pre ++ [x])) Z' W')) := ⟨Z2, hz2, t3, Hs.out.round HYw.out HT.out hz2 t3, by rw [← List.append_assoc]; exact hx3⟩
              clear hR hy hyc hx3 hz2 t3
              gi_wp2_with fail
              obtain ⟨Z3, g1, g2, g3, g4⟩ := HL.out
              exact ⟨Z3, g1, g2, rfl, g3, g4⟩
          case done =>
            rintro D Z' W' hD hzD ⟨hs, hj⟩ hK
            have hDs : D ∉ ds := fun hd => by have := HS2.out.lt HYw.out (.inr (.inr hd)); omega
            have HS3 : Hid (WS w l Y yb (D :: ds) Z' W') := hs.mark D (by have := HlW.out; have := HB.out.1.size; omega) hzD hK hDs
            have HJ3 : Hid (J (cm (h + 1) t f o false i j (k + 1)) Z' W') := by
              show J _ _ _
              rw [Hcs.out]
              exact hj
            clear hs hj hK hDs hD hzD HE HJ2 HS2 HR hse HY2 HNk HFk Hok
            gi_wp2_with fail
            refine Handed.intro (lf - 1) (by omega) (hJJ _ _ _ ⟨k + 1, Z', D :: ds, ⟨rfl, rfl, rfl, rfl, rfl, rfl, rfl, rfl, rfl, rfl, congrArg (Value.int .i64) (by omega)⟩, rfl, by omega, HS3, HJ3⟩)
          case stop =>
            rintro D cc pre Z' W' hD hzD hpre ⟨rfl, hs, hx⟩ hK
            have hDs : D ∉ ds := fun hd => by have := HS2.out.lt HYw.out (.inr (.inr hd)); omega
            have HS3 : Hid (WS w l Y yb (D :: ds) Z' W') := hs.mark D (by have := HlW.out; have := HB.out.1.size; omega) hzD hK hDs
            have Hx3 : Hid (Jx (cm (h + 1) t f o false i j k ++ pre) Z' W') := hx
            have Hpr : Hid (cm (h + 1) t f o false i j k ++ pre <+: wlk f o false (t.flat (h + 1))) := by
              refine List.IsPrefix.trans ?_ Hpre.out
              rw [Hcs.out]
              exact List.prefix_append_right_inj _ |>.2 hpre
            clear hs hx hK hDs hD hzD hpre HE HJ2 HS2 HR hse HY2 HNk HFk Hok
            gi_wp2_with fail
            refine leaves_marks (D :: ds) _ (fun d hd => (HS3.out.md d hd).2.2) HS3.out.nod (fun W' tt => ?_)
            refine ⟨_, results_none rfl _ _ _, ⟨_, rfl⟩, Z', .inr ⟨_, Hpr.out, HaJ.out.2 _ _ _ _ Hx3.out (tt.mono (fun d _ hd => ⟨(HS3.out.md d hd).1, (HS3.out.md d hd).2.1⟩))⟩⟩
      · skip
        obtain ⟨c, hc⟩ : ∃ c, c = q / 2 := ⟨_, rfl⟩
        have hm' : (q : Int) % 2 = 1 := by omega
        have hd' : (q : Int) / 2 = (c : Int) := by omega
        have Hc : Hid (q = 2 * c + 1 ∧ i ≤ c ∧ c < j) := ⟨by omega, by omega, by omega⟩
        have hcl : c < t.its.length := by have := Hc.out; have := HE.out.jl; omega
        obtain ⟨g, gc, hgv, _, _, _, hgA, _⟩ := own_at hPr.its (by omega)
        injection hgv with hg1 _ hg2
        subst hg1
        subst hg2
        obtain ⟨ce, hce⟩ : ∃ ce : It, t.its[c]? = some ce := ⟨_, List.getElem?_eq_getElem hcl⟩
        have he : t.its[c] = ce := (List.getElem?_eq_some_iff.1 hce).2
        have y0 : wr.cell? ⟨g, c * 2, none⟩ = some (.string ce.1) := by
          have := hgA (c * 2) _ (icl_get t.its c hcl).1
          rw [Nat.zero_add] at this
          exact this.trans (congrArg (fun x : It => some (Value.string x.1)) he)
        have y1 : wr.cell? ⟨g, c * 2 + 1, none⟩ = some (ev ce.2) := by
          have := hgA (c * 2 + 1) _ (icl_get t.its c hcl).2
          rw [Nat.zero_add] at this
          exact this.trans (congrArg (fun x : It => some (ev x.2)) he)
        have hcI : (c : Int) < t.its.length := by omega
        have Hcl : Hid (c < t.its.length) := hcl
        have Hce : Hid (t.its[c]? = some ce) := hce
        clear hm hc hcl hce he hgA hNr hbnr hbsr hPr hKr
        obtain ⟨wa, hwa⟩ : ∃ wa, wa = wr.alloc (.cells #[.string ce.1, ev ce.2] 74) := ⟨_, rfl⟩
        have ta : Tch (fun _ => False) wr wa := by rw [hwa]; exact Tch.alloc _ _ _
        have HSa : Hid (WS w l Y yb ds Z1 wa) := HS.out.new ta
        have hyc2 : wa.cell? ⟨yb, 0, none⟩ = some (yF l) := by rw [blk_cell HSa.out.yc]; rfl
        have HJa : Hid (J (cm h t f o false i j k) Z1 wa) := HaJ.out.1 _ _ _ _ HJ.out (ta.mono (fun _ _ h => h.elim))
        have hcs : cm h t f o false i j (k + 1) = cm h t f o false i j k ++ [ce] := by
          obtain ⟨v1, A1, K1, B1, p1⟩ := pl_any (HR.out wr HS.out.tw).1 HO.out.1 c (Nat.le_of_lt Hcl.out)
          obtain ⟨B', hB'⟩ := p1.item ce Hce.out
          rw [cm_step h t f o false i j k (by have := Hc.out; omega), ← Hq.out, Hc.out.1, p1.item_cut hB']
          have hin := inSp_item HE.out Hc.out.2.1 Hc.out.2.2 ce Hce.out
          unfold wlk fall sp
          rw [List.filter_cons, if_pos hin]
          simp
        have hpre : cm h t f o false i j k ++ [ce] <+: wlk f o false (t.flat h) := by
          obtain ⟨v1, A1, K1, B1, p1⟩ := pl_any (HR.out wr HS.out.tw).1 HO.out.1 i HE.out.il
          obtain ⟨v2, A2, K2, B2, p2⟩ := pl_any (HR.out wr HS.out.tw).1 HO.out.1 j HE.out.jl
          rw [← hcs, ← cm_all false HE.out HO.out.2 p1 p2 (by have := Hc.out; omega)]
          have := cm_pre h t f o false i j (k + 1) (2 * j - 2 * i - k) (by omega)
          rwa [show k + 1 + (2 * j - 2 * i - k) = 2 * j - 2 * i + 1 by have := Hc.out; omega] at this
        obtain ⟨fn, tmps, assign, body, hy, hR⟩ := HY.out (n - 1) _ ce Z1 wa hpre HJa.out
        have Hcs : Hid (cm h t f o false i j (k + 1) = cm h t f o false i j k ++ [ce]) := hcs
        have Hpre : Hid (cm h t f o false i j k ++ [ce] <+: wlk f o false (t.flat h)) := hpre
        have z0 : wa.cell? ⟨wr.heap.size, 0, none⟩ = some (.string ce.1) := by rw [hwa, blk_cell (alloc_new _ _)]; rfl
        have z1 : wa.cell? ⟨wr.heap.size, 1, none⟩ = some (ev ce.2) := by rw [hwa, blk_cell (alloc_new _ _)]; rfl
        have Hwa : Hid (wa = wr.alloc (.cells #[.string ce.1, ev ce.2] 74)) := hwa
        rw [hwa] at hyc2 z0 z1 hy hR
        rw [hwa] at HSa
        clear hcs hpre ta hwa
        gi_wp2_with fail
        refine ⟨fun h => (by cases h), hR.mono ?_⟩
        clear hR hy hyc2 z0 z1 hyc x3 y0 y1 HJa Hwa
        rintro e W3 ⟨Z2, hz2, t3, (⟨rfl, hJ3⟩ | ⟨rfl, hx3⟩)⟩
        · have HS3 : Hid (WS w l Y yb ds Z2 W3) := HSa.out.round HYw.out HT.out hz2 t3
          have HJ3 : Hid (J (cm h t f o false i j (k + 1)) Z2 W3) := by
            show J _ _ _
            rw [Hcs.out]
            exact hJ3
          clear hJ3 t3 hz2 HSa
          gi_wp2_with fail
          refine Handed.intro (lf - 1) (by omega) (hJJ _ _ _ ⟨k + 1, Z2, ds, ⟨rfl, rfl, rfl, rfl, rfl, rfl, rfl, rfl, rfl, rfl, congrArg (Value.int .i64) (by omega)⟩, rfl, by omega, HS3, HJ3⟩)
        · have HS3 : Hid (WS w l Y yb ds Z2 W3) := HSa.out.round HYw.out HT.out hz2 t3
          have Hx3 : Hid (Jx (cm h t f o false i j k ++ [ce]) Z2 W3) := hx3
          clear hx3 t3 hz2 HSa
          gi_wp2_with fail
          refine leaves_marks ds _ (fun d hd => (HS3.out.md d hd).2.2) HS3.out.nod (fun W' tt => ?_)
          refine ⟨_, results_none rfl _ _ _, ⟨_, rfl⟩, Z2, .inr ⟨_, Hpre.out, HaJ.out.2 _ _ _ _ Hx3.out (tt.mono (fun d _ hd => ⟨(HS3.out.md d hd).1, (HS3.out.md d hd).2.1⟩))⟩⟩
    | true =>
      have hq' : 2 * (j : Int) - (k : Int) = (q : Int) := by rw [hq]; unfold plc; simp only [if_true]; omega
      have hqI : (q : Int) ≤ 30 := by omega
      have hq2 : 2 * (i : Int) + (k : Int) ≤ 60 := by omega
      clear hq
      rcases Nat.mod_two_eq_zero_or_one q with hm | hm
      · obtain ⟨c, hc⟩ : ∃ c, c = q / 2 := ⟨_, rfl⟩
        have hm' : (q : Int) % 2 = 0 := by omega
        have hd' : (q : Int) / 2 = (c : Int) := by omega
        have Hc : Hid (q = 2 * c ∧ i ≤ c ∧ c ≤ j ∧ k ≤ 2 * j - 2 * i ∧ i ≤ j) := ⟨by omega, by omega, by omega, by omega, by omega⟩
        have hcs : cm h t f o true i j (k + 1) = cm h t f o true i j k ++ wlk f o true (cut (t.flat h) (pos h t (2 * c)) (pos h t (2 * c + 1))) := by
          rw [cm_step h t f o true i j k (by have := Hc.out; omega), ← Hq.out, Hc.out.1]
        have Hpre : Hid (cm h t f o true i j (k + 1) <+: wlk f o true (t.flat h)) := by
          obtain ⟨v1, A1, K1, B1, p1⟩ := pl_any hNr HO.out.1 i HE.out.il
          obtain ⟨v2, A2, K2, B2, p2⟩ := pl_any hNr HO.out.1 j HE.out.jl
          show _ <+: _
          rw [← cm_all true HE.out HO.out.2 p1 p2 Hc.out.2.2.2.2]
          have := cm_pre h t f o true i j (k + 1) (2 * j - 2 * i - k) (by have := Hc.out; omega)
          rwa [show k + 1 + (2 * j - 2 * i - k) = 2 * j - 2 * i + 1 by have := Hc.out; omega] at this
        clear hm hc
        cases h with
        | zero =>
          have hq0 : qs = [] := kids_none hKr
          subst hq0
          rw [cut_leaf] at hcs
          have HJ3 : Hid (J (cm 0 t f o true i j (k + 1)) Z1 wr) := by
            show J _ _ _
            rw [hcs]
            have := HJ.out
            simpa [wlk, fall, sp] using this
          clear hcs hNr hbnr hbsr hPr hKr
          gi_wp2_with fail
          refine Handed.intro (lf - 1) (by omega) (hJJ _ _ _ ⟨k + 1, Z1, ds, ⟨rfl, rfl, rfl, rfl, rfl, rfl, rfl, rfl, rfl, rfl, congrArg (Value.int .i64) (by omega)⟩, rfl, by omega, HS, HJ3⟩)
        | succ h =>
          obtain ⟨qk, kk, Fk, hqk, hNk, hFk, hokk, hcut, hsk⟩ := kid_pc hKr HO.out.1 c (Nat.le_trans Hc.out.2.2.1 HE.out.jl)
          rw [hcut] at hcs
          have Hcs : Hid (cm (h + 1) t f o true i j (k + 1) = cm (h + 1) t f o true i j k ++ wlk f o true (kk.flat h)) := hcs
          obtain ⟨hcl, hqe⟩ := List.getElem?_eq_some_iff.1 hqk
          obtain ⟨kg, kgc, hkv, _, _, _, hkA, _⟩ := own_at hPr.kids (by omega)
          injection hkv with hg1 _ hg2
          subst hg1
          subst hg2
          have y0 : wr.cell? ⟨kg, c, none⟩ = some (pv qk) := by
            have := hkA c _ (pcl_get qs c hcl)
            rw [Nat.zero_add, hqe] at this
            exact this
          have hqlen : (0 : Int) < qs.length := by omega
          have hcI : (c : Int) < qs.length := by omega
          have hwc : IntKind.i64.wrap (c : Int) = (c : Int) := by rw [IntKind.wrap_i64]; omega
          have hc0 : (0 : Int) ≤ (c : Int) := by omega
          have hqlen2 : (qs.length : Int) ≤ 1000 := by
            have := HO.out.1
            have h1 := hKr.len (sub_even _ t ((ok_iff _ t).1 this).2)
            rcases h1 with h1 | h1
            · rw [h1]; simp
            · rw [h1]; omega
          have HNk : Hid (∀ W2, Tch (fun _ => False) wr W2 → NW h W2 qk kk Fk) := fun W2 t2 => hNk.tch t2 (fun _ _ h => h)
          have HFk : Hid (∀ x ∈ Fk, x ∈ G) := fun x hx => HFF.out x (hFk x hx)
          have Hok : Hid (kk.ok ∧ Sorted (kk.flat h)) := ⟨hokk, hsk HO.out.2⟩
          have x1 : wr.cell? ⟨bs, 0, none⟩ = some (.string f) := by rw [blk_cell hbsr]; rfl
          have x2 : wr.cell? ⟨bs, 1, none⟩ = some (.string o) := by rw [blk_cell hbsr]; rfl
          have hbl : bs < wr.heap.size := blk_lt hbsr
          have hkl : kg < wr.heap.size := cell_lt y0
          obtain ⟨C, hC⟩ : ∃ C : List Value → World → Prop, C = fun s W2 => match s with
            | [] => Tch (fun _ => False) wr W2
            | [v] => ∃ B, v = .func (.func 94) #[] #[pv B, pv (B + 1)] ∧ Tch (fun _ => False) wr W2 ∧ wr.heap.size ≤ B ∧ W2.heap[B]? = some (.cells #[pv qk] 62 (0, 0)) ∧ W2.heap[B + 1]? = some (.cells #[.string f, .string o, .bool true] 90 (0, 0))
            | _ => False := ⟨_, rfl⟩
          have hKC : ∀ s W2, C s W2 → W2.cell? ⟨kg, c, none⟩ = some (pv qk) ∧ W2.cell? ⟨bs, 0, none⟩ = some (.string f) ∧ W2.cell? ⟨bs, 1, none⟩ = some (.string o) ∧ W2.cell? ⟨bs, 2, none⟩ = some (.bool true) := fun s W2 h => by
            have hh : Tch (fun _ => False) wr W2 := by
              rw [hC] at h
              match s, h with
              | [], h => exact h
              | [_], ⟨_, _, h, _⟩ => exact h
            exact ⟨(hh.cell hkl (fun h => h)).trans y0, (hh.cell hbl (fun h => h)).trans x1, (hh.cell hbl (fun h => h)).trans x2, (hh.cell hbl (fun h => h)).trans x3⟩
          have HCt : ∀ W2, C [] W2 → Calls Try.prog 73 #[pv qk, spV f o true] W2 fun x w' => ∃ y, x = .returned y ∧ C [y] w' := fun W2 h => by
            rw [hC] at h
            refine (walk_any _ f o true W2).mono ?_
            rintro x w' ⟨rfl, rfl⟩
            refine ⟨_, rfl, ?_⟩
            rw [hC]
            have hh : Tch (fun _ => False) wr W2 := h
            refine ⟨W2.heap.size, rfl, (hh.allocR _).allocR _, hh.size, ?_, ?_⟩
            · rw [Below.heap_alloc _ _ _ (by simp)]; exact alloc_new _ _
            · have := alloc_new (W2.alloc (.cells #[.pointer (some ⟨qk, 0, none⟩)] 62)) (.cells #[.string f, .string o, .bool true] 90)
              rw [World.size_alloc] at this
              exact this
          have HCe : Hid (∀ y W2, C [y] W2 → ∃ B, y = .func (.func 94) #[] #[pv B, pv (B + 1)] ∧ Tch (fun _ => False) wr W2 ∧ wr.heap.size ≤ B ∧ W2.heap[B]? = some (.cells #[pv qk] 62 (0, 0)) ∧ W2.heap[B + 1]? = some (.cells #[.string f, .string o, .bool true] 90 (0, 0))) := fun y W2 h => by
            rw [hC] at h
            exact h
          have h0' : C [] wr.drew := by rw [hC]; exact (Tch.refl _ _).drew
          clear hcs hNr hbnr hbsr hPr hKr hqk hNk hFk hokk hcut hsk hcl hqe hkA hC x1 x2
          gi_wp2_with fail
          refine wpIn_wide.2 ?_
          refine wp_region_barv [6] C (by kernel_rfl) (by kernel_rfl) (by kernel_rfl) h0' ?_
          clear h0'
          refine barv_read (by go_simp) (by rfl) ?_
          apply Exists.intro
          refine ⟨fun s' Wy hW b K Q hK' => ?_, fun K hK' => ?_⟩
          · obtain ⟨v0, v1, v2, v3⟩ := hKC _ Wy hW
            go_simp
            exact hK' Wy hW
          go_simp
          refine hK' _ ?_
          clear hK' K
          refine barv_read (by go_simp) (by rfl) ?_
          apply Exists.intro
          refine ⟨fun s' Wy hW b K Q hK' => ?_, fun K hK' => ?_⟩
          · obtain ⟨v0, v1, v2, v3⟩ := hKC _ Wy hW
            go_simp
            exact hK' Wy hW
          go_simp
          refine hK' _ ?_
          clear hK' K
          refine barv_read (by go_simp) (by rfl) ?_
          apply Exists.intro
          refine ⟨fun s' Wy hW b K Q hK' => ?_, fun K hK' => ?_⟩
          · obtain ⟨v0, v1, v2, v3⟩ := hKC _ Wy hW
            go_simp
            exact hK' Wy hW
          go_simp
          refine hK' _ ?_
          clear hK' K
          refine barv_read (by go_simp) (by rfl) ?_
          apply Exists.intro
          refine ⟨fun s' Wy hW b K Q hK' => ?_, fun K hK' => ?_⟩
          · obtain ⟨v0, v1, v2, v3⟩ := hKC _ Wy hW
            go_simp
            exact hK' Wy hW
          go_simp
          refine hK' _ ?_
          clear hK' K
          refine barv_read (by go_simp) (by rfl) ?_
          apply Exists.intro
          refine ⟨fun s' Wy hW b K Q hK' => ?_, fun K hK' => ?_⟩
          · obtain ⟨v0, v1, v2, v3⟩ := hKC _ Wy hW
            go_simp
            exact hK' Wy hW
          go_simp
          refine hK' _ ?_
          clear hK' K
          refine barv_read (by go_simp) (by rfl) ?_
          apply Exists.intro
          refine ⟨fun s' Wy hW b K Q hK' => ?_, fun K hK' => ?_⟩
          · obtain ⟨v0, v1, v2, v3⟩ := hKC _ Wy hW
            go_simp
            exact hK' Wy hW
          go_simp
          refine hK' _ ?_
          clear hK' K
          refine barv_turn (by go_simp) (by rfl) (fun Wy hW b K Q hK' => ?_) (fun v hv K hK' => ?_)
          · go_simp
            go_at_call 73
            refine (HCt Wy hW).mono ?_
            rintro x w' ⟨y, rfl, h1⟩
            exact hK' y w' h1
          obtain ⟨B, hBv⟩ : ∃ B, v = .func (.func 94) #[] #[pv B, pv (B + 1)] := by
            obtain ⟨Wy, hW⟩ := hv
            obtain ⟨B, hBv, _⟩ := HCe.out v Wy hW
            exact ⟨B, hBv⟩
          clear hv HCt hKC
          subst hBv
          go_simp
          refine hK' _ ?_
          clear hK' K
          refine barv_nil ?_
          intro W2 hW2
          have HB : Hid (Tch (fun _ => False) wr W2 ∧ wr.heap.size ≤ B ∧ W2.heap[B]? = some (.cells #[pv qk] 62 (0, 0)) ∧ W2.heap[B + 1]? = some (.cells #[.string f, .string o, .bool true] 90 (0, 0))) := by
            obtain ⟨B', e, h1, h2, h3, h4⟩ := HCe.out _ W2 hW2
            have e' : B = B' := by
              injection e with _ _ e
              have e := congrArg (fun a : Array Value => a.getD 0 undef) e
              injection e with e
              injection e with e
              injection e
            subst e'
            exact ⟨h1, h2, h3, h4⟩
          clear hW2 HCe
          gi_wp2_with fail
          have HS2 : Hid (WS w l Y yb ds Z1 W2) := HS.out.new HB.out.1
          have HJ2 : Hid (J (cm (h + 1) t f o true i j k) Z1 W2) := HaJ.out.1 _ _ _ _ HJ.out (HB.out.1.mono (fun _ _ h => h.elim))
          have HZr : Hid (∀ y, Z1 y → y < wr.heap.size ∧ ¬ Y y) := HS.out.zb
          have HlW : Hid (l < wr.heap.size) := Nat.lt_trans HS.out.ylt (blk_lt HS.out.yc)
          clear HS HJ hyc x3 y0 hbl hkl
          refine Fr3.use (P := fun T => Code.wpIn Fence.wide n Try.prog _ _ { tmps := T, defers := List.map mkD ds } W2) (l := l) (bn := bn) (bs := bs) (yb := yb) (iv := .slice io t.its.length ic) (kv := .slice (some ⟨kg, 0, none⟩) qs.length kcp) (i := i) (j := j) (k := k) (clo := .func (.func 94) #[] #[pv B, pv (B + 1)]) ⟨rfl, rfl, rfl, rfl, rfl, rfl, rfl, rfl, rfl, rfl, rfl, rfl⟩ ?_
          clear u
          intro u2
          have HY2 : Hid (∀ k, (k ∈ Fk ∨ k = B ∨ k = B + 1) → k < W2.heap.size ∧ ¬ T k ∧ ¬ Z1 k) := fun x hx => by
            have hw : wr.heap.size ≤ B := HB.out.2.1
            have hzb : ∀ y, Z1 y → y < wr.heap.size ∧ ¬ Y y := HZr.out
            rcases hx with hx | rfl | rfl
            · have hy : Y x := by have := HYd.out; rw [this]; exact .inl (HFk.out x hx)
              exact ⟨Nat.lt_of_lt_of_le (HYw.out x hy) HS2.out.tw.size, fun h => (HT.out x h).2 hy, fun h => (HS2.out.zb x h).2 hy⟩
            · exact ⟨blk_lt HB.out.2.2.1, fun h => by have := (HT.out _ h).1; have := HlW.out; omega, fun h => by have := (hzb _ h).1; omega⟩
            · exact ⟨blk_lt HB.out.2.2.2, fun h => by have := (HT.out _ h).1; have := HlW.out; omega, fun h => by have := (hzb _ h).1; omega⟩
          have hse : SeqL (n - 1) Try.prog 94 #[pv B, pv (B + 1)] eI (fun k => k ∈ Fk ∨ k = B ∨ k = B + 1) (wlk f o true (kk.flat h)) W2 :=
            HIH.out h rfl (n - 1) kk qk Fk B (B + 1) f o true W2 (HNk.out W2 HB.out.1) Hok.out.1 Hok.out.2 HB.out.2.2.1 HB.out.2.2.2
          refine range_l (T := T) (Z := Z1) rfl (enters_of Try.func94 (by kernel_rfl) rfl) hse (fun _ => rfl) (fun x hx => ⟨by have := (HT.out x hx).1; have := HlW.out; have := HB.out.1.size; omega, fun hy => (HY2.out x hy).2.1 hx⟩) (fun x hx => ⟨(HS2.out.zb x hx).1, fun hy => (HY2.out x hy).2.2 hx⟩) (fun x hx => (HY2.out x hx).1)
            (fun pre Z' W' => WS w l Y yb ds Z' W' ∧ J (cm (h + 1) t f o true i j k ++ pre) Z' W')
            (fun cc pre Z' W' => cc = .ret ∧ WS w l Y yb ds Z' W' ∧ Jx (cm (h + 1) t f o true i j k ++ pre) Z' W')
            ?abI ?abX ⟨HS2.out, by rw [List.append_nil]; exact HJ2.out⟩ (fun x => { tmps := (List.toArray (yF l :: pv bn :: pv bs :: pv yb :: .slice io t.its.length ic :: .slice (some ⟨kg, 0, none⟩) qs.length kcp :: .int .i64 (2 * (i : Int)) :: .int .i64 (2 * (j : Int)) :: u2 8 :: u2 9 :: u2 10 :: .string x.1 :: ev x.2 :: u2 13 :: u2 14 :: u2 15 :: u2 16 :: u2 17 :: u2 18 :: u2 19 :: u2 20 :: u2 21 :: u2 22 :: u2 23 :: u2 24 :: u2 25 :: u2 26 :: u2 27 :: u2 28 :: u2 29 :: u2 30 :: u2 31 :: .int .i64 (2 * (j : Int) - 2 * (i : Int) + 1) :: .int .i64 (k : Int) :: u2 34 :: u2 35 :: u2 36 :: u2 37 :: u2 38 :: u2 39 :: u2 40 :: u2 41 :: u2 42 :: u2 43 :: u2 44 :: u2 45 :: u2 46 :: u2 47 :: u2 48 :: u2 49 :: u2 50 :: u2 51 :: u2 52 :: u2 53 :: u2 54 :: u2 55 :: u2 56 :: u2 57 :: u2 58 :: u2 59 :: u2 60 :: u2 61 :: u2 62 :: u2 63 :: u2 64 :: u2 65 :: u2 66 :: u2 67 :: u2 68 :: u2 69 :: .func (.func 94) #[] #[pv B, pv (B + 1)] :: .string x.1 :: ev x.2 :: u2 73 :: u2 74 :: u2 75 :: u2 76 :: u2 77 :: u2 78 :: [])), defers := [] }) ?assign ?body ?done ?stop
          case abI =>
            rintro pre Z' W' W'' ⟨hs, hj⟩ tt
            exact ⟨hs.tch tt (fun x hx => ⟨fun hy => by have := HS2.out.lt HYw.out (.inl hy); omega, fun e => by have := HS2.out.lt HYw.out (.inr (.inl e)); omega, fun hd => by have := HS2.out.lt HYw.out (.inr (.inr hd)); omega⟩), HaJ.out.1 _ _ _ _ hj (tt.mono (fun x _ hx => ⟨by have := HlW.out; have := HB.out.1.size; omega, hx.2⟩))⟩
          case abX =>
            rintro cc pre Z' W' W'' ⟨hcc, hs, hj⟩ tt
            exact ⟨hcc, hs.tch tt (fun x hx => ⟨fun hy => by have := HS2.out.lt HYw.out (.inl hy); omega, fun e => by have := HS2.out.lt HYw.out (.inr (.inl e)); omega, fun hd => by have := HS2.out.lt HYw.out (.inr (.inr hd)); omega⟩), HaJ.out.2 _ _ _ _ hj (tt.mono (fun x _ hx => ⟨by have := HlW.out; have := HB.out.1.size; omega, hx.2⟩))⟩
          case assign =>
            intro l' x Wx K hK
            clear HE HJ2 HS2 HR
            gi_wp2
            exact hK
          case body =>
            rintro l' pre x Z' Wb hpre ⟨hs, hj⟩
            have hyc : Wb.cell? ⟨yb, 0, none⟩ = some (yF l) := by rw [blk_cell hs.yc]; rfl
            have hpr : (cm (h + 1) t f o true i j k ++ pre) ++ [x] <+: wlk f o true (t.flat (h + 1)) := by
              refine List.IsPrefix.trans ?_ Hpre.out
              rw [Hcs.out, List.append_assoc]
              exact List.prefix_append_right_inj _ |>.2 hpre
            obtain ⟨fn, tmps, assign, body, hy, hR⟩ := YieldAt.inRound l' (HY.out (n - 1 - 1 - 1) _ x Z' Wb hpr hj)
            have Hs : Hid (WS w l Y yb ds Z' Wb) := hs
            clear hpr hj hs hpre HE HJ2 HS2 HR hse HY2 HNk HFk Hok
            gi_wp2_with fail
            refine ⟨fun h => (by cases h), hR.mono ?_⟩
            rintro e W3 ⟨Z2, hz2, t3, (⟨rfl, hJ3⟩ | ⟨rfl, hx3⟩)⟩
            · have HL : Hid (Lft T Z' Wb W3 (fun Z' W' => WS w l Y yb ds Z' W' ∧ J (cm (h + 1) t f o true i j k ++ (pre ++ [x])) Z' W')) := ⟨Z2, hz2, t3, Hs.out.round HYw.out HT.out hz2 t3, by rw [← List.append_assoc]; exact hJ3⟩
              clear hR hy hyc hJ3 hz2 t3
              gi_wp2_with fail
              exact HL.out
            · have HL : Hid (Lft T Z' Wb W3 (fun Z' W' => WS w l Y yb ds Z' W' ∧ Jx (cm (h + 1) t f o true i j k ++ (pre ++ [x])) Z' W')) := ⟨Z2, hz2, t3, Hs.out.round HYw.out HT.out hz2 t3, by rw [← List.append_assoc]; exact hx3⟩
              clear hR hy hyc hx3 hz2 t3
              gi_wp2_with fail
              obtain ⟨Z3, g1, g2, g3, g4⟩ := HL.out
              exact ⟨Z3, g1, g2, rfl, g3, g4⟩
          case done =>
            rintro D Z' W' hD hzD ⟨hs, hj⟩ hK
            have hDs : D ∉ ds := fun hd => by have := HS2.out.lt HYw.out (.inr (.inr hd)); omega
            have HS3 : Hid (WS w l Y yb (D :: ds) Z' W') := hs.mark D (by have := HlW.out; have := HB.out.1.size; omega) hzD hK hDs
            have HJ3 : Hid (J (cm (h + 1) t f o true i j (k + 1)) Z' W') := by
              show J _ _ _
              rw [Hcs.out]
              exact hj
            clear hs hj hK hDs hD hzD HE HJ2 HS2 HR hse HY2 HNk HFk Hok
            gi_wp2_with fail
            refine Handed.intro (lf - 1) (by omega) (hJJ _ _ _ ⟨k + 1, Z', D :: ds, ⟨rfl, rfl, rfl, rfl, rfl, rfl, rfl, rfl, rfl, rfl, congrArg (Value.int .i64) (by omega)⟩, rfl, by omega, HS3, HJ3⟩)
          case stop =>
            rintro D cc pre Z' W' hD hzD hpre ⟨rfl, hs, hx⟩ hK
            have hDs : D ∉ ds := fun hd => by have := HS2.out.lt HYw.out (.inr (.inr hd)); omega
            have HS3 : Hid (WS w l Y yb (D :: ds) Z' W') := hs.mark D (by have := HlW.out; have := HB.out.1.size; omega) hzD hK hDs
            have Hx3 : Hid (Jx (cm (h + 1) t f o true i j k ++ pre) Z' W') := hx
            have Hpr : Hid (cm (h + 1) t f o true i j k ++ pre <+: wlk f o true (t.flat (h + 1))) := by
              refine List.IsPrefix.trans ?_ Hpre.out
              rw [Hcs.out]
              exact List.prefix_append_right_inj _ |>.2 hpre
            clear hs hx hK hDs hD hzD hpre HE HJ2 HS2 HR hse HY2 HNk HFk Hok
            gi_wp2_with fail
            refine leaves_marks (D :: ds) _ (fun d hd => (HS3.out.md d hd).2.2) HS3.out.nod (fun W' tt => ?_)
            refine ⟨_, results_none rfl _ _ _, ⟨_, rfl⟩, Z', .inr ⟨_, Hpr.out, HaJ.out.2 _ _ _ _ Hx3.out (tt.mono (fun d _ hd => ⟨(HS3.out.md d hd).1, (HS3.out.md d hd).2.1⟩))⟩⟩
      · skip
        obtain ⟨c, hc⟩ : ∃ c, c = q / 2 := ⟨_, rfl⟩
        have hm' : (q : Int) % 2 = 1 := by omega
        have hd' : (q : Int) / 2 = (c : Int) := by omega
        have Hc : Hid (q = 2 * c + 1 ∧ i ≤ c ∧ c < j) := ⟨by omega, by omega, by omega⟩
        have hcl : c < t.its.length := by have := Hc.out; have := HE.out.jl; omega
        obtain ⟨g, gc, hgv, _, _, _, hgA, _⟩ := own_at hPr.its (by omega)
        injection hgv with hg1 _ hg2
        subst hg1
        subst hg2
        obtain ⟨ce, hce⟩ : ∃ ce : It, t.its[c]? = some ce := ⟨_, List.getElem?_eq_getElem hcl⟩
        have he : t.its[c] = ce := (List.getElem?_eq_some_iff.1 hce).2
        have y0 : wr.cell? ⟨g, c * 2, none⟩ = some (.string ce.1) := by
          have := hgA (c * 2) _ (icl_get t.its c hcl).1
          rw [Nat.zero_add] at this
          exact this.trans (congrArg (fun x : It => some (Value.string x.1)) he)
        have y1 : wr.cell? ⟨g, c * 2 + 1, none⟩ = some (ev ce.2) := by
          have := hgA (c * 2 + 1) _ (icl_get t.its c hcl).2
          rw [Nat.zero_add] at this
          exact this.trans (congrArg (fun x : It => some (ev x.2)) he)
        have hcI : (c : Int) < t.its.length := by omega
        have Hcl : Hid (c < t.its.length) := hcl
        have Hce : Hid (t.its[c]? = some ce) := hce
        clear hm hc hcl hce he hgA hNr hbnr hbsr hPr hKr
        obtain ⟨wa, hwa⟩ : ∃ wa, wa = wr.alloc (.cells #[.string ce.1, ev ce.2] 74) := ⟨_, rfl⟩
        have ta : Tch (fun _ => False) wr wa := by rw [hwa]; exact Tch.alloc _ _ _
        have HSa : Hid (WS w l Y yb ds Z1 wa) := HS.out.new ta
        have hyc2 : wa.cell? ⟨yb, 0, none⟩ = some (yF l) := by rw [blk_cell HSa.out.yc]; rfl
        have HJa : Hid (J (cm h t f o true i j k) Z1 wa) := HaJ.out.1 _ _ _ _ HJ.out (ta.mono (fun _ _ h => h.elim))
        have hcs : cm h t f o true i j (k + 1) = cm h t f o true i j k ++ [ce] := by
          obtain ⟨v1, A1, K1, B1, p1⟩ := pl_any (HR.out wr HS.out.tw).1 HO.out.1 c (Nat.le_of_lt Hcl.out)
          obtain ⟨B', hB'⟩ := p1.item ce Hce.out
          rw [cm_step h t f o true i j k (by have := Hc.out; omega), ← Hq.out, Hc.out.1, p1.item_cut hB']
          have hin := inSp_item HE.out Hc.out.2.1 Hc.out.2.2 ce Hce.out
          unfold wlk fall sp
          rw [List.filter_cons, if_pos hin]
          simp
        have hpre : cm h t f o true i j k ++ [ce] <+: wlk f o true (t.flat h) := by
          obtain ⟨v1, A1, K1, B1, p1⟩ := pl_any (HR.out wr HS.out.tw).1 HO.out.1 i HE.out.il
          obtain ⟨v2, A2, K2, B2, p2⟩ := pl_any (HR.out wr HS.out.tw).1 HO.out.1 j HE.out.jl
          rw [← hcs, ← cm_all true HE.out HO.out.2 p1 p2 (by have := Hc.out; omega)]
          have := cm_pre h t f o true i j (k + 1) (2 * j - 2 * i - k) (by omega)
          rwa [show k + 1 + (2 * j - 2 * i - k) = 2 * j - 2 * i + 1 by have := Hc.out; omega] at this
        obtain ⟨fn, tmps, assign, body, hy, hR⟩ := HY.out (n - 1) _ ce Z1 wa hpre HJa.out
        have Hcs : Hid (cm h t f o true i j (k + 1) = cm h t f o true i j k ++ [ce]) := hcs
        have Hpre : Hid (cm h t f o true i j k ++ [ce] <+: wlk f o true (t.flat h)) := hpre
        have z0 : wa.cell? ⟨wr.heap.size, 0, none⟩ = some (.string ce.1) := by rw [hwa, blk_cell (alloc_new _ _)]; rfl
        have z1 : wa.cell? ⟨wr.heap.size, 1, none⟩ = some (ev ce.2) := by rw [hwa, blk_cell (alloc_new _ _)]; rfl
        have Hwa : Hid (wa = wr.alloc (.cells #[.string ce.1, ev ce.2] 74)) := hwa
        rw [hwa] at hyc2 z0 z1 hy hR
        rw [hwa] at HSa
        clear hcs hpre ta hwa
        gi_wp2_with fail
        refine ⟨fun h => (by cases h), hR.mono ?_⟩
        clear hR hy hyc2 z0 z1 hyc x3 y0 y1 HJa Hwa
        rintro e W3 ⟨Z2, hz2, t3, (⟨rfl, hJ3⟩ | ⟨rfl, hx3⟩)⟩
        · have HS3 : Hid (WS w l Y yb ds Z2 W3) := HSa.out.round HYw.out HT.out hz2 t3
          have HJ3 : Hid (J (cm h t f o true i j (k + 1)) Z2 W3) := by
            show J _ _ _
            rw [Hcs.out]
            exact hJ3
          clear hJ3 t3 hz2 HSa
          gi_wp2_with fail
          refine Handed.intro (lf - 1) (by omega) (hJJ _ _ _ ⟨k + 1, Z2, ds, ⟨rfl, rfl, rfl, rfl, rfl, rfl, rfl, rfl, rfl, rfl, congrArg (Value.int .i64) (by omega)⟩, rfl, by omega, HS3, HJ3⟩)
        · have HS3 : Hid (WS w l Y yb ds Z2 W3) := HSa.out.round HYw.out HT.out hz2 t3
          have Hx3 : Hid (Jx (cm h t f o true i j k ++ [ce]) Z2 W3) := hx3
          clear hx3 t3 hz2 HSa
          gi_wp2_with fail
          refine leaves_marks ds _ (fun d hd => (HS3.out.md d hd).2.2) HS3.out.nod (fun W' tt => ?_)
          refine ⟨_, results_none rfl _ _ _, ⟨_, rfl⟩, Z2, .inr ⟨_, Hpre.out, HaJ.out.2 _ _ _ _ Hx3.out (tt.mono (fun d _ hd => ⟨(HS3.out.md d hd).1, (HS3.out.md d hd).2.1⟩))⟩⟩
  · have HF : Hid (∀ W', Tch (fun d => d ∈ ds) wr W' → J (wlk f o b (t.flat h)) Z1 W') := fun W' tt => by
      have h9 : cm h t f o b i j k = wlk f o b (t.flat h) := by
        have hNr := (HR.out wr HS.out.tw).1
        obtain ⟨v1, A1, K1, B1, p1⟩ := pl_any hNr HO.out.1 i HE.out.il
        obtain ⟨v2, A2, K2, B2, p2⟩ := pl_any hNr HO.out.1 j HE.out.jl
        rcases Nat.lt_or_ge j i with hij | hij
        · rw [cm_none b HE.out HO.out.2 p1 p2 hij, show k = 0 by omega, cm_zero]
        · rw [← cm_all b HE.out HO.out.2 p1 p2 hij, show k = 2 * j - 2 * i + 1 by omega]
      rw [← h9]
      exact HaJ.out.1 _ _ _ _ HJ.out (tt.mono (fun d _ hd => ⟨(HS.out.md d hd).1, (HS.out.md d hd).2.1⟩))
    gi_wp2_with fail
    refine leaves_marks ds _ (fun d hd => (HS.out.md d hd).2.2) HS.out.nod (fun W' tt => ?_)
    refine ⟨_, results_none rfl _ _ _, ⟨_, rfl⟩, Z1, .inl (HF.out W' tt)⟩
theorem walk1_all (h : Nat) : Nit h := by
  induction h with
  | zero => exact walk1_step 0 (fun j e => by omega)
  | succ h ih =>
    refine walk1_step (h + 1) (fun j e => ?_)
    have e' : h = j := by omega
    rw [← e']
    exact ih
end Go.Proofs.Ytnjiiebjdpipjaa
