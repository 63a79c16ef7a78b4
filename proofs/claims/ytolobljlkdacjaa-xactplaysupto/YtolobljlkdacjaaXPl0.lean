import Derived.Test.YtolobljlkdacjaaXDisp
/- Two managers of a side, made. -/
namespace Go.Proofs.Ytolobljlkdacjaa
open Go.RowKit Go

theorem new_no (n : Int) (w : World) (h : n < 1 ∨ 2147483648 < n) :
    Calls Try.prog 12 #[.int .i64 n] w fun x w' => x = .returned (.tuple #[.pointer none, .int .i64 1]) ∧ w' = w := by
  by_cases h1 : n < 1
  · clear h
    go_enter Try.func12, Try.ntmps12
    go_wp2
    go_ret2
    exact ⟨rfl, rfl⟩
  · have h2 : 2147483648 < n := by omega
    clear h
    go_enter Try.func12, Try.ntmps12
    go_wp2
    go_ret2
    exact ⟨rfl, rfl⟩
theorem begins_no (n : Int) (w : World) (h : n < 1 ∨ 2147483648 < n) :
    Calls Try.prog 4 #[.int .i64 n] w fun x w' => x = .returned (.tuple #[.pointer (some ⟨w.heap.size, 0, none⟩), .bool true]) ∧ w'.heap[w.heap.size]? = some (.cells #[.pointer none, .pointer none, .slice none 0 0, .slice none 0 0, .slice none 0 0, .slice none 0 0] 33 (0, 0)) ∧ Tch (fun _ => False) w w' := by
  have q1 := new_no n w h
  have q2 := rnew_no n w h
  have HF : Hid ((w.alloc (.cells #[.pointer none, .pointer none, .slice none 0 0, .slice none 0 0, .slice none 0 0, .slice none 0 0] 33)).heap[w.heap.size]? = some (.cells #[.pointer none, .pointer none, .slice none 0 0, .slice none 0 0, .slice none 0 0, .slice none 0 0] 33 (0, 0)) ∧ Tch (fun _ => False) w (w.alloc (.cells #[.pointer none, .pointer none, .slice none 0 0, .slice none 0 0, .slice none 0 0, .slice none 0 0] 33))) := ⟨alloc_new _ _, Tch.alloc _ _ _⟩
  clear h
  go_enter Try.func4, Try.ntmps4
  go_wp2_with fail
  refine q1.mono ?_
  rintro y wy ⟨rfl, hwy⟩
  obtain rfl := hwy.symm
  clear q1
  go_wp2_with fail
  refine q2.mono ?_
  rintro y wy ⟨rfl, hwy⟩
  obtain rfl := hwy.symm
  clear q2
  go_wp2_with fail
  go_ret2
  exact ⟨rfl, HF.out⟩
theorem begins_ok (n : Nat) (w : World) (o : Nat → Nat) (β : Nat) (h1 : 1 ≤ n) (h2 : n ≤ 2147483648) :
    Calls Try.prog 4 #[.int .i64 n] w fun x w' => ∃ sb o', x = .returned (.tuple #[.pointer (some ⟨sb, 0, none⟩), .bool true]) ∧ Sd w' o' β sb ⟨n, [], []⟩ [] 0 ∧ Ev (KS β) w o w' o' := by
  have q1 := new_ok n w h1 h2
  have Hq2 : Hid _ := fun W => rnew_ok (n : Int) W (by omega) (by omega)
  have Hb : Hid (1 ≤ n ∧ n ≤ 2147483648) := ⟨h1, h2⟩
  clear h1 h2
  go_enter Try.func4, Try.ntmps4
  go_wp2_with fail
  refine q1.mono ?_
  rintro y w1 ⟨⟨b, rfl, hb, hM⟩, t1⟩
  clear q1
  have q2 := Hq2.out w1
  have HM : Hid _ := hM
  have HT : Hid (Tch (fun _ => False) w w1) := t1
  clear hM t1 hb
  go_wp2_with fail
  refine q2.mono ?_
  rintro y w2 ⟨rfl, hw2⟩
  have Hw2 : Hid _ := hw2
  clear q2 hw2
  obtain ⟨w3, hw3⟩ : ∃ w3, w3 = w2.alloc (.cells #[.pointer (some ⟨b, 0, none⟩), .pointer (some ⟨w1.heap.size, 0, none⟩), .slice none 0 0, .slice none 0 0, .slice none 0 0, .slice none 0 0] 33) := ⟨_, rfl⟩
  have HF : Hid (∃ sb o', Value.pointer (some ⟨w2.heap.size, 0, none⟩) = .pointer (some ⟨sb, 0, none⟩) ∧ Sd w3 o' β sb ⟨n, [], []⟩ [] 0 ∧ Ev (KS β) w o w3 o') := by
    have e1 := Ev.quiet (o := o) (β + 1) HT.out
    have m1 : MF w1 b ⟨n, [], []⟩ (Oth w1 (ext w o (β + 1)) (β + 1)) := HM.out _ (fun i hi => (oth_ext hi).1)
    have t2 : Tch (fun _ => False) w1 w2 := by rw [Hw2.out]; exact Tch.alloc _ _ _
    have e2 := Ev.quiet (o := ext w o (β + 1)) (β + 2) t2
    have hw : Wf ⟨n, [], []⟩ := by obtain ⟨_, _, _, h, _⟩ := m1; exact h.wf
    have r2 : RF w2 w1.heap.size ⟨n, [], []⟩ (Oth w2 (ext w1 (ext w o (β + 1)) (β + 2)) (β + 2)) := by
      refine ⟨[], .slice none 0 0, Rel.new n Hb.out.1 Hb.out.2 hw, ⟨by rw [Hw2.out]; exact alloc_new _ _, ⟨rfl, Or.inl ⟨rfl, rfl⟩⟩, (fun g hg => by cases hg)⟩, fun hf => hf.2 (if_neg (by omega)), (fun g hg => by cases hg), fun i hi => hi.1⟩
    have t3 : Tch (fun _ => False) w2 w3 := by rw [hw3]; exact Tch.alloc _ _ _
    have e3 := Ev.quiet (o := ext w1 (ext w o (β + 1)) (β + 2)) (β + 10) t3
    refine ⟨w2.heap.size, _, rfl, ⟨b, w1.heap.size, .slice none 0 0, .slice none 0 0, .slice none 0 0, .slice none 0 0, [], [], ⟨if_neg (by omega), by rw [hw3]; exact alloc_new _ _, (m1.ev e2 (by omega)).ev e3 (by omega), r2.ev e3 (by omega), ⟨⟨rfl, Or.inl ⟨rfl, rfl⟩⟩, (fun g hg => by cases hg), (fun j p hp => by simp at hp)⟩, ⟨⟨rfl, Or.inl ⟨rfl, rfl⟩⟩, (fun g hg => by cases hg), (fun j hj => by simp at hj)⟩, (fun g hg => by cases hg), rfl⟩, ⟨⟨rfl, Or.inl ⟨rfl, rfl⟩⟩, (fun g hg => by cases hg)⟩, ⟨⟨rfl, Or.inl ⟨rfl, rfl⟩⟩, (fun g hg => by cases hg)⟩, by simp, by simp⟩, ((e1.mono (fun k hk => by unfold KS; omega)).trans (e2.mono (fun k hk => by unfold KS; omega))).trans (e3.mono (fun k hk => by unfold KS; omega))⟩
  rw [hw3] at HF
  clear HM HT Hw2 hw3
  go_wp2_with fail
  go_ret2
  obtain ⟨sb, o', he, h6, h7⟩ := HF.out
  exact ⟨sb, o', by rw [← he]; rfl, h6, h7⟩
end Go.Proofs.Ytolobljlkdacjaa
/- The law's state between the steps. -/
namespace Go.Proofs.Ytolobljlkdacjaa
open Go.RowKit Go

/-- What is to be done. -/
structure Opv where
  kd : Int
  N : Int
  M : Int
  tw : Bool
  mn : Int
  mx : Int
  lo : Option Addr
  lc : Nat
  l : List Int
def Opv.cel (p : Opv) : List Value := [.int .i64 p.kd, .int .i64 p.N, .int .i64 p.M, .bool p.tw, .int .i64 p.mn, .int .i64 p.mx, .slice p.lo p.l.length p.lc]
structure Opv.ok (p : Opv) (w : World) : Prop where
  b1 : -9223372036854775808 ≤ p.N
  b2 : p.N ≤ 9223372036854775807
  b3 : -9223372036854775808 ≤ p.M
  b4 : p.M ≤ 9223372036854775807
  b5 : -9223372036854775808 ≤ p.mn
  b6 : p.mn ≤ 9223372036854775807
  hl : p.l.length ≤ 549755813888
  hI : IR w p.lo p.l
  hlo : p.lo = none → p.lc = 0
theorem Opv.ok.no {p : Opv} {w w' : World} (h : p.ok w) (t : Tch (fun _ => False) w w') : p.ok w' := ⟨h.b1, h.b2, h.b3, h.b4, h.b5, h.b6, h.hl, h.hI.no t, h.hlo⟩
/-- Its cells, at a place. -/
def OpAt (w : World) (g o : Nat) (p : Opv) : Prop := ∀ j u, p.cel[j]? = some u → w.cell? ⟨g, o + j, none⟩ = some u
theorem OpAt.no {w w' : World} {g o : Nat} {p : Opv} (h : OpAt w g o p) (t : Tch (fun _ => False) w w') : OpAt w' g o p := fun j u hu => by
  have := h j u hu
  rw [t.cell (cell_lt this) (fun h => h)]; exact this
/-- The first five. -/
def fop (from' : Int) (k : Nat) : Opv := match k with
  | 0 => ⟨1, 0, 0, false, 0, 0, none, 0, []⟩
  | 1 => ⟨2, from', 0, false, 0, 0, none, 0, []⟩
  | 2 => ⟨8, from' + 1, 0, false, 0, 0, none, 0, []⟩
  | 3 => ⟨13, 0, 0, false, 0, 0, none, 0, []⟩
  | _ => ⟨10, from', 0, false, 0, 0, none, 0, []⟩
theorem fop_ok (from' : Int) (h1 : 0 ≤ from') (h2 : from' ≤ 2147483648) (k : Nat) (w : World) : (fop from' k).ok w := by
  unfold fop
  split <;> exact ⟨by simp <;> omega, by simp <;> omega, by simp, by simp, by simp, by simp, by simp, fun k n hk => by simp at hk, fun _ => rfl⟩
def fcl (from' : Int) : List Value := (fop from' 0).cel ++ (fop from' 1).cel ++ (fop from' 2).cel ++ (fop from' 3).cel ++ (fop from' 4).cel
theorem fcl_at {w : World} {fb : Nat} {from' : Int} (h : w.heap[fb]? = some (.cells (fcl from').toArray 38 (0, 0))) (k : Nat) (hk : k < 5) : OpAt w fb (k * 7) (fop from' k) := fun j u hu => by
  rw [blk_cell h]
  have hj : j < 7 := by have := (List.getElem?_eq_some_iff.1 hu).1; simpa [Opv.cel] using this
  have : k = 0 ∨ k = 1 ∨ k = 2 ∨ k = 3 ∨ k = 4 := by omega
  rcases this with rfl | rfl | rfl | rfl | rfl <;> (have h7 : j = 0 ∨ j = 1 ∨ j = 2 ∨ j = 3 ∨ j = 4 ∨ j = 5 ∨ j = 6 := by omega) <;> rcases h7 with rfl | rfl | rfl | rfl | rfl | rfl | rfl <;> exact hu
theorem Sd.ev {K : Nat → Prop} {w w' : World} {o o' : Nat → Nat} {β sb : Nat} {m : Mg} {ks : List (Int × Int × Value)} {n : Nat} (h : Sd w o β sb m ks n) (e : Ev K w o w' o') (hk : ∀ j, 1 ≤ j → j ≤ 10 → ¬ K (β + j)) : Sd w' o' β sb m ks n := by
  obtain ⟨mb, rb, kv, rv, hv, wv, A, h, s, h4, h5, hh, hA⟩ := h
  exact ⟨mb, rb, kv, rv, hv, wv, A, h, s.ev e ⟨hk 1 (by omega) (by omega), hk 2 (by omega) (by omega), hk 3 (by omega) (by omega), hk 6 (by omega) (by omega), hk 10 (by omega) (by omega)⟩, h4.ev e (hk 4 (by omega) (by omega)), h5.ev e (hk 5 (by omega) (by omega)), hh, hA⟩
/-- The law's state: W0: the world when it began; the first ones lie at fb. -/
structure PL (W0 : World) (sa sb fb : Nat) (from' : Int) (k : Nat) (w : World) : Prop where
  st : ∃ o ma mb ksa ksb, Sd w o 0 sa ma ksa (40 * k) ∧ Sd w o 20 sb mb ksb (40 * k) ∧ ksa.length ≤ k ∧ ksb.length ≤ k ∧ (∀ i, i < W0.heap.size → o i = 0) ∧ o fb = 40
  tc : Tch (fun _ => False) W0 w
  fb' : w.heap[fb]? = some (.cells (fcl from').toArray 38 (0, 0))
theorem PL.no {W0 : World} {sa sb fb : Nat} {from' : Int} {k : Nat} {w w' : World} (p : PL W0 sa sb fb from' k w) (t : Tch (fun _ => False) w w') : PL W0 sa sb fb from' k w' := by
  obtain ⟨o, ma, mb, ksa, ksb, h1, h2, h3, h4, h5, h6⟩ := p.st
  have e := Ev.quiet (o := o) 50 t
  have hfl := blk_lt p.fb'
  refine ⟨⟨_, ma, mb, ksa, ksb, h1.ev e (fun j _ _ => by omega), h2.ev e (fun j _ _ => by omega), h3, h4, fun i hi => ?_, ?_⟩, p.tc.trans' t, by rw [t.block fb hfl (fun h => h)]; exact p.fb'⟩
  · rw [e.old i (Nat.lt_of_lt_of_le hi p.tc.size) (by rw [h5 i hi]; omega), h5 i hi]
  · rw [e.old fb hfl (by rw [h6]; omega), h6]
theorem PL.up {W0 : World} {sa sb fb : Nat} {from' : Int} {k k' : Nat} {w : World} (p : PL W0 sa sb fb from' k w) (h : k ≤ k') : PL W0 sa sb fb from' k' w := by
  obtain ⟨o, ma, mb, ksa, ksb, h1, h2, h3, h4, h5, h6⟩ := p.st
  exact ⟨⟨o, ma, mb, ksa, ksb, h1.mono (by omega), h2.mono (by omega), by omega, by omega, h5, h6⟩, p.tc, p.fb'⟩
/-- A step of the first, of the second side. -/
theorem PL.stepA {W0 : World} {sa sb fb : Nat} {from' : Int} {k : Nat} {w : World} (p : PL W0 sa sb fb from' k w) (hk : k ≤ 1048600) (q : Opv) (hq : q.ok w) : Calls Try.prog 7 #[.pointer (some ⟨sa, 0, none⟩), .agg #[.int .i64 q.kd, .int .i64 q.N, .int .i64 q.M, .bool q.tw, .int .i64 q.mn, .int .i64 q.mx, .slice q.lo q.l.length q.lc]] w fun x w' => x = .returned (.bool true) ∧ PL W0 sa sb fb from' (k + 1) w' := by
  obtain ⟨o, ma, mb, ksa, ksb, h1, h2, h3, h4, h5, h6⟩ := p.st
  refine (step_any w o 0 sa ma ksa _ h1 (by omega) (by omega) q.kd q.N q.M q.tw q.mn q.mx q.lo q.lc q.l hq.hl hq.hI hq.hlo hq.b1 hq.b2 hq.b3 hq.b4 hq.b5 hq.b6).mono ?_
  rintro x w' ⟨rfl, o', m', ks', g1, e, g3⟩
  have hfl := blk_lt p.fb'
  have hk0 : ¬ KS 0 0 := fun h => by unfold KS at h; omega
  have hk4 : ¬ KS 0 40 := fun h => by unfold KS at h; omega
  refine ⟨rfl, ⟨o', m', mb, ks', ksb, g1.mono (by omega), (h2.ev e (fun j _ _ h => by unfold KS at h; omega)).mono (by omega), by omega, by omega, fun i hi => ?_, ?_⟩, p.tc.trans e.tch (fun i hi hk => by rw [h5 i hi] at hk; exact hk0 hk), by rw [e.tch.block fb hfl (by rw [h6]; exact hk4)]; exact p.fb'⟩
  · rw [e.old i (Nat.lt_of_lt_of_le hi p.tc.size) (by rw [h5 i hi]; exact hk0), h5 i hi]
  · rw [e.old fb hfl (by rw [h6]; exact hk4), h6]
theorem PL.stepB {W0 : World} {sa sb fb : Nat} {from' : Int} {k : Nat} {w : World} (p : PL W0 sa sb fb from' k w) (hk : k ≤ 1048600) (q : Opv) (hq : q.ok w) : Calls Try.prog 7 #[.pointer (some ⟨sb, 0, none⟩), .agg #[.int .i64 q.kd, .int .i64 q.N, .int .i64 q.M, .bool q.tw, .int .i64 q.mn, .int .i64 q.mx, .slice q.lo q.l.length q.lc]] w fun x w' => x = .returned (.bool true) ∧ PL W0 sa sb fb from' (k + 1) w' := by
  obtain ⟨o, ma, mb, ksa, ksb, h1, h2, h3, h4, h5, h6⟩ := p.st
  refine (step_any w o 20 sb mb ksb _ h2 (by omega) (by omega) q.kd q.N q.M q.tw q.mn q.mx q.lo q.lc q.l hq.hl hq.hI hq.hlo hq.b1 hq.b2 hq.b3 hq.b4 hq.b5 hq.b6).mono ?_
  rintro x w' ⟨rfl, o', m', ks', g1, e, g3⟩
  have hfl := blk_lt p.fb'
  have hk0 : ¬ KS 20 0 := fun h => by unfold KS at h; omega
  have hk4 : ¬ KS 20 40 := fun h => by unfold KS at h; omega
  refine ⟨rfl, ⟨o', ma, m', ksa, ks', (h1.ev e (fun j _ _ h => by unfold KS at h; omega)).mono (by omega), g1.mono (by omega), by omega, by omega, fun i hi => ?_, ?_⟩, p.tc.trans e.tch (fun i hi hk => by rw [h5 i hi] at hk; exact hk0 hk), by rw [e.tch.block fb hfl (by rw [h6]; exact hk4)]; exact p.fb'⟩
  · rw [e.old i (Nat.lt_of_lt_of_le hi p.tc.size) (by rw [h5 i hi]; exact hk0), h5 i hi]
  · rw [e.old fb hfl (by rw [h6]; exact hk4), h6]
theorem Sd.still {w : World} {o : Nat → Nat} {β sb : Nat} {m : Mg} {ks : List (Int × Int × Value)} {n : Nat} (h : Sd w o β sb m ks n) (hn : n ≤ 99999000) : Calls Try.prog 8 #[.pointer (some ⟨sb, 0, none⟩)] w fun x w' => x = .returned (.bool true) ∧ w' = w := by
  obtain ⟨mb, rb, kv, rv, hv, wv, A, h, s, h4, h5, hh, hA⟩ := h
  exact still_any sb _ A rv _ w s.blk rfl s.ls (by omega)
theorem PL.stillA {W0 : World} {sa sb fb : Nat} {from' : Int} {k : Nat} {w : World} (p : PL W0 sa sb fb from' k w) (hk : k ≤ 1048700) : Calls Try.prog 8 #[.pointer (some ⟨sa, 0, none⟩)] w fun x w' => x = .returned (.bool true) ∧ w' = w := by
  obtain ⟨o, ma, mb, ksa, ksb, h1, h2, -⟩ := p.st
  exact h1.still (by omega)
theorem PL.stillB {W0 : World} {sa sb fb : Nat} {from' : Int} {k : Nat} {w : World} (p : PL W0 sa sb fb from' k w) (hk : k ≤ 1048700) : Calls Try.prog 8 #[.pointer (some ⟨sb, 0, none⟩)] w fun x w' => x = .returned (.bool true) ∧ w' = w := by
  obtain ⟨o, ma, mb, ksa, ksb, h1, h2, -⟩ := p.st
  exact h2.still (by omega)
/-- The pointers of a side, and what its managers answer. -/
theorem Sd.ptrs {w : World} {o : Nat → Nat} {β sb : Nat} {m : Mg} {ks : List (Int × Int × Value)} {n : Nat} (h : Sd w o β sb m ks n) : ∃ mb rb F G, w.cell? ⟨sb, 0, none⟩ = some (.pointer (some ⟨mb, 0, none⟩)) ∧ w.cell? ⟨sb, 1, none⟩ = some (.pointer (some ⟨rb, 0, none⟩)) ∧ MF w mb m F ∧ RF w rb m G := by
  obtain ⟨mb, rb, kv, rv, hv, wv, A, h, s, -⟩ := h
  exact ⟨mb, rb, _, _, by rw [blk_cell s.blk]; rfl, by rw [blk_cell s.blk]; rfl, s.mf, s.rf⟩
end Go.Proofs.Ytolobljlkdacjaa
