import Derived.Test.YtblhmjndegfofaaCWpure
/- CatalogWidens: the law. -/
namespace Go.Proofs.Ytblhmjndegfofaa
open Go.RowKit Go

theorem new_any (w : World) : Calls Try.prog 7 #[] w fun x w' => x = .returned (.pointer (some ⟨w.heap.size, 0, none⟩)) ∧ w' = w.alloc (.cells #[.slice none 0 0, .int .i64 0] 79) := by
  go_enter Try.func7, Try.ntmps7
  go_wp2
  go_ret
  exact ⟨rfl, rfl⟩
theorem pick6_any (c : Int) (h1 : -9223372036854775808 ≤ c) (h2 : c ≤ 9223372036854775807) (w : World) : Calls Try.prog 18 #[.int .i64 c, .int .i64 6] w fun x w' => ∃ k : Nat, k < 6 ∧ x = .returned (.int .i64 k) ∧ w' = w := by
  by_cases hc : c < 0
  · have e1 : IntKind.i64.wrap (c + 1) = c + 1 := wrap_of (by omega) (by omega)
    have e2 : IntKind.i64.wrap (-(c + 1)) = -(c + 1) := wrap_of (by omega) (by omega)
    obtain ⟨m, hm⟩ : ∃ m : Nat, -(c + 1) = m := ⟨(-(c + 1)).toNat, by omega⟩
    go_enter Try.func18, Try.ntmps18
    go_wp2
    go_ret
    refine ⟨m % 6, by omega, ?_, rfl⟩
    simp
  · obtain ⟨m, rfl⟩ : ∃ m : Nat, c = m := ⟨c.toNat, by omega⟩
    go_enter Try.func18, Try.ntmps18
    go_wp2
    go_ret
    refine ⟨m % 6, by omega, ?_, rfl⟩
    rfl
theorem name_any (c : Int) (h1 : -9223372036854775808 ≤ c) (h2 : c ≤ 9223372036854775807) (w : World) : Calls Try.prog 11 #[.int .i64 c] w fun x w' => (∃ k : Nat, k < 6 ∧ x = .returned (.string (nmS k))) ∧ Tch (fun _ => False) w w' := by
  obtain ⟨w0, hw0⟩ : ∃ w0, w0 = w.alloc (.cells #[.string ⟨#[97]⟩, .string ⟨#[98]⟩, .string ⟨#[99]⟩, .string ⟨#[100]⟩, .string ⟨#[101]⟩, .string ⟨#[102]⟩] 9) := ⟨_, rfl⟩
  have hb : w0.heap[w.heap.size]? = some (.cells #[.string ⟨#[97]⟩, .string ⟨#[98]⟩, .string ⟨#[99]⟩, .string ⟨#[100]⟩, .string ⟨#[101]⟩, .string ⟨#[102]⟩] 9 (0, 0)) := by rw [hw0]; exact alloc_new _ _
  have hc : ∀ k : Nat, k < 6 → w0.cell? ⟨w.heap.size, k, none⟩ = some (.string (nmS k)) := fun k hk => by
    rw [blk_cell hb]
    rcases (by omega : k = 0 ∨ k = 1 ∨ k = 2 ∨ k = 3 ∨ k = 4 ∨ k = 5) with rfl | rfl | rfl | rfl | rfl | rfl <;> rfl
  have q := pick6_any c h1 h2 w0
  have Hw0 : Hid _ := hw0
  have Hc : Hid _ := hc
  clear hb hw0 hc
  go_enter Try.func11, Try.ntmps11
  go_wp2_with fail
  have hw0 := Hw0.out
  rw [← hw0]
  clear hw0
  refine q.mono ?_
  rintro y w1 ⟨k, hk, rfl, hw1⟩
  obtain rfl := hw1.symm
  clear hw1 q
  have c0 := Hc.out k hk
  have hkI : (k : Int) < 6 := by omega
  have Hk : Hid (k < 6) := hk
  have HT : Hid (Tch (fun _ => False) w w0) := by show Tch _ _ _; rw [Hw0.out]; exact Tch.alloc _ _ _
  go_wp2_with fail
  go_ret
  exact ⟨⟨k, Hk.out, rfl⟩, HT.out⟩
/-- A list of numbers that is handed in. -/
def IS (l : List Int) : List Value := l.map (fun n => .int .i64 n)
theorem isne {l : List Int} (h : 0 < l.length) : IS l ≠ [] := by
  intro e
  have h2 : (IS l).length = 0 := by rw [e]; rfl
  simp only [IS, List.length_map] at h2
  omega

set_option maxHeartbeats 8000000 in
set_option maxRecDepth 100000 in
theorem widens_law (vs : List Val) (ro : Option Addr) (rc : Nat) (ns : List Int) (no : Option Addr) (nc : Nat) (w : World) (hr : SL w ro (vcl vs)) (hro : ro = none → rc = 0) (hn : SL w no (IS ns)) (hvl : vs.length ≤ 9223372036854775807) (hnl : ns.length ≤ 9223372036854775807) (hni : ∀ n ∈ ns, -9223372036854775808 ≤ n ∧ n ≤ 9223372036854775807) :
    Calls Try.prog 3 #[.slice ro vs.length rc, .slice no ns.length nc] w fun x w' => x = .returned (.bool true) ∧ Tch (fun _ => False) w w' := by
  obtain ⟨B, hB⟩ : ∃ B, B = w.heap.size := ⟨_, rfl⟩
  obtain ⟨w1, hw1⟩ : ∃ w1, w1 = w.alloc (.cells #[.slice none 0 0, .int .i64 0] 79) := ⟨_, rfl⟩
  have t1 : Tch (fun _ => False) w w1 := by rw [hw1]; exact Tch.alloc _ _ _
  have hb1 : w1.heap[B]? = some (.cells #[.slice none 0 0, .int .i64 0] 79 (0, 0)) := by rw [hw1, hB]; exact alloc_new _ _
  obtain ⟨w2, hw2⟩ : ∃ w2, w2 = w1.alloc (.cells #[.string ⟨#[105, 100]⟩, .int .i64 1, .bool false, .string ⟨#[115]⟩, .int .i64 2, .bool true, .string ⟨#[111, 107]⟩, .int .i64 3, .bool true] 34) := ⟨_, rfl⟩
  have t2 : Tch (fun _ => False) w1 w2 := by rw [hw2]; exact Tch.alloc _ _ _
  obtain ⟨Cb, hCb⟩ : ∃ Cb, Cb = w1.heap.size := ⟨_, rfl⟩
  have hb2 : w2.heap[B]? = some (.cells #[.slice none 0 0, .int .i64 0] 79 (0, 0)) := by rw [t2.block B (blk_lt hb1) (fun h => h)]; exact hb1
  have hCA2 : CA w2 (fun _ => False) B [] 0 [] none 0 := ⟨hb2, rfl, ⟨SL.nil _ _, fun h => absurd rfl h, fun i hi => by simp at hi⟩, fun h => h⟩
  have hsl2 : SL w2 (some ⟨Cb, 0, none⟩) (ccl cols3) := fun _ => ⟨Cb, 0, rfl, by rw [hw2, hCb]; exact blk_at (alloc_new w1 (.cells (ccl cols3).toArray 34))⟩
  have hBC : B < Cb := by rw [hCb]; exact blk_lt hb1
  have q2 := create_any B [] 0 [] none 0 (fun _ => False) ⟨#[116]⟩ cols3 (some ⟨Cb, 0, none⟩) 3 0 w2 hCA2 (by simp) (fun i hi => by simp at hi) (fun _ h => h.elim) hsl2 (fun e => by cases e) (by simp [cols3]) (by simp [cols3]) (by omega) (by omega) (fun g o e _ => by injection e with e; injection e with e; omega)
  rw [creE0, creT0] at q2
  have q1 := new_any w
  rw [← hw1, ← hB] at q1
  have Hsl : Hid (∀ (S : Nat → Prop) W, Tch S w W → (∀ i, i < B → ¬ S i) → SL W ro (vcl vs) ∧ SL W no (IS ns)) := fun S W tW hS => ⟨hr.no (tW.mono (fun i hi h => hS i (by omega) h)), hn.no (tW.mono (fun i hi h => hS i (by omega) h))⟩
  have Hw2 : Hid _ := hw2
  have HCb : Hid (Cb = w1.heap.size) := hCb
  have HBw : Hid (B = w.heap.size) := hB
  have HT2 : Hid (Tch (fun _ => False) w w2) := t1.trans' t2
  have Hni : Hid _ := hni
  have HB2 : Hid (B < w2.heap.size) := blk_lt hb2
  clear hw1 hb1 hb2 hw2 hCA2 hsl2 hr hn t1 t2 hCb hB hni
  go_enter Try.func3, Try.ntmps3
  go_wp2_with fail
  refine q1.mono ?_
  rintro y w1' ⟨rfl, hw1'⟩
  obtain rfl := hw1'.symm
  clear q1 hw1'
  go_wp2_with fail
  rw [← HCb.out]
  have hw2 := Hw2.out
  rw [← hw2]
  clear hw2
  refine q2.mono ?_
  rintro y w3 hO
  clear q2
  obtain ⟨v, P, to, tc, rfl, hv, hca, t3⟩ := hO.1 rfl
  clear hO
  obtain ⟨vo, vc, rfl⟩ := row_slice hv
  have hcl0 : (tabR []).cols = cols3 := by simp [tabR]
  have hv3 : w3.ownsRow w2.heap.size 34 3 (.slice vo 3 vc) 3 (ccl cols3) := by rw [hcl0] at hv; exact hv
  have Hv3 : Hid (w3.ownsRow w2.heap.size 34 3 (.slice vo 3 vc) 3 (ccl cols3)) := hv3
  have Hca3 : Hid (CA w3 (fun _ => False) B [tabR []] 1 P to tc) := hca.fresh (fun _ _ h => Or.inl h)
  have Ht3 : Hid (Tch (fun i => i = B) w2 w3) := t3
  have hgo : tA (tabR []).id (tabR []).ver (tabR []).nm (Value.slice vo (tabR []).cols.length vc) (tabR []).key = tA 1 1 ⟨#[116]⟩ (.slice vo 3 vc) 0 := by simp [tabR, cols3]
  rw [hgo]
  clear hgo hv hca t3 hcl0 hv3
  obtain ⟨B6, hB6⟩ : ∃ B6, B6 = w3.heap.size := ⟨_, rfl⟩
  obtain ⟨w4, hw4⟩ : ∃ w4, w4 = w3.alloc (.cells #[.int .i64 1, .int .i64 1, .string ⟨#[116]⟩, .slice vo 3 vc, .int .i64 0] 29) := ⟨_, rfl⟩
  have t4 : Tch (fun _ => False) w3 w4 := by rw [hw4]; exact Tch.alloc _ _ _
  have hb6 : w4.heap[B6]? = some (.cells #[.int .i64 1, .int .i64 1, .string ⟨#[116]⟩, .slice vo 3 vc, .int .i64 0] 29 (0, 0)) := by rw [hw4, hB6]; exact alloc_new _ _
  have HT4 : Hid (Tch (fun i => i = B) w w4) := ((HT2.out.mono (fun _ _ h => h.elim)).trans' Ht3.out).trans' (t4.mono (fun _ _ h => h.elim))
  have hBlt : ∀ i, i < B → ¬ i = B := fun i hi => by omega
  have Hcs : Hid (∀ W, Tch (fun _ => False) w4 W → SL W vo (ccl cols3)) := fun W tW => (own_sl (own_tch Hv3.out t4 (fun _ _ h => h))).no tW
  have Hbx : Hid (∀ W, Tch (fun _ => False) w4 W → W.cell? ⟨B6, 0, none⟩ = some (.int .i64 1) ∧ W.cell? ⟨B6, 1, none⟩ = some (.int .i64 1) ∧ W.cell? ⟨B6, 2, none⟩ = some (.string ⟨#[116]⟩) ∧ W.cell? ⟨B6, 3, none⟩ = some (.slice vo 3 vc) ∧ W.cell? ⟨B6, 4, none⟩ = some (.int .i64 0)) := fun W tW => by
    have h3 : W.heap[B6]? = some (.cells #[.int .i64 1, .int .i64 1, .string ⟨#[116]⟩, .slice vo 3 vc, .int .i64 0] 29 (0, 0)) := by rw [tW.block B6 (blk_lt hb6) (fun h => h)]; exact hb6
    exact ⟨by rw [blk_cell h3]; rfl, by rw [blk_cell h3]; rfl, by rw [blk_cell h3]; rfl, by rw [blk_cell h3]; rfl, by rw [blk_cell h3]; rfl⟩
  have hvc3 : 3 ≤ vc := own_cap Hv3.out
  have Hfit : Hid (∀ W, Tch (fun _ => False) w4 W → ∀ us uo uc, SL W uo (vcl us) → (uo = none → uc = 0) → Calls Try.prog 9 #[tA 1 1 ⟨#[116]⟩ (.slice vo 3 vc) 0, .slice uo us.length uc] W fun x w' => FitOut (tabR []) us W x w' ∧ Tch (fun _ => False) W w') := fun W tW us uo uc hus huo => by
    have h2 := fit_any (tabR []) vo vc us uo uc W (by have := Hcs.out W tW; simpa [tabR] using this) (by simpa [tabR, cols3] using hvc3) (by simp [tabR, cols3]) hus huo
    have e : tA (tabR []).id (tabR []).ver (tabR []).nm (Value.slice vo (tabR []).cols.length vc) (tabR []).key = tA 1 1 ⟨#[116]⟩ (.slice vo 3 vc) 0 := by simp [tabR, cols3]
    rw [e] at h2
    exact h2
  have q3 := Hfit.out w4 (Tch.refl _ _) vs ro rc (Hsl.out _ w4 HT4.out hBlt).1 hro
  obtain ⟨b0, b1, b2, b3, b4⟩ := Hbx.out w4 (Tch.refl _ _)
  rw [hw4, hB6] at b0 b1 b2 b3 b4
  have Hw4 : Hid _ := hw4
  have HB6 : Hid (B6 = w3.heap.size) := hB6
  have HB6l : Hid (B6 < w4.heap.size) := blk_lt hb6
  have Ht4 : Hid (Tch (fun _ => False) w3 w4) := t4
  clear hw4 hB6 hb6 t4
  go_wp2_with fail
  have hw4 := Hw4.out
  rw [← hw4]
  clear hw4 b0 b1 b2 b3 b4
  refine q3.mono ?_
  rintro y w5 ⟨⟨av, rfl, hav⟩, t5⟩
  clear q3
  obtain ⟨f, hf⟩ : ∃ f, f = (fitR (tabR []) vs).2 := ⟨_, rfl⟩
  obtain ⟨al, has⟩ : ∃ al, al = (fitR (tabR []) vs).1 := ⟨_, rfl⟩
  rw [← has] at hav
  rw [← hf]
  have Hf : Hid (f = (fitR (tabR []) vs).2 ∧ al = (fitR (tabR []) vs).1) := ⟨hf, has⟩
  obtain ⟨ao, ac, rfl⟩ := row_slice hav
  have Hav : Hid (w5.ownsRow w4.heap.size 38 3 (.slice ao al.length ac) al.length (vcl al)) := hav
  clear hf has hav
  obtain ⟨w6, hw6⟩ : ∃ w6, w6 = w5.alloc (.cells #[.int .i64 1, .int .i64 5, .string ⟨#[]⟩] 38) := ⟨_, rfl⟩
  have t6 : Tch (fun _ => False) w5 w6 := by rw [hw6]; exact Tch.alloc _ _ _
  have T46 : Tch (fun _ => False) w4 w6 := t5.trans' t6
  have hsl6 : SL w6 (some ⟨w5.heap.size, 0, none⟩) (vcl [⟨1, 5, ⟨#[]⟩⟩]) := fun _ => ⟨w5.heap.size, 0, rfl, by rw [hw6]; exact blk_at (alloc_new w5 (.cells (vcl [⟨1, 5, ⟨#[]⟩⟩]).toArray 38))⟩
  have q4 := Hfit.out w6 T46 [⟨1, 5, ⟨#[]⟩⟩] (some ⟨w5.heap.size, 0, none⟩) 1 hsl6 (fun e => by cases e)
  obtain ⟨b0, b1, b2, b3, b4⟩ := Hbx.out w6 T46
  rw [hw6] at b0 b1 b2 b3 b4
  rw [HB6.out] at b0 b1 b2 b3 b4
  have Hw6 : Hid _ := hw6
  have HT46 : Hid (Tch (fun _ => False) w4 w6) := T46
  have Ht6 : Hid (Tch (fun _ => False) w5 w6) := t6
  have Hsl6 : Hid _ := hsl6
  clear hw6 t6 T46 hsl6 t5
  go_wp2_with fail
  have hw6 := Hw6.out
  rw [← hw6]
  clear hw6 b0 b1 b2 b3 b4
  refine q4.mono ?_
  rintro y w7 ⟨⟨bv, rfl, hbv⟩, t7⟩
  clear q4
  rw [fit5] at hbv ⊢
  have hbv3 : w7.ownsRow w6.heap.size 38 3 bv 3 (vcl [⟨1, 5, ⟨#[]⟩⟩, nullV, nullV]) := hbv
  obtain ⟨bo, bc, rfl⟩ := row_slice hbv3
  obtain ⟨g, rfl, _, hg⟩ := own_at hbv3 (by omega)
  obtain ⟨c0, c1, c2⟩ := hg.val 0 (by simp)
  obtain ⟨c3, c4, c5⟩ := hg.val 1 (by simp)
  obtain ⟨c6, c7, c8⟩ := hg.val 2 (by simp)
  obtain ⟨_, _, e1, ho⟩ := (SL.no Hsl6.out t7) (by simp [vcl, f3])
  injection e1 with e1; injection e1 with e1 e2; subst e1 e2
  obtain ⟨d0, d1, d2⟩ := ho.val 0 (by simp)
  simp only [List.getElem_cons_zero, List.getElem_cons_succ, Nat.zero_add, Nat.zero_mul, Nat.one_mul] at c0 c1 c2 c3 c4 c5 c6 c7 c8 d0 d1 d2
  clear hbv hbv3 hg ho
  simp only [nullV] at c3 c4 c5 c6 c7 c8
  obtain ⟨da, hda, hna⟩ := ne_val ⟨1, 5, ⟨#[]⟩⟩ ⟨1, 5, ⟨#[]⟩⟩
  obtain rfl : da = false := by cases da with
    | false => rfl
    | true => exact absurd rfl (hda.1 rfl)
  obtain ⟨db, hdb, hnb⟩ := ne_val ⟨0, 0, ⟨#[]⟩⟩ ⟨0, 0, ⟨#[]⟩⟩
  obtain rfl : db = false := by cases db with
    | false => rfl
    | true => exact absurd rfl (hdb.1 rfl)
  have Hnb : Hid _ := hnb
  have Ht7 : Hid (Tch (fun _ => False) w6 w7) := t7
  clear hda hdb t7
  go_wp2_with fail
  go_quiet (fail)
  obtain ⟨wL, hwL⟩ : ∃ wL, wL = w7.drewN nq := ⟨_, rfl⟩
  rw [← hwL]
  have tL : Tch (fun _ => False) w7 wL := by rw [hwL]; exact (Tch.refl _ _).drewN _
  have HT4L : Hid (Tch (fun _ => False) w4 wL) := (HT46.out.trans' Ht7.out).trans' tL
  have HTL : Hid (Tch (fun i => i = B) w wL) := HT4.out.trans' (HT4L.out.mono (fun _ _ h => h.elim))
  have HcaL : Hid (CA wL (fun _ => False) B [tabR []] 1 P to tc) := (Hca3.out.tch Ht4.out (fun _ _ h => h.elim)).tch HT4L.out (fun _ _ h => h.elim)
  have hB4 : B < w4.heap.size := by have h2 := Ht3.out.size; have h3 := Ht4.out.size; have := HB2.out; omega
  have HaL : Hid (∀ W, Tch (fun i => i = B) wL W → SL W ao (vcl al)) := fun W tW => by
    have h2 : wL.ownsRow w4.heap.size 38 3 (.slice ao al.length ac) al.length (vcl al) := own_tch (own_tch (own_tch Hav.out Ht6.out (fun _ _ h => h)) Ht7.out (fun _ _ h => h)) tL (fun _ _ h => h)
    exact own_sl (own_tch h2 tW (fun g e e2 => by have := (h2.lt g e).1; omega))
  clear hwL tL c0 c1 c2 c3 c4 c5 c6 c7 c8 d0 d1 d2 hna hnb
  go_wp2_with fail
  go_loopw [13, 14] (fun mv iv wr => ∃ (m k : Nat) (rest : List Col) (P : List (Tbl × Value)) (to : Option Addr) (tc : Nat), mv = .int .i64 m ∧ iv = .int .i64 k ∧ k ≤ ns.length ∧ m ≤ 8 ∧ Hid (m = 3 + rest.length) ∧ Hid (WI rest) ∧ Hid (CA wr (fun _ => False) B [tabR rest] 1 P to tc) ∧ Hid (Tch (fun i => i = B) wL wr)) (fun _ iv _ => ns.length - (intOf iv).toNat)
  case atStart => exact ⟨3, 0, [], P, to, tc, rfl, rfl, by omega, by omega, rfl, WI.nil, HcaL, Tch.refl _ _⟩
  case round =>
    clear HcaL
    obtain ⟨m, k, rest, P1, to1, tc1, rfl, rfl, hk, hm8, Hm, HWI, HCA, HTr⟩ := hrel
    obtain ⟨wV, hwV⟩ : ∃ wV, wV = wr := ⟨_, rfl⟩
    subst hwV
    by_cases hkn : (k : Int) < ns.length
    · have hkl : k < ns.length := by omega
      have HTw : Hid (Tch (fun i => i = B) w wV) := HTL.out.trans' HTr.out
      have hnn := Hni.out ns[k] (List.getElem_mem hkl)
      obtain ⟨gn, on, rfl, han⟩ := (Hsl.out _ wV HTw.out hBlt).2 (isne (by omega))
      have cn : wV.cell? ⟨gn, on + k, none⟩ = some (.int .i64 ns[k]) := han k _ (by simp [IS, hkl])
      obtain ⟨nk, hnk⟩ : ∃ nk, nk = ns[k] := ⟨_, rfl⟩
      rw [← hnk] at cn hnn
      have q5 := name_any nk hnn.1 hnn.2 wV
      clear han hnk
      go_wp2_with fail
      refine q5.mono ?_
      rintro y w8 ⟨⟨j, hj, rfl⟩, t8⟩
      clear q5 cn
      have hP1 : P1.map Prod.fst = [tabR rest] := HCA.out.eq
      obtain ⟨v1, rfl⟩ : ∃ v1, P1 = [(tabR rest, v1)] := by
        rcases P1 with _ | ⟨⟨p, v1⟩, _ | ⟨q, l⟩⟩
        · simp at hP1
        · simp at hP1; exact ⟨v1, by rw [hP1]⟩
        · simp at hP1
      have hlen := HWI.out.len
      have hca8 := HCA.out.tch t8 (fun _ _ h => h.elim)
      have q6 := widen_any B [tabR rest] 1 [(tabR rest, v1)] to1 tc1 (fun _ => False) ⟨#[116]⟩ ⟨nmS j, 1, true⟩ 0 (by simp) w8 hca8 (by simp) (fun i hi => by
        have : i = 0 := by simpa using hi
        subst this
        show (cols3 ++ rest).length ≤ 8
        simp [cols3]; omega) (fun _ h => h.elim) (by simp [posP, tabR]) ⟨by show 0 ≤ (rest.length : Int) + 1; omega, by show (rest.length : Int) + 1 ≤ _; omega⟩
      have hsn := HWI.out.snoc (nmS j) (nmS_ok hj)
      obtain ⟨E, hE⟩ : ∃ E, E = widE (tabR rest) ⟨nmS j, 1, true⟩ := ⟨_, rfl⟩
      have e6 : widE ([(tabR rest, v1)] : List (Tbl × Value))[0].1 ⟨nmS j, 1, true⟩ = E := hE.symm
      have e7 : widT ([(tabR rest, v1)] : List (Tbl × Value))[0].1 ⟨nmS j, 1, true⟩ = tabR (rest ++ [⟨nmS j, 1, true⟩]) := widT_tabR rest _
      rw [e6, e7] at q6
      rw [← hE] at hsn
      have Hsn : Hid _ := hsn
      have HT8 : Hid (Tch (fun _ => False) wV w8) := t8
      have Hca8 : Hid (CA w8 (fun _ => False) B [tabR rest] 1 [(tabR rest, v1)] to1 tc1) := hca8
      clear hca8 t8 hP1 hE e6 e7 hsn
      go_wp2_with fail
      refine q6.mono ?_
      rintro y w9 hO
      clear q6
      by_cases hE0 : E = 0
      · have HWI2 : Hid (WI (rest ++ [⟨nmS j, 1, true⟩])) := Hsn.out.1 hE0
        obtain ⟨v2, P2, to2, tc2, rfl, hv2, hca2, t9⟩ := hO.1 hE0
        clear hO Hsn Hca8
        obtain ⟨rest2, hrest2⟩ : ∃ r2, r2 = rest ++ [⟨nmS j, 1, true⟩] := ⟨_, rfl⟩
        have hl2 : rest2.length = rest.length + 1 := by rw [hrest2]; simp
        have hP2 : ([tabR rest].set 0 (tabR rest2)) = [tabR rest2] := rfl
        rw [← hrest2] at HWI2 hv2 hca2 ⊢
        rw [hP2] at hca2
        obtain ⟨co, cc, rfl⟩ := row_slice hv2
        have hm2 := Hm.out
        have hcl2 : (tabR rest2).cols.length = m + 1 := by show (cols3 ++ rest2).length = _; simp [cols3]; omega
        have hcc : m + 1 ≤ cc := by rw [← hcl2]; exact own_cap hv2
        have hgo : tA (tabR rest2).id (tabR rest2).ver (tabR rest2).nm (Value.slice co (tabR rest2).cols.length cc) (tabR rest2).key = tA 1 ((m : Int) - 1) ⟨#[116]⟩ (.slice co (m + 1) cc) 0 := by
          have e1 : (tabR rest2).ver = (m : Int) - 1 := by show (rest2.length : Int) + 1 = _; omega
          rw [hcl2, e1]; rfl
        have hlen2 := HWI2.out.len
        have hm7 : m + 1 ≤ 8 := by omega
        rw [hgo]
        obtain ⟨B7, hB7⟩ : ∃ B7, B7 = w9.heap.size := ⟨_, rfl⟩
        obtain ⟨wA, hwA⟩ : ∃ wA, wA = w9.alloc (.cells #[.int .i64 1, .int .i64 ((m : Int) - 1), .string ⟨#[116]⟩, .slice co (m + 1) cc, .int .i64 0] 29) := ⟨_, rfl⟩
        have tA9 : Tch (fun _ => False) w9 wA := by rw [hwA]; exact Tch.alloc _ _ _
        have hb7 : wA.heap[B7]? = some (.cells #[.int .i64 1, .int .i64 ((m : Int) - 1), .string ⟨#[116]⟩, .slice co (m + 1) cc, .int .i64 0] 29 (0, 0)) := by rw [hwA, hB7]; exact alloc_new _ _
        have HTA : Hid (Tch (fun i => i = B) wL wA) := ((HTr.out.trans' (HT8.out.mono (fun _ _ h => h.elim))).trans' t9).trans' (tA9.mono (fun _ _ h => h.elim))
        have HcaA : Hid (CA wA (fun _ => False) B [tabR rest2] 1 P2 to2 tc2) := (hca2.fresh (fun _ _ h => Or.inl h)).tch tA9 (fun _ _ h => h.elim)
        have hslA : SL wA co (ccl (tabR rest2).cols) := (own_sl hv2).no tA9
        have q7 := fit_any (tabR rest2) co cc vs ro rc wA hslA (by omega) (by omega) (Hsl.out _ wA (HTL.out.trans' HTA.out) hBlt).1 hro
        rw [hgo] at q7
        obtain ⟨b0, b1, b2, b3, b4⟩ : wA.cell? ⟨B7, 0, none⟩ = some (.int .i64 1) ∧ wA.cell? ⟨B7, 1, none⟩ = some (.int .i64 ((m : Int) - 1)) ∧ wA.cell? ⟨B7, 2, none⟩ = some (.string ⟨#[116]⟩) ∧ wA.cell? ⟨B7, 3, none⟩ = some (.slice co (m + 1) cc) ∧ wA.cell? ⟨B7, 4, none⟩ = some (.int .i64 0) := ⟨by rw [blk_cell hb7]; rfl, by rw [blk_cell hb7]; rfl, by rw [blk_cell hb7]; rfl, by rw [blk_cell hb7]; rfl, by rw [blk_cell hb7]; rfl⟩
        rw [hwA, hB7] at b0 b1 b2 b3 b4
        have HwA : Hid _ := hwA
        have Hb7 : Hid _ := hb7
        have HB7 : Hid (B7 = w9.heap.size) := hB7
        have Hl2 : Hid (rest2.length = rest.length + 1) := hl2
        clear hwA hb7 hB7 hgo hcl2 hv2 hca2 t9 tA9 hslA hP2 HT8 hlen2 hlen hrest2 hm2 hl2
        go_wp2_with fail
        have hwA := HwA.out
        rw [← hwA]
        clear hwA b0 b1 b2 b3 b4
        refine q7.mono ?_
        rintro y wB ⟨⟨xv, rfl, hxv⟩, tB⟩
        clear q7
        obtain ⟨f2, hf2⟩ : ∃ f2, f2 = (fitR (tabR rest2) vs).2 := ⟨_, rfl⟩
        obtain ⟨xl, hxl⟩ : ∃ xl, xl = (fitR (tabR rest2) vs).1 := ⟨_, rfl⟩
        rw [← hxl] at hxv
        rw [← hf2]
        obtain ⟨xo, xc, rfl⟩ := row_slice hxv
        have hfm := fit_more HWI2.out vs
        rw [← hf2, ← hxl, ← Hf.out.1, ← Hf.out.2] at hfm
        have hbB : wB.heap[B7]? = some (.cells #[.int .i64 1, .int .i64 ((m : Int) - 1), .string ⟨#[116]⟩, .slice co (m + 1) cc, .int .i64 0] 29 (0, 0)) := by rw [tB.block B7 (blk_lt Hb7.out) (fun h => h)]; exact Hb7.out
        obtain ⟨b1, b3⟩ : wB.cell? ⟨B7, 1, none⟩ = some (.int .i64 ((m : Int) - 1)) ∧ wB.cell? ⟨B7, 3, none⟩ = some (.slice co (m + 1) cc) := ⟨by rw [blk_cell hbB]; rfl, by rw [blk_cell hbB]; rfl⟩
        rw [HB7.out] at b1 b3
        have Hxs : Hid (∀ W, Tch (fun _ => False) wB W → SL W xo (vcl xl)) := fun W tW => (own_sl hxv).no tW
        have HTB : Hid (Tch (fun i => i = B) wL wB) := HTA.out.trans' (tB.mono (fun _ _ h => h.elim))
        have HcaB : Hid (CA wB (fun _ => False) B [tabR rest2] 1 P2 to2 tc2) := HcaA.out.tch tB (fun _ _ h => h.elim)
        clear hf2 hxl hxv hbB tB
        by_cases hf0 : f = 0
        · subst hf0
          obtain ⟨g1, g2, g3, g4⟩ := hfm.2 rfl
          obtain rfl := g3
          have hxll : xl.length = m + 1 := by rw [g4, List.length_append, List.length_replicate]; have := Hm.out; have := Hl2.out; omega
          rw [hxll]
          have Hg2 : Hid (al.length = 3) := g2
          clear hfm g2
          go_wp2_with fail
          have Hg4 : Hid (xl = al ++ List.replicate rest2.length nullV) := g4
          clear g4 b1 b3
          go_loopw [19] (fun kv wr => ∃ k2 : Nat, kv = .int .i64 k2 ∧ k2 ≤ m + 1 ∧ Hid (Tch (fun _ => False) wB wr)) (fun kv _ => m + 1 - (intOf kv).toNat)
          case atStart => exact ⟨0, rfl, by omega, Tch.refl _ _⟩
          case round =>
            obtain ⟨k2, rfl, hk2, HTW⟩ := hrel
            obtain ⟨wW, hwW⟩ : ∃ wW, wW = wr := ⟨_, rfl⟩
            subst hwW
            by_cases hk2m : (k2 : Int) < (m : Int) + 1
            · obtain ⟨gx, ox, rfl, hax⟩ := (Hxs.out wW HTW.out).val (k := k2) (by omega)
              obtain ⟨c0, c1, c2⟩ := hax.val k2 (by omega)
              by_cases hk3 : (k2 : Int) < 3
              · have hk3n : ¬ (3 : Int) ≤ k2 := by omega
                obtain ⟨ga, oa, rfl, haa⟩ := (HaL.out wW (HTB.out.trans' (HTW.out.mono (fun _ _ h => h.elim)))).val (k := k2) (by have := Hg2.out; omega)
                have hk4 : k2 < al.length := by have := Hg2.out; omega
                have hk4a : (k2 : Int) < al.length := by omega
                obtain ⟨d0, d1, d2⟩ := haa.val k2 hk4
                have hxa : xl[k2] = al[k2] := by
                  have hx := Hg4.out
                  subst hx
                  rw [List.getElem_append_left hk4]
                rw [hxa] at c0 c1 c2
                obtain ⟨dd, hdd, hnd⟩ := ne_val al[k2] al[k2]
                obtain rfl : dd = false := by cases dd with
                  | false => rfl
                  | true => exact absurd rfl (hdd.1 rfl)
                clear hdd hax haa hxa
                go_wp2_with fail
                have hk3a : ¬ (3 : Int) ≤ k2 := by omega
                have hk3b : ¬ 3 ≤ k2 := by omega
                go_quiet (fail)
                have HTQ : Hid (Tch (fun _ => False) wB (wW.drewN nq)) := HTW.out.drewN _
                clear c0 c1 c2 d0 d1 d2 hnd
                go_wp2_with fail
                go_roundw
                case rel => exact ⟨k2 + 1, by go_num, by omega, HTQ⟩
                case measure => simp [intOf]; omega
              · have hk3n : (3 : Int) ≤ k2 := by omega
                have hk4 : k2 - al.length < (List.replicate rest2.length nullV).length := by rw [List.length_replicate]; have := Hg2.out; have := Hm.out; have := Hl2.out; omega
                have hxa : xl[k2] = ⟨0, 0, ⟨#[]⟩⟩ := by
                  have hx := Hg4.out
                  subst hx
                  rw [List.getElem_append_right (by have := Hg2.out; omega), List.getElem_replicate]
                  rfl
                rw [hxa] at c0 c1 c2
                have hnd := Hnb.out
                clear hax hxa
                go_wp2_with fail
                have hk3a : (3 : Int) ≤ k2 := by omega
                have hk3b : 3 ≤ k2 := by omega
                have hk3c : ¬ (k2 : Int) < 3 := by omega
                have hk3d : ¬ k2 < 3 := by omega
                go_quiet (fail)
                have HTQ : Hid (Tch (fun _ => False) wB (wW.drewN nq)) := HTW.out.drewN _
                clear c0 c1 c2 hnd
                go_wp2_with fail
                go_roundw
                case rel => exact ⟨k2 + 1, by go_num, by omega, HTQ⟩
                case measure => simp [intOf]; omega
            · obtain rfl : k2 = m + 1 := by omega
              go_wp2_with fail
              go_roundw
              case rel => exact ⟨m + 1, k + 1, rest2, P2, to2, tc2, by go_num, by go_num, hkl, hm7, by have h3 := Hm.out; have h4 := Hl2.out; show m + 1 = _; omega, HWI2, HcaB.out.tch HTW.out (fun _ _ h => h.elim), HTB.out.trans' (HTW.out.mono (fun _ _ h => h.elim))⟩
              case measure => simp [intOf]; omega
        · have hf0b : (f == 0) = false := by simp [hf0]
          by_cases hf2 : f2 = 0
          · subst hf2
            have hl3 : ¬ (vs.length : Int) ≤ 3 := fun h => hf0 ((hfm.1 (by omega)).1 rfl)
            clear hfm
            go_wp2_with fail
            exact ⟨⟨m + 1, k + 1, rest2, P2, to2, tc2, by simp, by simp, hkl, hm7, by have h3 := Hm.out; have h4 := Hl2.out; show m + 1 = _; omega, HWI2, HcaB, HTB⟩, by simp [intOf]; omega⟩
          · have hf2b : (f2 == 0) = false := by simp [hf2]
            clear hfm
            go_wp2_with fail
            exact ⟨⟨m + 1, k + 1, rest2, P2, to2, tc2, by simp, by simp, hkl, hm7, by have h3 := Hm.out; have h4 := Hl2.out; show m + 1 = _; omega, HWI2, HcaB, HTB⟩, by simp [intOf]; omega⟩
      · have hE2 : E = 54 ∨ E = 55 := by rcases Hsn.out.2 with h | h; exact absurd h hE0; exact h
        have hO2 := hO.2 hE0
        clear hO
        obtain ⟨rfl, t9⟩ := hO2
        have HT9 : Hid (Tch (fun i => i = B) wL w9) := (HTr.out.trans' (HT8.out.mono (fun _ _ h => h.elim))).trans' (t9.mono (fun _ _ h => h.elim))
        have Hca9 : Hid (CA w9 (fun _ => False) B [tabR rest] 1 [(tabR rest, v1)] to1 tc1) := Hca8.out.tch t9 (fun _ _ h => h.elim)
        clear t9 Hca8 hE0
        rcases hE2 with rfl | rfl
        · go_wp2_with fail
          exact ⟨⟨m, k + 1, rest, _, _, _, rfl, by simp, hkl, hm8, Hm, HWI, (Hca9.out.tch (Tch.alloc (fun _ => False) _ _) (fun _ _ h => h.elim)), HT9.out.trans' (Tch.alloc _ _ _)⟩, by simp [intOf]; omega⟩
        · go_wp2_with fail
          exact ⟨⟨m, k + 1, rest, _, _, _, rfl, by simp, hkl, hm8, Hm, HWI, (Hca9.out.tch (Tch.alloc (fun _ => False) _ _) (fun _ _ h => h.elim)), HT9.out.trans' (Tch.alloc _ _ _)⟩, by simp [intOf]; omega⟩
    · obtain rfl : k = ns.length := by omega
      have HTw : Hid (Tch (fun i => i = B) w wV) := HTL.out.trans' HTr.out
      go_wp2_with fail
      go_ret
      refine ⟨?_, ?_⟩
      · show Ending.returned (Value.bool (decide ((m : Int) ≤ 8))) = _
        rw [decide_eq_true (by omega)]
      · exact HTw.out.mono (fun i hi h => by have h2 := HBw.out; have h3 : i = B := h; omega)
end Go.Proofs.Ytblhmjndegfofaa
