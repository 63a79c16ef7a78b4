import Derived.Test.YtolobljlkdacjaaXRe9
/- The document's manager: Forget. -/
namespace Go.Proofs.Ytolobljlkdacjaa
open Go.RowKit Go Go.Sort

/-- Is the transaction over, so far as the first k numbers tell? -/
def overK (m : Mg) (L : List Nm) (t : Tx) (below : Int) (k : Nat) : Bool := decide (3 ≤ t.st) && (L.take k).all (fun a => match fnd m.tx (a.n : Int) with
  | some (u, _) => !(decide (u.x = t.x) && decide (below ≤ (a.n : Int)))
  | none => true)
theorem overK_zero (m : Mg) (L : List Nm) (t : Tx) (below : Int) : overK m L t below 0 = decide (3 ≤ t.st) := by simp [overK]
theorem overK_succ {m : Mg} {L : List Nm} {t : Tx} {below : Int} {k : Nat} {a : Nm} (ha : L[k]? = some a) {u : Tx} {i : Int} (hu : fnd m.tx (a.n : Int) = some (u, i)) : overK m L t below (k + 1) = (overK m L t below k && !(decide (u.x = t.x) && decide (below ≤ (a.n : Int)))) := by
  unfold overK
  rw [List.take_add_one, ha]
  simp only [Option.toList_some, List.all_append, List.all_cons, List.all_nil, Bool.and_true, hu]
  rw [Bool.and_assoc]
theorem overK_all {m : Mg} {L : List Nm} (h : Rel m L) {t : Tx} (ht : t ∈ m.tx) (below : Int) : overK m L t below L.length = goneT t below := by
  have h1 : overK m L t below L.length = true ↔ goneT t below = true := by
    rw [goneT_iff h.wf ht]
    unfold overK
    rw [List.take_length]
    simp only [Bool.and_eq_true, decide_eq_true_eq, List.all_eq_true]
    refine and_congr_right (fun _ => ?_)
    constructor
    · intro hall
      have key : ∀ n : Int, (∃ i, fnd m.tx n = some (t, i)) → n < below := fun n ⟨i, hf⟩ => by
        obtain ⟨j, a, f1, f2, f3, -⟩ := h.yes _ _ _ hf
        have := hall a (List.mem_of_getElem? f2)
        rw [f3, hf] at this
        simp at this
        omega
      exact ⟨key _ ⟨_, h.wf.fnd_tx ht⟩, fun p hp => by
        obtain ⟨k, hk⟩ := List.getElem?_of_mem hp
        exact key _ ⟨_, h.wf.fnd_pt ht hk⟩⟩
    · rintro ⟨hx, hps⟩ a ha
      obtain ⟨j, hj⟩ := List.getElem?_of_mem ha
      obtain ⟨-, u, i, hu, -⟩ := h.at hj
      rw [hu]
      simp only [Bool.not_eq_true', Bool.and_eq_false_iff, decide_eq_false_iff_not]
      by_cases hx2 : u.x = t.x
      · right
        have e := h.wf.uniq u (fnd_mem hu).1 t ht hx2
        subst e
        rcases (fnd_mem hu).2 with ⟨_, e⟩ | ⟨k, p, _, _, hp, e, _⟩
        · omega
        · have := hps p (List.mem_of_getElem? hp); omega
      · left; exact hx2
  cases h2 : overK m L t below L.length with
  | true => exact (h1.1 h2).symm
  | false =>
    cases h3 : goneT t below with
    | false => rfl
    | true => rw [h1.2 h3] at h2; cases h2
theorem filter_take {P : Nm → Bool} {L : List Nm} {k : Nat} {a : Nm} (ha : L[k]? = some a) : (L.take (k + 1)).filter P = (L.take k).filter P ++ (if P a then [a] else []) := by
  rw [List.take_add_one, ha]
  simp only [Option.toList_some, List.filter_append]
  congr 1
  cases h : P a <;> simp [h]
set_option maxHeartbeats 2000000 in
set_option maxRecDepth 100000 in
theorem rforget_f (b : Nat) (m : Mg) (w : World) (F : Nat → Prop) (h : RF w b m F) (below : Int) :
    Calls Try.prog 29 #[.pointer (some ⟨b, 0, none⟩), .int .i64 below] w fun x w' => x = .returned (.int .i64 (m.many below)) ∧ RF w' b (m.forget below) F ∧ Kept F w w' := by
  obtain ⟨L, ao, c, hR, hO, hN, h3, h4, h5⟩ := h.parts
  obtain ⟨i0, hi, hz0, hz1, hz2⟩ := info_parts info_nm
  have hL := hR.len
  obtain ⟨n, hn⟩ : ∃ n, n = L.length := ⟨_, rfl⟩
  rw [← hn] at hL
  have Hn : Hid (n = L.length) := hn
  have HNR : Hid _ := hN
  have HR : Hid _ := hR
  have HO : Hid _ := hO
  have HF : Hid (¬ F b ∧ (∀ g, (Value.slice ao L.length c).ownBlock = some g → ¬ F g) ∧ ∀ i, F i → i < w.heap.size) := ⟨h3, h4, h5⟩
  obtain ⟨N, hNN⟩ : ∃ N, N = w.heap.size := ⟨_, rfl⟩
  have HN : Hid (N = w.heap.size) := hNN
  obtain ⟨P, hP⟩ : ∃ P : Nm → Bool, P = fun a => !goneN m below a.n := ⟨_, rfl⟩
  have HP : Hid _ := hP
  obtain ⟨mny, hmny⟩ : ∃ mny, mny = m.many below := ⟨_, rfl⟩
  rw [← hmny]
  have HMny : Hid (L.length = (L.filter P).length + mny) := by show _ = _; rw [hP, hmny]; exact hR.many below
  clear hn h hNN hR hO hN h3 h4 h5 hP hmny
  go_enter Try.func29, Try.ntmps29
  go_wp2_with fail
  go_loopw [5, 6] (fun l i wr => ∃ k ln : Nat, i = .int .i64 k ∧ k ≤ n ∧ Hid (ln = ((L.take k).filter P).length) ∧ Hid (wr.ownsRow N 67 6 l ln (ncl ((L.take k).filter P))) ∧ Hid (Tch (fun _ => False) w wr)) (fun _ i _ => n - (intOf i).toNat)
  case atStart => exact ⟨0, 0, rfl, by omega, rfl, ⟨rfl, Or.inl ⟨rfl, rfl⟩⟩, Tch.refl _ _⟩
  case round =>
    obtain ⟨k, ln, rfl, hk, hln, HOw, HT⟩ := hrel
    obtain ⟨lo, lc, hlv⟩ := row_slice HOw.out
    subst hlv
    have b0 := (HNR.out.no HT.out).c0
    rw [← Hn.out] at b0
    by_cases hlt : (k : Int) < n
    · have hkl : k < L.length := by have := Hn.out; omega
      obtain ⟨a, hk'⟩ : ∃ a, L[k]? = some a := ⟨_, List.getElem?_eq_getElem hkl⟩
      obtain ⟨hp, t, i, ht, -⟩ := HR.out.at hk'
      have htm := (fnd_mem ht).1
      have hft := HR.out.wf.fnd_tx htm
      obtain ⟨jt, at', g1, g2, g3, -⟩ := HR.out.yes _ _ _ hft
      obtain ⟨-, -, -, est, -⟩ := HR.out.root hft g1 g2
      have q := rtop_any b ao c m L wr (HNR.out.no HT.out) HR.out _ t i ht k hp jt g1
      obtain ⟨g, hao, -, -, c2, -⟩ := (HNR.out.no HT.out).el jt at' g2
      rw [hao] at b0
      rw [est] at c2
      have hst := HR.out.wf.st t htm
      have hjt : (jt : Int) < n := by have := (List.getElem?_eq_some_iff.1 g2).1; have := Hn.out; omega
      have HPa : Hid (P a = !overK m L t below n) := by
        show _ = _
        rw [HP.out, Hn.out, overK_all HR.out htm]
        show (!goneN m below a.n) = _
        unfold goneN
        rw [ht]
      have HFl : Hid ((L.take (k + 1)).filter P = (L.take k).filter P ++ (if P a then [a] else [])) := filter_take hk'
      have Hll : Hid (ln ≤ 2147483648) := by
        have h1 := hln.out
        have h2 : ((L.take k).filter P).length ≤ (L.take k).length := List.length_filter_le _ _
        have h3 : (L.take k).length ≤ k := by simp; omega
        show _ ≤ _
        omega
      -- the inner loop's calls
      have Hin : Hid (∀ (kk : Nat), kk < n → ∃ (jj an : Nat) (u : Tx), (Calls Try.prog 35 #[.pointer (some ⟨b, 0, none⟩), .int .i64 kk] wr fun y w' => y = .returned (.int .i64 jj) ∧ w' = wr) ∧ wr.cell? ⟨g, kk * 6, none⟩ = some (.int .i64 an) ∧ (u.x = t.x ↔ jj = jt) ∧ overK m L t below (kk + 1) = (overK m L t below kk && !(decide (u.x = t.x) && decide (below ≤ (an : Int))))) := fun kk hkk => by
        obtain ⟨a2, ha2⟩ : ∃ a, L[kk]? = some a := ⟨_, List.getElem?_eq_getElem (by have := Hn.out; omega)⟩
        obtain ⟨hp2, u, i2, hu, -⟩ := HR.out.at ha2
        have hum := (fnd_mem hu).1
        obtain ⟨ju, au, l1, l2, l3, -⟩ := HR.out.yes _ _ _ (HR.out.wf.fnd_tx hum)
        obtain ⟨g', e, d0, -⟩ := (HNR.out.no HT.out).el kk a2 ha2
        rw [hao] at e
        obtain rfl : g = g' := by injection e with e; injection e
        refine ⟨ju, a2.n, u, rtop_any b ao c m L wr (HNR.out.no HT.out) HR.out _ u i2 hu kk hp2 ju l1, d0, ?_, overK_succ ha2 hu⟩
        constructor
        · intro hx
          rw [hx, g1] at l1
          injection l1 with l1
          exact l1.symm
        · intro hx
          rw [hx, g2] at l2
          injection l2 with l2
          subst l2
          omega
      have Hcel : Hid (wr.cell? ⟨g, k * 6, none⟩ = some (.int .i64 a.n) ∧ wr.cell? ⟨g, k * 6 + 1, none⟩ = some (.int .i64 a.par) ∧ wr.cell? ⟨g, k * 6 + 2, none⟩ = some (.int .i64 a.st) ∧ wr.cell? ⟨g, k * 6 + 3, none⟩ = some (.int .i64 a.had) ∧ wr.cell? ⟨g, k * 6 + 4, none⟩ = some (.bool a.rl) ∧ wr.cell? ⟨g, k * 6 + 5, none⟩ = some (.bool a.bk)) := by
        obtain ⟨g', e, hh⟩ := (HNR.out.no HT.out).el k a hk'
        rw [hao] at e
        obtain rfl : g = g' := by injection e with e; injection e
        exact hh
      obtain ⟨st, hst'⟩ : ∃ st, st = t.st := ⟨_, rfl⟩
      rw [← hst'] at c2 hst
      have HOv0 : Hid (overK m L t below 0 = decide (3 ≤ st)) := by show _ = _; rw [hst']; exact overK_zero m L t below
      obtain ⟨W0, hW0⟩ : ∃ W0, W0 = wr := ⟨_, rfl⟩
      rw [← hW0] at b0 c2 q Hin Hcel HOw HT
      clear hk' hkl hp ht htm hft g1 g2 g3 est hst' hao
      subst hW0
      have hs4 : st = 1 ∨ st = 2 ∨ st = 3 ∨ st = 4 := by omega
      clear hst
      rcases hs4 with rfl | rfl | rfl | rfl
      · have HOv : Hid (overK m L t below 0 = false) := by show _ = _; rw [HOv0.out]; rfl
        clear HOv0
        go_wp2_with fail
        refine q.mono ?_
        rintro y wy ⟨rfl, hwy⟩
        obtain rfl := hwy.symm
        clear q
        go_wp2_with fail
        go_loopw [8, 9] (fun o x wr => ∃ kk : Nat, x = .int .i64 kk ∧ kk ≤ n ∧ o = .bool (overK m L t below kk) ∧ wr = W0) (fun _ x _ => n - (intOf x).toNat)
        case atStart => exact ⟨0, rfl, by omega, by rw [HOv.out], rfl⟩
        case round =>
          obtain ⟨kk, rfl, hkk, ho, hwr⟩ := hrel
          subst hwr
          subst ho
          by_cases hlt2 : (kk : Int) < n
          · obtain ⟨jj, an, u, q2, d0, hiff, hstep⟩ := Hin.out kk (by omega)
            by_cases hjj : jj = jt
            · subst hjj
              by_cases hbe : below ≤ (an : Int)
              · have HV : Hid (overK m L t below (kk + 1) = false) := by show _ = _; rw [hstep, decide_eq_true (hiff.2 rfl), decide_eq_true hbe]; simp
                have hbe' : (an : Int) ≥ below := hbe
                clear hiff hstep
                go_wp2_with fail
                refine q2.mono ?_
                rintro y wy ⟨rfl, hwy⟩
                obtain rfl := hwy.symm
                clear q2
                go_wp2_with fail
                go_roundw
                case rel => exact ⟨kk + 1, by go_num, by omega, by rw [HV.out], trivial⟩
                case measure => simp [intOf]; omega
              · have HV : Hid (overK m L t below (kk + 1) = overK m L t below kk) := by show _ = _; rw [hstep, decide_eq_false hbe]; simp
                have hbe' : ¬ (an : Int) ≥ below := hbe
                clear hiff hstep
                go_wp2_with fail
                refine q2.mono ?_
                rintro y wy ⟨rfl, hwy⟩
                obtain rfl := hwy.symm
                clear q2
                go_wp2_with fail
                go_roundw
                case rel => exact ⟨kk + 1, by go_num, by omega, by rw [HV.out], trivial⟩
                case measure => simp [intOf]; omega
            · have HV : Hid (overK m L t below (kk + 1) = overK m L t below kk) := by show _ = _; rw [hstep, decide_eq_false (fun e => hjj (hiff.1 e))]; simp
              have hj2 : ((jj : Int) == (jt : Int)) = false := beq_eq_false_iff_ne.2 (by omega)
              clear hiff hstep hjj
              go_wp2_with fail
              refine q2.mono ?_
              rintro y wy ⟨rfl, hwy⟩
              obtain rfl := hwy.symm
              clear q2
              go_wp2_with fail
              go_roundw
              case rel => exact ⟨kk + 1, by go_num, by omega, by rw [HV.out], trivial⟩
              case measure => simp [intOf]; omega
          · have hkn2 : kk = n := by omega
            subst hkn2
            cases hov2 : overK m L t below kk with
            | true =>
              have HPf : Hid (P a = false) := by show _ = _; rw [HPa.out, hov2]; rfl
              have HL' : Hid ((L.take (k + 1)).filter P = (L.take k).filter P) := by show _ = _; rw [HFl.out, HPf.out]; simp
              clear hov2
              go_wp2_with fail
              go_roundw
              case rel => exact ⟨k + 1, ln, by go_num, by omega, by rw [HL'.out]; exact hln, by rw [HL'.out]; exact HOw, HT⟩
              case measure => simp [intOf]; omega
            | false =>
              have HPf : Hid (P a = true) := by show _ = _; rw [HPa.out, hov2]; rfl
              have HL' : Hid ((L.take (k + 1)).filter P = (L.take k).filter P ++ [a]) := by show _ = _; rw [HFl.out, HPf.out]; simp
              obtain ⟨e0, e1, e2, e3, e4, e5⟩ := Hcel.out
              obtain ⟨w2, hw2⟩ : ∃ w2, w2 = wr.alloc (.cells #[.int .i64 a.n, .int .i64 a.par, .int .i64 a.st, .int .i64 a.had, .bool a.rl, .bool a.bk] 67) := ⟨_, rfl⟩
              have HO2 : Hid (w2.ownsRow N 67 6 (.slice lo ln lc) ln (ncl ((L.take k).filter P))) := by show World.ownsRow _ _ _ _ _ _ _; rw [hw2]; exact own_tch HOw.out (Tch.alloc (fun _ => False) _ _) (fun _ _ h => h)
              have HT2 : Hid (Tch (fun _ => False) w w2) := by show Tch _ _ _; rw [hw2]; exact HT.out.allocR _
              have Hcl : Hid (∀ j u, ([.int .i64 a.n, .int .i64 a.par, .int .i64 a.st, .int .i64 a.had, .bool a.rl, .bool a.bk] : List Value)[j]? = some u → w2.cell? ((⟨wr.heap.size, 0, none⟩ : Addr).add j) = some u) := fun j u hu => by
                have hb2 : w2.heap[wr.heap.size]? = some (.cells #[.int .i64 a.n, .int .i64 a.par, .int .i64 a.st, .int .i64 a.had, .bool a.rl, .bool a.bk] 67 (0, 0)) := by rw [hw2]; exact alloc_new _ _
                rw [add_plain, blk_cell hb2, ← Array.getElem?_toList]
                simpa using hu
              have Hw2 : Hid _ := hw2
              have Hsz : Hid (N ≤ w2.heap.size) := by show _ ≤ _; rw [HN.out]; exact HT2.out.size
              have hkI : (k : Int) < kk := hlt
              clear hw2 hov2
              go_wp2_with (at_builtin; have hw2 := Hw2.out; rw [← hw2]; clear hw2; refine wpList_append_keeps _ rfl _ _ 48 rfl N 67 i0 (.agg #[.int .i64 0, .int .i64 0, .int .i64 0, .int .i64 0, .bool false, .bool false]) 6 40 Try.underlying48 hi hz0 hz1 hz2 rfl (by decide) (.slice lo ln lc) ln (ncl ((L.take k).filter P)) rfl HO2.out ⟨wr.heap.size, 0, none⟩ 1 1 [.int .i64 a.n, .int .i64 a.par, .int .i64 a.st, .int .i64 a.had, .bool a.rl, .bool a.bk] rfl rfl Hcl.out (by simp [Value.oneCell']) (by have := Hll.out; unfold maxLen; omega) (by have := Hll.out; omega) Hsz.out ?_; intro v3 w3 hown3 hgr3 hat3 _; have HO3 : Hid (w3.ownsRow N 67 6 v3 (ln + 1) (ncl ((L.take k).filter P ++ [a]))) := (by have h1 := hown3; rw [← ncl_snoc] at h1; exact h1); have HT3 : Hid (Tch (fun _ => False) w w3) := (HT2.out.trans (grown_at (Tch.refl (fun _ => False) w2) hgr3) (fun i hi e => by have := row_ge HO2.out e; have := HN.out; omega)); obtain ⟨o3, c3, hv3⟩ := row_slice HO3.out; subst hv3; clear hown3 hgr3 hat3)
              go_roundw
              case rel => exact ⟨k + 1, ln + 1, by go_num, by omega, by show _ = _; rw [HL'.out, hln.out]; simp, by rw [HL'.out]; exact HO3, HT3⟩
              case measure => simp [intOf]; omega
      · have HOv : Hid (overK m L t below 0 = false) := by show _ = _; rw [HOv0.out]; rfl
        clear HOv0
        go_wp2_with fail
        refine q.mono ?_
        rintro y wy ⟨rfl, hwy⟩
        obtain rfl := hwy.symm
        clear q
        go_wp2_with fail
        go_loopw [8, 9] (fun o x wr => ∃ kk : Nat, x = .int .i64 kk ∧ kk ≤ n ∧ o = .bool (overK m L t below kk) ∧ wr = W0) (fun _ x _ => n - (intOf x).toNat)
        case atStart => exact ⟨0, rfl, by omega, by rw [HOv.out], rfl⟩
        case round =>
          obtain ⟨kk, rfl, hkk, ho, hwr⟩ := hrel
          subst hwr
          subst ho
          by_cases hlt2 : (kk : Int) < n
          · obtain ⟨jj, an, u, q2, d0, hiff, hstep⟩ := Hin.out kk (by omega)
            by_cases hjj : jj = jt
            · subst hjj
              by_cases hbe : below ≤ (an : Int)
              · have HV : Hid (overK m L t below (kk + 1) = false) := by show _ = _; rw [hstep, decide_eq_true (hiff.2 rfl), decide_eq_true hbe]; simp
                have hbe' : (an : Int) ≥ below := hbe
                clear hiff hstep
                go_wp2_with fail
                refine q2.mono ?_
                rintro y wy ⟨rfl, hwy⟩
                obtain rfl := hwy.symm
                clear q2
                go_wp2_with fail
                go_roundw
                case rel => exact ⟨kk + 1, by go_num, by omega, by rw [HV.out], trivial⟩
                case measure => simp [intOf]; omega
              · have HV : Hid (overK m L t below (kk + 1) = overK m L t below kk) := by show _ = _; rw [hstep, decide_eq_false hbe]; simp
                have hbe' : ¬ (an : Int) ≥ below := hbe
                clear hiff hstep
                go_wp2_with fail
                refine q2.mono ?_
                rintro y wy ⟨rfl, hwy⟩
                obtain rfl := hwy.symm
                clear q2
                go_wp2_with fail
                go_roundw
                case rel => exact ⟨kk + 1, by go_num, by omega, by rw [HV.out], trivial⟩
                case measure => simp [intOf]; omega
            · have HV : Hid (overK m L t below (kk + 1) = overK m L t below kk) := by show _ = _; rw [hstep, decide_eq_false (fun e => hjj (hiff.1 e))]; simp
              have hj2 : ((jj : Int) == (jt : Int)) = false := beq_eq_false_iff_ne.2 (by omega)
              clear hiff hstep hjj
              go_wp2_with fail
              refine q2.mono ?_
              rintro y wy ⟨rfl, hwy⟩
              obtain rfl := hwy.symm
              clear q2
              go_wp2_with fail
              go_roundw
              case rel => exact ⟨kk + 1, by go_num, by omega, by rw [HV.out], trivial⟩
              case measure => simp [intOf]; omega
          · have hkn2 : kk = n := by omega
            subst hkn2
            cases hov2 : overK m L t below kk with
            | true =>
              have HPf : Hid (P a = false) := by show _ = _; rw [HPa.out, hov2]; rfl
              have HL' : Hid ((L.take (k + 1)).filter P = (L.take k).filter P) := by show _ = _; rw [HFl.out, HPf.out]; simp
              clear hov2
              go_wp2_with fail
              go_roundw
              case rel => exact ⟨k + 1, ln, by go_num, by omega, by rw [HL'.out]; exact hln, by rw [HL'.out]; exact HOw, HT⟩
              case measure => simp [intOf]; omega
            | false =>
              have HPf : Hid (P a = true) := by show _ = _; rw [HPa.out, hov2]; rfl
              have HL' : Hid ((L.take (k + 1)).filter P = (L.take k).filter P ++ [a]) := by show _ = _; rw [HFl.out, HPf.out]; simp
              obtain ⟨e0, e1, e2, e3, e4, e5⟩ := Hcel.out
              obtain ⟨w2, hw2⟩ : ∃ w2, w2 = wr.alloc (.cells #[.int .i64 a.n, .int .i64 a.par, .int .i64 a.st, .int .i64 a.had, .bool a.rl, .bool a.bk] 67) := ⟨_, rfl⟩
              have HO2 : Hid (w2.ownsRow N 67 6 (.slice lo ln lc) ln (ncl ((L.take k).filter P))) := by show World.ownsRow _ _ _ _ _ _ _; rw [hw2]; exact own_tch HOw.out (Tch.alloc (fun _ => False) _ _) (fun _ _ h => h)
              have HT2 : Hid (Tch (fun _ => False) w w2) := by show Tch _ _ _; rw [hw2]; exact HT.out.allocR _
              have Hcl : Hid (∀ j u, ([.int .i64 a.n, .int .i64 a.par, .int .i64 a.st, .int .i64 a.had, .bool a.rl, .bool a.bk] : List Value)[j]? = some u → w2.cell? ((⟨wr.heap.size, 0, none⟩ : Addr).add j) = some u) := fun j u hu => by
                have hb2 : w2.heap[wr.heap.size]? = some (.cells #[.int .i64 a.n, .int .i64 a.par, .int .i64 a.st, .int .i64 a.had, .bool a.rl, .bool a.bk] 67 (0, 0)) := by rw [hw2]; exact alloc_new _ _
                rw [add_plain, blk_cell hb2, ← Array.getElem?_toList]
                simpa using hu
              have Hw2 : Hid _ := hw2
              have Hsz : Hid (N ≤ w2.heap.size) := by show _ ≤ _; rw [HN.out]; exact HT2.out.size
              have hkI : (k : Int) < kk := hlt
              clear hw2 hov2
              go_wp2_with (at_builtin; have hw2 := Hw2.out; rw [← hw2]; clear hw2; refine wpList_append_keeps _ rfl _ _ 48 rfl N 67 i0 (.agg #[.int .i64 0, .int .i64 0, .int .i64 0, .int .i64 0, .bool false, .bool false]) 6 40 Try.underlying48 hi hz0 hz1 hz2 rfl (by decide) (.slice lo ln lc) ln (ncl ((L.take k).filter P)) rfl HO2.out ⟨wr.heap.size, 0, none⟩ 1 1 [.int .i64 a.n, .int .i64 a.par, .int .i64 a.st, .int .i64 a.had, .bool a.rl, .bool a.bk] rfl rfl Hcl.out (by simp [Value.oneCell']) (by have := Hll.out; unfold maxLen; omega) (by have := Hll.out; omega) Hsz.out ?_; intro v3 w3 hown3 hgr3 hat3 _; have HO3 : Hid (w3.ownsRow N 67 6 v3 (ln + 1) (ncl ((L.take k).filter P ++ [a]))) := (by have h1 := hown3; rw [← ncl_snoc] at h1; exact h1); have HT3 : Hid (Tch (fun _ => False) w w3) := (HT2.out.trans (grown_at (Tch.refl (fun _ => False) w2) hgr3) (fun i hi e => by have := row_ge HO2.out e; have := HN.out; omega)); obtain ⟨o3, c3, hv3⟩ := row_slice HO3.out; subst hv3; clear hown3 hgr3 hat3)
              go_roundw
              case rel => exact ⟨k + 1, ln + 1, by go_num, by omega, by show _ = _; rw [HL'.out, hln.out]; simp, by rw [HL'.out]; exact HO3, HT3⟩
              case measure => simp [intOf]; omega
      · have HOv : Hid (overK m L t below 0 = true) := by show _ = _; rw [HOv0.out]; rfl
        clear HOv0
        go_wp2_with fail
        refine q.mono ?_
        rintro y wy ⟨rfl, hwy⟩
        obtain rfl := hwy.symm
        clear q
        go_wp2_with fail
        go_loopw [8, 9] (fun o x wr => ∃ kk : Nat, x = .int .i64 kk ∧ kk ≤ n ∧ o = .bool (overK m L t below kk) ∧ wr = W0) (fun _ x _ => n - (intOf x).toNat)
        case atStart => exact ⟨0, rfl, by omega, by rw [HOv.out], rfl⟩
        case round =>
          obtain ⟨kk, rfl, hkk, ho, hwr⟩ := hrel
          subst hwr
          subst ho
          by_cases hlt2 : (kk : Int) < n
          · obtain ⟨jj, an, u, q2, d0, hiff, hstep⟩ := Hin.out kk (by omega)
            by_cases hjj : jj = jt
            · subst hjj
              by_cases hbe : below ≤ (an : Int)
              · have HV : Hid (overK m L t below (kk + 1) = false) := by show _ = _; rw [hstep, decide_eq_true (hiff.2 rfl), decide_eq_true hbe]; simp
                have hbe' : (an : Int) ≥ below := hbe
                clear hiff hstep
                go_wp2_with fail
                refine q2.mono ?_
                rintro y wy ⟨rfl, hwy⟩
                obtain rfl := hwy.symm
                clear q2
                go_wp2_with fail
                go_roundw
                case rel => exact ⟨kk + 1, by go_num, by omega, by rw [HV.out], trivial⟩
                case measure => simp [intOf]; omega
              · have HV : Hid (overK m L t below (kk + 1) = overK m L t below kk) := by show _ = _; rw [hstep, decide_eq_false hbe]; simp
                have hbe' : ¬ (an : Int) ≥ below := hbe
                clear hiff hstep
                go_wp2_with fail
                refine q2.mono ?_
                rintro y wy ⟨rfl, hwy⟩
                obtain rfl := hwy.symm
                clear q2
                go_wp2_with fail
                go_roundw
                case rel => exact ⟨kk + 1, by go_num, by omega, by rw [HV.out], trivial⟩
                case measure => simp [intOf]; omega
            · have HV : Hid (overK m L t below (kk + 1) = overK m L t below kk) := by show _ = _; rw [hstep, decide_eq_false (fun e => hjj (hiff.1 e))]; simp
              have hj2 : ((jj : Int) == (jt : Int)) = false := beq_eq_false_iff_ne.2 (by omega)
              clear hiff hstep hjj
              go_wp2_with fail
              refine q2.mono ?_
              rintro y wy ⟨rfl, hwy⟩
              obtain rfl := hwy.symm
              clear q2
              go_wp2_with fail
              go_roundw
              case rel => exact ⟨kk + 1, by go_num, by omega, by rw [HV.out], trivial⟩
              case measure => simp [intOf]; omega
          · have hkn2 : kk = n := by omega
            subst hkn2
            cases hov2 : overK m L t below kk with
            | true =>
              have HPf : Hid (P a = false) := by show _ = _; rw [HPa.out, hov2]; rfl
              have HL' : Hid ((L.take (k + 1)).filter P = (L.take k).filter P) := by show _ = _; rw [HFl.out, HPf.out]; simp
              clear hov2
              go_wp2_with fail
              go_roundw
              case rel => exact ⟨k + 1, ln, by go_num, by omega, by rw [HL'.out]; exact hln, by rw [HL'.out]; exact HOw, HT⟩
              case measure => simp [intOf]; omega
            | false =>
              have HPf : Hid (P a = true) := by show _ = _; rw [HPa.out, hov2]; rfl
              have HL' : Hid ((L.take (k + 1)).filter P = (L.take k).filter P ++ [a]) := by show _ = _; rw [HFl.out, HPf.out]; simp
              obtain ⟨e0, e1, e2, e3, e4, e5⟩ := Hcel.out
              obtain ⟨w2, hw2⟩ : ∃ w2, w2 = wr.alloc (.cells #[.int .i64 a.n, .int .i64 a.par, .int .i64 a.st, .int .i64 a.had, .bool a.rl, .bool a.bk] 67) := ⟨_, rfl⟩
              have HO2 : Hid (w2.ownsRow N 67 6 (.slice lo ln lc) ln (ncl ((L.take k).filter P))) := by show World.ownsRow _ _ _ _ _ _ _; rw [hw2]; exact own_tch HOw.out (Tch.alloc (fun _ => False) _ _) (fun _ _ h => h)
              have HT2 : Hid (Tch (fun _ => False) w w2) := by show Tch _ _ _; rw [hw2]; exact HT.out.allocR _
              have Hcl : Hid (∀ j u, ([.int .i64 a.n, .int .i64 a.par, .int .i64 a.st, .int .i64 a.had, .bool a.rl, .bool a.bk] : List Value)[j]? = some u → w2.cell? ((⟨wr.heap.size, 0, none⟩ : Addr).add j) = some u) := fun j u hu => by
                have hb2 : w2.heap[wr.heap.size]? = some (.cells #[.int .i64 a.n, .int .i64 a.par, .int .i64 a.st, .int .i64 a.had, .bool a.rl, .bool a.bk] 67 (0, 0)) := by rw [hw2]; exact alloc_new _ _
                rw [add_plain, blk_cell hb2, ← Array.getElem?_toList]
                simpa using hu
              have Hw2 : Hid _ := hw2
              have Hsz : Hid (N ≤ w2.heap.size) := by show _ ≤ _; rw [HN.out]; exact HT2.out.size
              have hkI : (k : Int) < kk := hlt
              clear hw2 hov2
              go_wp2_with (at_builtin; have hw2 := Hw2.out; rw [← hw2]; clear hw2; refine wpList_append_keeps _ rfl _ _ 48 rfl N 67 i0 (.agg #[.int .i64 0, .int .i64 0, .int .i64 0, .int .i64 0, .bool false, .bool false]) 6 40 Try.underlying48 hi hz0 hz1 hz2 rfl (by decide) (.slice lo ln lc) ln (ncl ((L.take k).filter P)) rfl HO2.out ⟨wr.heap.size, 0, none⟩ 1 1 [.int .i64 a.n, .int .i64 a.par, .int .i64 a.st, .int .i64 a.had, .bool a.rl, .bool a.bk] rfl rfl Hcl.out (by simp [Value.oneCell']) (by have := Hll.out; unfold maxLen; omega) (by have := Hll.out; omega) Hsz.out ?_; intro v3 w3 hown3 hgr3 hat3 _; have HO3 : Hid (w3.ownsRow N 67 6 v3 (ln + 1) (ncl ((L.take k).filter P ++ [a]))) := (by have h1 := hown3; rw [← ncl_snoc] at h1; exact h1); have HT3 : Hid (Tch (fun _ => False) w w3) := (HT2.out.trans (grown_at (Tch.refl (fun _ => False) w2) hgr3) (fun i hi e => by have := row_ge HO2.out e; have := HN.out; omega)); obtain ⟨o3, c3, hv3⟩ := row_slice HO3.out; subst hv3; clear hown3 hgr3 hat3)
              go_roundw
              case rel => exact ⟨k + 1, ln + 1, by go_num, by omega, by show _ = _; rw [HL'.out, hln.out]; simp, by rw [HL'.out]; exact HO3, HT3⟩
              case measure => simp [intOf]; omega
      · have HOv : Hid (overK m L t below 0 = true) := by show _ = _; rw [HOv0.out]; rfl
        clear HOv0
        go_wp2_with fail
        refine q.mono ?_
        rintro y wy ⟨rfl, hwy⟩
        obtain rfl := hwy.symm
        clear q
        go_wp2_with fail
        go_loopw [8, 9] (fun o x wr => ∃ kk : Nat, x = .int .i64 kk ∧ kk ≤ n ∧ o = .bool (overK m L t below kk) ∧ wr = W0) (fun _ x _ => n - (intOf x).toNat)
        case atStart => exact ⟨0, rfl, by omega, by rw [HOv.out], rfl⟩
        case round =>
          obtain ⟨kk, rfl, hkk, ho, hwr⟩ := hrel
          subst hwr
          subst ho
          by_cases hlt2 : (kk : Int) < n
          · obtain ⟨jj, an, u, q2, d0, hiff, hstep⟩ := Hin.out kk (by omega)
            by_cases hjj : jj = jt
            · subst hjj
              by_cases hbe : below ≤ (an : Int)
              · have HV : Hid (overK m L t below (kk + 1) = false) := by show _ = _; rw [hstep, decide_eq_true (hiff.2 rfl), decide_eq_true hbe]; simp
                have hbe' : (an : Int) ≥ below := hbe
                clear hiff hstep
                go_wp2_with fail
                refine q2.mono ?_
                rintro y wy ⟨rfl, hwy⟩
                obtain rfl := hwy.symm
                clear q2
                go_wp2_with fail
                go_roundw
                case rel => exact ⟨kk + 1, by go_num, by omega, by rw [HV.out], trivial⟩
                case measure => simp [intOf]; omega
              · have HV : Hid (overK m L t below (kk + 1) = overK m L t below kk) := by show _ = _; rw [hstep, decide_eq_false hbe]; simp
                have hbe' : ¬ (an : Int) ≥ below := hbe
                clear hiff hstep
                go_wp2_with fail
                refine q2.mono ?_
                rintro y wy ⟨rfl, hwy⟩
                obtain rfl := hwy.symm
                clear q2
                go_wp2_with fail
                go_roundw
                case rel => exact ⟨kk + 1, by go_num, by omega, by rw [HV.out], trivial⟩
                case measure => simp [intOf]; omega
            · have HV : Hid (overK m L t below (kk + 1) = overK m L t below kk) := by show _ = _; rw [hstep, decide_eq_false (fun e => hjj (hiff.1 e))]; simp
              have hj2 : ((jj : Int) == (jt : Int)) = false := beq_eq_false_iff_ne.2 (by omega)
              clear hiff hstep hjj
              go_wp2_with fail
              refine q2.mono ?_
              rintro y wy ⟨rfl, hwy⟩
              obtain rfl := hwy.symm
              clear q2
              go_wp2_with fail
              go_roundw
              case rel => exact ⟨kk + 1, by go_num, by omega, by rw [HV.out], trivial⟩
              case measure => simp [intOf]; omega
          · have hkn2 : kk = n := by omega
            subst hkn2
            cases hov2 : overK m L t below kk with
            | true =>
              have HPf : Hid (P a = false) := by show _ = _; rw [HPa.out, hov2]; rfl
              have HL' : Hid ((L.take (k + 1)).filter P = (L.take k).filter P) := by show _ = _; rw [HFl.out, HPf.out]; simp
              clear hov2
              go_wp2_with fail
              go_roundw
              case rel => exact ⟨k + 1, ln, by go_num, by omega, by rw [HL'.out]; exact hln, by rw [HL'.out]; exact HOw, HT⟩
              case measure => simp [intOf]; omega
            | false =>
              have HPf : Hid (P a = true) := by show _ = _; rw [HPa.out, hov2]; rfl
              have HL' : Hid ((L.take (k + 1)).filter P = (L.take k).filter P ++ [a]) := by show _ = _; rw [HFl.out, HPf.out]; simp
              obtain ⟨e0, e1, e2, e3, e4, e5⟩ := Hcel.out
              obtain ⟨w2, hw2⟩ : ∃ w2, w2 = wr.alloc (.cells #[.int .i64 a.n, .int .i64 a.par, .int .i64 a.st, .int .i64 a.had, .bool a.rl, .bool a.bk] 67) := ⟨_, rfl⟩
              have HO2 : Hid (w2.ownsRow N 67 6 (.slice lo ln lc) ln (ncl ((L.take k).filter P))) := by show World.ownsRow _ _ _ _ _ _ _; rw [hw2]; exact own_tch HOw.out (Tch.alloc (fun _ => False) _ _) (fun _ _ h => h)
              have HT2 : Hid (Tch (fun _ => False) w w2) := by show Tch _ _ _; rw [hw2]; exact HT.out.allocR _
              have Hcl : Hid (∀ j u, ([.int .i64 a.n, .int .i64 a.par, .int .i64 a.st, .int .i64 a.had, .bool a.rl, .bool a.bk] : List Value)[j]? = some u → w2.cell? ((⟨wr.heap.size, 0, none⟩ : Addr).add j) = some u) := fun j u hu => by
                have hb2 : w2.heap[wr.heap.size]? = some (.cells #[.int .i64 a.n, .int .i64 a.par, .int .i64 a.st, .int .i64 a.had, .bool a.rl, .bool a.bk] 67 (0, 0)) := by rw [hw2]; exact alloc_new _ _
                rw [add_plain, blk_cell hb2, ← Array.getElem?_toList]
                simpa using hu
              have Hw2 : Hid _ := hw2
              have Hsz : Hid (N ≤ w2.heap.size) := by show _ ≤ _; rw [HN.out]; exact HT2.out.size
              have hkI : (k : Int) < kk := hlt
              clear hw2 hov2
              go_wp2_with (at_builtin; have hw2 := Hw2.out; rw [← hw2]; clear hw2; refine wpList_append_keeps _ rfl _ _ 48 rfl N 67 i0 (.agg #[.int .i64 0, .int .i64 0, .int .i64 0, .int .i64 0, .bool false, .bool false]) 6 40 Try.underlying48 hi hz0 hz1 hz2 rfl (by decide) (.slice lo ln lc) ln (ncl ((L.take k).filter P)) rfl HO2.out ⟨wr.heap.size, 0, none⟩ 1 1 [.int .i64 a.n, .int .i64 a.par, .int .i64 a.st, .int .i64 a.had, .bool a.rl, .bool a.bk] rfl rfl Hcl.out (by simp [Value.oneCell']) (by have := Hll.out; unfold maxLen; omega) (by have := Hll.out; omega) Hsz.out ?_; intro v3 w3 hown3 hgr3 hat3 _; have HO3 : Hid (w3.ownsRow N 67 6 v3 (ln + 1) (ncl ((L.take k).filter P ++ [a]))) := (by have h1 := hown3; rw [← ncl_snoc] at h1; exact h1); have HT3 : Hid (Tch (fun _ => False) w w3) := (HT2.out.trans (grown_at (Tch.refl (fun _ => False) w2) hgr3) (fun i hi e => by have := row_ge HO2.out e; have := HN.out; omega)); obtain ⟨o3, c3, hv3⟩ := row_slice HO3.out; subst hv3; clear hown3 hgr3 hat3)
              go_roundw
              case rel => exact ⟨k + 1, ln + 1, by go_num, by omega, by show _ = _; rw [HL'.out, hln.out]; simp, by rw [HL'.out]; exact HO3, HT3⟩
              case measure => simp [intOf]; omega
    · have hkn : k = n := by omega
      have HOF : Hid (wr.ownsRow N 67 6 (.slice lo ln lc) (L.filter P).length (ncl (L.filter P)) ∧ ln = (L.filter P).length) := by
        have e : L.take k = L := List.take_of_length_le (by have := Hn.out; omega)
        have h1 := HOw.out
        have h2 := hln.out
        rw [e] at h1 h2
        exact ⟨by rw [← h2]; exact h1, h2⟩
      have hlm : Hid (n = ln + mny) := by show _ = _; rw [Hn.out, HOF.out.2]; exact HMny.out
      have hll : ln ≤ 2147483648 := by have := hlm.out; omega
      have hX := HO.out.tch HT.out (fun h => h) (fun _ _ h => h)
      have f0 := blk_frozen hX.blk 0
      have Hfin : Hid (RF (wr.setCell ⟨b, 0, none⟩ (.slice lo ln lc)) b (m.forget below) F ∧ Kept F w (wr.setCell ⟨b, 0, none⟩ (.slice lo ln lc))) := by
        obtain ⟨h3, h4, h5⟩ := HF.out
        have tE : Tch (fun j => j = b) wr (wr.setCell ⟨b, 0, none⟩ (.slice lo ln lc)) := Tch.setCell _ _ _ _ rfl
        have hge : ∀ g, (Value.slice lo ln lc).ownBlock = some g → N ≤ g := fun g hg => row_ge HOF.out.1 hg
        have hbl := blk_lt HO.out.blk
        have hr := HR.out.forget below
        rw [← HP.out] at hr
        have hNN := HN.out
        refine ⟨⟨L.filter P, .slice lo ln lc, hr, ⟨blk_set hX.blk _, ?_, fun g hg e => ?_⟩, h3, fun g hg hf => ?_, fun i hi => Nat.lt_of_lt_of_le (h5 i hi) (Nat.le_trans HT.out.size tE.size)⟩, (HT.out.mono (fun _ _ h => h.elim)).trans tE (fun i _ e => by rw [e]; exact h3)⟩
        · refine own_tch (own_low HOF.out.1 (Nat.zero_le _)) tE (fun g hg e => ?_)
          have := hge g hg; omega
        · have := hge g hg; omega
        · have := hge g hg; have := h5 g hf; omega
      clear hkn HOw hln HOF hX
      go_wp2_with fail
      go_ret
      exact ⟨by (rw [show (n : Int) - ln = mny by have := hlm.out; omega]) <;> rfl, Hfin.out⟩
end Go.Proofs.Ytolobljlkdacjaa
