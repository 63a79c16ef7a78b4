import Derived.Test.YtolobljlkdacjaaXRe6
import Derived.Test.YtolobljlkdacjaaXRe5B
import Derived.Test.YtolobljlkdacjaaXRe5C
/- The document's manager: within, while flags are written; Begin, Part, Back, Release. -/
namespace Go.Proofs.Ytolobljlkdacjaa
open Go.RowKit Go Go.Sort

set_option maxHeartbeats 2000000 in
set_option maxRecDepth 100000 in
theorem rwithin2 (b : Nat) (ao : Option Addr) (c : Nat) (m : Mg) (L : List Nm) (L' : List Nm) (w : World) (h : NR w b ao c L') (hm : Rel m L) (hlen : L'.length = L.length) (hmn : L'.map (·.n) = L.map (·.n)) (hsame : ∀ (j : Nat) a' a, L'[j]? = some a' → L[j]? = some a → a'.par = a.par) (n0 : Int) (t : Tx) (i0 : Int) (hf : fnd m.tx n0 = some (t, i0)) (j0 : Nat) (hj : posN L n0 = some j0) (n1 : Int) (t' : Tx) (o : Int) (hf1 : fnd m.tx n1 = some (t', o)) (j1 : Nat) (hj1 : posN L n1 = some j1) :
    Calls Try.prog 45 #[.pointer (some ⟨b, 0, none⟩), .int .i64 j0, .int .i64 j1] w fun x w' => x = .returned (.bool (winA t i0 t' o)) ∧ w' = w := by
  have hl := hm.len
  obtain ⟨n, hn⟩ : ∃ n, n = L.length := ⟨_, rfl⟩
  have hb := h.c0
  rw [hlen, ← hn] at hb
  rw [← hn] at hl
  have q : ∀ id : Int, Calls Try.prog 33 #[.pointer (some ⟨b, 0, none⟩), .int .i64 id] w fun x w' => x = .returned (.int .i64 (posZ L id)) ∧ w' = w := fun id => by
    have := rat_any b ao c L' id w h (by rw [hlen]; exact hm.len)
    unfold posZ at this ⊢
    rw [posN_congr hmn] at this
    exact this
  have Hn : Hid (n = L.length) := hn
  have HT : Hid _ := h
  have HM : Hid _ := hm
  have Hsame : Hid _ := hsame
  have Hlen : Hid _ := hlen
  have HS : Hid (fnd m.tx n0 = some (t, i0) ∧ posN L n0 = some j0) := ⟨hf, hj⟩
  have HS1 : Hid (fnd m.tx n1 = some (t', o) ∧ posN L n1 = some j1) := ⟨hf1, hj1⟩
  have hj0 : j0 < n := by
    obtain ⟨a, ha, _⟩ := posN_some hj
    have := (List.getElem?_eq_some_iff.1 ha).1; omega
  have hj1' : j1 < n := by
    obtain ⟨a, ha, _⟩ := posN_some hj1
    have := (List.getElem?_eq_some_iff.1 ha).1; omega
  obtain ⟨r, hr⟩ : ∃ r, r = winA t i0 t' o := ⟨_, rfl⟩
  have Hr : Hid (r = winA t i0 t' o) := hr
  rw [← hr]
  clear h hn hm hf hj hr hf1 hj1 hsame hmn hlen
  go_enter Try.func45, Try.ntmps45
  go_wp2_with fail
  go_loopw [1] (fun i wr => ∃ k : Nat, i = .int .i64 k ∧ k < n ∧ wr = w ∧ Hid (∃ x i', fnd m.tx x = some (t, i') ∧ posN L x = some k ∧ r = winA t i' t' o)) (fun i _ => (intOf i).toNat)
  case atStart => exact ⟨j0, rfl, hj0, rfl, ⟨_, _, HS.out.1, HS.out.2, Hr.out⟩⟩
  case round =>
    obtain ⟨k, rfl, hk, hwr, HK⟩ := hrel
    subst hwr
    have hkl : k < L.length := by have := Hn.out; omega
    obtain ⟨a, hk'⟩ : ∃ a, L[k]? = some a := ⟨_, List.getElem?_eq_getElem hkl⟩
    obtain ⟨a9, hk9⟩ : ∃ a, L'[k]? = some a := ⟨_, List.getElem?_eq_getElem (by rw [Hlen.out]; exact hkl)⟩
    obtain ⟨g, rfl, -, c1, -⟩ := HT.out.el k _ hk9
    rw [Hsame.out k a9 a hk9 hk'] at c1
    clear hk9
    obtain ⟨x, i', h1, h2, h3⟩ := HK.out
    by_cases hkj : k = j1
    · have HE : Hid (r = true) := by
        show _ = _
        obtain ⟨f1, f2⟩ := HS1.out
        obtain ⟨a1, b1, b2⟩ := posN_some h2
        obtain ⟨a2, b3, b4⟩ := posN_some f2
        rw [hkj, b3] at b1
        injection b1 with b1
        subst b1
        have : x = n1 := by omega
        subst this
        rw [h1] at f1
        injection f1 with f1
        injection f1 with f1 f3
        subst f1 f3
        rw [h3]
        unfold winA
        rw [within_stop _ (by omega)]
        simp
      subst hkj
      clear h1 h2 h3 hk' hkl q
      go_wp2_with fail
      go_ret
      exact ⟨by (rw [HE.out]) <;> rfl, rfl⟩
    · have hne1 : ((k : Int) == (j1 : Int)) = false := beq_eq_false_iff_ne.2 (by omega)
      have hne2 : ((k : Int) != (j1 : Int)) = true := by rw [bne, hne1]; rfl
      have hio : t = t' → i' ≠ o := fun e e2 => by
        subst e e2
        obtain ⟨f1, f2⟩ := HS1.out
        have hx : x = n1 := by
          have m1 := (fnd_mem h1).2
          have m2 := (fnd_mem f1).2
          rcases m1 with ⟨e, e1⟩ | ⟨k1, p1, e, _, hp1, e1, _⟩
          · rcases m2 with ⟨_, e3⟩ | ⟨k2, p2, e3, _⟩
            · omega
            · omega
          · rcases m2 with ⟨e3, _⟩ | ⟨k2, p2, e3, _, hp2, e4, _⟩
            · omega
            · have : k1 = k2 := by omega
              subst this
              rw [hp1] at hp2
              injection hp2 with hp2
              subst hp2
              omega
        subst hx
        rw [h2] at f2
        injection f2 with f2
        exact hkj f2
      have htm := (fnd_mem h1).1
      have htm' := (fnd_mem HS1.out.1).1
      have htt : t.x = t'.x → t = t' := HM.out.wf.uniq t htm t' htm'
      have hoo : -1 ≤ o := by rcases fnd_cases HS1.out.1 with e | ⟨k2, e, _⟩ <;> omega
      rcases fnd_cases h1 with rfl | ⟨kp, rfl, _⟩
      · obtain ⟨e0, e1, e2, _⟩ := HM.out.root h1 h2 hk'
        have HE : Hid (r = false) := by
          show _ = _
          rw [h3]
          unfold winA
          by_cases he : t.x = t'.x
          · rw [within_stop _ (by omega)]
            have := hio (htt he)
            simp [this]
          · simp [he]
        rw [e2] at c1
        clear h1 h2 e0 e1 e2 hk' hkl q h3 hio htm htm' htt hoo hkj
        go_wp2_with fail
        go_ret
        exact ⟨by (rw [HE.out]) <;> rfl, rfl⟩
      · obtain ⟨p, j', hp, e2, e3, e4, e5, e7, e8, e6, _⟩ := HM.out.step h1 h2 hk'
        have qq := q (a.par : Int)
        unfold posZ at qq
        rw [e4] at qq
        have HE : Hid (∃ x i', fnd m.tx x = some (t, i') ∧ posN L x = some j' ∧ r = winA t i' t' o) := ⟨_, _, e3, e4, by
          rw [h3]
          unfold winA
          by_cases he : t.x = t'.x
          · have ht := htt he
            subst ht
            congr 1
            by_cases hlt : o < kp
            · exact within_up (fun i p hp => ⟨(HM.out.wf.ar t htm i p hp).1, (HM.out.wf.ar t htm i p hp).2.1⟩) hoo hp hlt
            · have := hio rfl
              rw [within_stop _ hlt, within_stop _ (by omega)]
              rw [beq_eq_false_iff_ne.2 this, beq_eq_false_iff_ne.2 (by omega)]
          · simp [he]⟩
        obtain ⟨s, hs⟩ : ∃ s : Nat, s = a.par := ⟨_, rfl⟩
        rw [← hs] at c1 qq e2
        have hne : ((s : Int) == 0) = false := beq_eq_false_iff_ne.2 (by omega)
        have hneb : ((s : Int) != 0) = true := by rw [bne, hne]; rfl
        simp only [] at qq
        clear h1 h2 e3 e4 hs hk' hkl q e2 h3 e6 hio htm htm' htt hoo hkj hp e7 e8
        go_wp2_with fail
        refine qq.mono ?_
        rintro y wy ⟨rfl, hwy⟩
        subst hwy
        clear qq
        go_wp2_with fail
        go_roundw
        case rel => exact ⟨j', rfl, by omega, trivial, HE⟩
        case measure => simp [intOf]; omega

theorem kept_refl (F : Nat → Prop) (w : World) : Kept F w w := Tch.refl _ _
theorem RF.parts {w : World} {b : Nat} {m : Mg} {F : Nat → Prop} (h : RF w b m F) : ∃ L ao c, Rel m L ∧ RO w b L m.nx (.slice ao L.length c) ∧ NR w b ao c L ∧ ¬ F b ∧ (∀ g, (Value.slice ao L.length c).ownBlock = some g → ¬ F g) ∧ ∀ i, F i → i < w.heap.size := by
  obtain ⟨L, v, hR, hO, h3, h4, h5⟩ := h
  obtain ⟨ao, c, rfl, hN⟩ := hO.nr
  exact ⟨L, ao, c, hR, hO, hN, h3, h4, h5⟩
def beginA (m : Mg) : Nat × Nat := if 2147483647 < m.nx then (0, 73) else (m.nx, 0)
def beginM (m : Mg) : Mg := if 2147483647 < m.nx then m else m.begin
theorem rbegin_f (b : Nat) (m : Mg) (w : World) (F : Nat → Prop) (h : RF w b m F) :
    Calls Try.prog 15 #[.pointer (some ⟨b, 0, none⟩)] w fun x w' => x = .returned (.tuple #[.int .i64 (beginA m).1, .int .i64 (beginA m).2]) ∧ RF w' b (beginM m) F ∧ Kept F w w' := by
  obtain ⟨L, ao, c, hR, hO, hN, h3, h4, h5⟩ := h.parts
  unfold beginA beginM
  by_cases hn : 2147483647 < m.nx
  · rw [if_pos hn, if_pos hn]
    refine (rbegin_no b m.nx w hO.c1 hn).mono ?_
    rintro x w' ⟨rfl, rfl⟩
    exact ⟨rfl, h, kept_refl _ _⟩
  · rw [if_neg hn, if_neg hn]
    refine (rbegin_ok b L m.nx _ w hO hR.len (by omega)).mono ?_
    rintro x w' ⟨rfl, ho⟩
    have hr := hR.begin (by omega)
    refine ⟨rfl, RF.out (m' := m.begin) (L' := L ++ [⟨m.nx, 0, 1, 0, false, false⟩]) (n := L.length + 1) ?_ (by simp) hr h3 h4 h5⟩
    rw [ncl_snoc]
    exact ho
def partA (m : Mg) (k : Int) : Nat × Nat := match fnd m.tx k with
  | none => (0, 70)
  | some (t, i) => if partE m t i = 0 then (m.nx, 0) else (0, partE m t i)
def partM (m : Mg) (k : Int) : Mg := match fnd m.tx k with
  | none => m
  | some (t, i) => if partE m t i = 0 then m.part t i else m
theorem rpart_f (b : Nat) (m : Mg) (w : World) (F : Nat → Prop) (h : RF w b m F) (k : Int) :
    Calls Try.prog 17 #[.pointer (some ⟨b, 0, none⟩), .int .i64 k] w fun x w' => x = .returned (.tuple #[.int .i64 (partA m k).1, .int .i64 (partA m k).2]) ∧ RF w' b (partM m k) F ∧ Kept F w w' := by
  obtain ⟨L, ao, c, hR, hO, hN, h3, h4, h5⟩ := h.parts
  unfold partA partM
  cases hf : fnd m.tx k with
  | none =>
    refine (rpn_none b ao c m L w hN hR k hf).mono ?_
    rintro x w' ⟨rfl, rfl⟩
    exact ⟨rfl, h, kept_refl _ _⟩
  | some z =>
    obtain ⟨t, i⟩ := z
    simp only []
    obtain ⟨j, a, f1, f2, f3, hok⟩ := hR.yes _ _ _ hf
    have htm := (fnd_mem hf).1
    have hft := hR.wf.fnd_tx htm
    obtain ⟨jt, at', g1, g2, g3, -⟩ := hR.yes _ _ _ hft
    obtain ⟨-, -, -, est, ehad, -⟩ := hR.root hft g1 g2
    have q := rat_any b ao c L k w hN hR.len
    unfold posZ at q
    rw [f1] at q
    have q2 := rtop_any b ao c m L w hN hR k t i hf j f1 jt g1
    have q3 := rlive_any b ao c m L w hN hR k t i hf j f1 a f2
    have hl := hR.len
    have h64 := hR.wf.ln t htm
    have n2 := hR.wf.n2
    have hmay : (at'.st ≠ 1 ∨ (a.par ≠ 0 ∧ (!a.rl && !decide (fate t i = 2)) = false)) ↔ may t i = false := by
      unfold may
      rw [est]
      rcases fnd_cases hf with rfl | ⟨kk, rfl, _⟩
      · obtain ⟨-, -, epar, -⟩ := hR.root hf f1 f2
        rw [epar, fate_tx]
        simp
      · obtain ⟨p, _, hp, epar, -, -, -, -, -, -, e6⟩ := hR.step hf f1 f2
        rw [fate_pt hp]
        by_cases hs : t.st = 1
        · simp only [hs, decide_true, Bool.true_and, ne_eq, not_true_eq_false, false_or]
          rw [Bool.and_eq_false_iff]
          by_cases h0 : p.ft = 0
          · simp only [h0] at e6 ⊢
            have : a.rl = false := by
              cases hrl : a.rl with
              | false => rfl
              | true => exact absurd rfl (e6.2 (Or.inl hrl))
            simp [this]
          · have := e6.1 h0
            simp only [h0, decide_false, iff_true]
            refine ⟨epar, ?_⟩
            rcases this with e | e
            · left; simp [e]
            · right; simp [e]
        · simp [hs]
    by_cases hm : may t i = false
    · have hE : partE m t i = 71 := by unfold partE; rw [if_pos hm]
      rw [if_neg (by rw [hE]; omega), if_neg (by rw [hE]; omega), hE]
      rcases hmay.2 hm with c1 | ⟨c1, c2⟩
      · refine (rpn_A b j jt L.length L m.nx ao c k a at' _ w hO rfl hl f2 g2 n2 (by omega) q q2 q3 c1).mono ?_
        rintro x w' ⟨rfl, rfl⟩
        exact ⟨rfl, h, kept_refl _ _⟩
      · by_cases c0 : at'.st = 1
        · refine (rpn_D b j jt L.length L m.nx ao c k a at' _ w hO rfl hl f2 g2 n2 (by omega) q q2 q3 c0 c1 c2).mono ?_
          rintro x w' ⟨rfl, rfl⟩
          exact ⟨rfl, h, kept_refl _ _⟩
        · refine (rpn_A b j jt L.length L m.nx ao c k a at' _ w hO rfl hl f2 g2 n2 (by omega) q q2 q3 c0).mono ?_
          rintro x w' ⟨rfl, rfl⟩
          exact ⟨rfl, h, kept_refl _ _⟩
    · have hc : ¬ (at'.st ≠ 1 ∨ (a.par ≠ 0 ∧ (!a.rl && !decide (fate t i = 2)) = false)) := fun e => hm (hmay.1 e)
      have hc1 : at'.st = 1 := Decidable.byContradiction fun e => hc (Or.inl e)
      have hc2 : a.par = 0 ∨ (a.par ≠ 0 ∧ (!a.rl && !decide (fate t i = 2)) = true) := by
        by_cases hp : a.par = 0
        · exact Or.inl hp
        · refine Or.inr ⟨hp, ?_⟩
          cases hb : (!a.rl && !decide (fate t i = 2)) with
          | true => rfl
          | false => exact absurd (Or.inr ⟨hp, hb⟩) hc
      by_cases h72 : t.ps.length = 64
      · have hE : partE m t i = 72 := by unfold partE; rw [if_neg hm, if_pos h72]
        rw [if_neg (by rw [hE]; omega), if_neg (by rw [hE]; omega), hE]
        rcases hc2 with e | ⟨e, e'⟩
        · refine (rpn_B72 b j jt L.length L m.nx ao c k a at' _ w hO rfl hl f2 g2 n2 (by omega) q q2 q3 hc1 e (by omega)).mono ?_
          rintro x w' ⟨rfl, rfl⟩
          exact ⟨rfl, h, kept_refl _ _⟩
        · refine (rpn_C72 b j jt L.length L m.nx ao c k a at' _ w hO rfl hl f2 g2 n2 (by omega) q q2 q3 hc1 e e' (by omega)).mono ?_
          rintro x w' ⟨rfl, rfl⟩
          exact ⟨rfl, h, kept_refl _ _⟩
      · by_cases h73 : 2147483647 < m.nx
        · have hE : partE m t i = 73 := by unfold partE; rw [if_neg hm, if_neg h72, if_pos h73]
          rw [if_neg (by rw [hE]; omega), if_neg (by rw [hE]; omega), hE]
          rcases hc2 with e | ⟨e, e'⟩
          · refine (rpn_B73 b j jt L.length L m.nx ao c k a at' _ w hO rfl hl f2 g2 n2 (by omega) q q2 q3 hc1 e (by omega) h73).mono ?_
            rintro x w' ⟨rfl, rfl⟩
            exact ⟨rfl, h, kept_refl _ _⟩
          · refine (rpn_C73 b j jt L.length L m.nx ao c k a at' _ w hO rfl hl f2 g2 n2 (by omega) q q2 q3 hc1 e e' (by omega) h73).mono ?_
            rintro x w' ⟨rfl, rfl⟩
            exact ⟨rfl, h, kept_refl _ _⟩
        · have hE : partE m t i = 0 := by unfold partE; rw [if_neg hm, if_neg h72, if_neg h73]
          rw [if_pos hE, if_pos hE]
          have hmt : may t i = true := by cases hq : may t i with
            | true => rfl
            | false => exact absurd hq hm
          have hr := hR.part hf g1 g2 hmt (by omega) (by omega)
          have hkk : (k.toNat : Int) = k := by have := hR.wf.fnd_lt hf; omega
          have hout : ∀ w', ROut w b (.slice ao L.length c) (ncl (L.set jt { at' with had := at'.had + 1 }) ++ [.int .i64 m.nx, .int .i64 k, .int .i64 0, .int .i64 0, .bool false, .bool false]) (L.length + 1) (m.nx + 1) w' → RF w' b (m.part t i) F ∧ Kept F w w' := fun w' ho => by
            refine RF.out (m' := m.part t i) (L' := L.set jt { at' with had := at'.had + 1 } ++ [⟨m.nx, k.toNat, 0, 0, false, false⟩]) (n := L.length + 1) ?_ (by simp) hr h3 h4 h5
            rw [ncl_snoc]
            simp only [hkk]
            exact ho
          rcases hc2 with e | ⟨e, e'⟩
          · refine (rpn_B b j jt L.length L m.nx ao c k a at' _ w hO rfl hl f2 g2 n2 (by omega) q q2 q3 hc1 e (by omega) (by omega) _ rfl).mono ?_
            rintro x w' ⟨rfl, ho⟩
            exact ⟨rfl, hout w' ho⟩
          · refine (rpn_C b j jt L.length L m.nx ao c k a at' _ w hO rfl hl f2 g2 n2 (by omega) q q2 q3 hc1 e e' (by omega) (by omega) _ rfl).mono ?_
            rintro x w' ⟨rfl, ho⟩
            exact ⟨rfl, hout w' ho⟩
/-- What Release and Back tell, and what comes of them. -/
def endA (m : Mg) (k : Int) : Nat := match fnd m.tx k with
  | some (t, i) => if i = -1 then 70 else if may t i = true then 0 else 71
  | none => 70
def endM (m : Mg) (k : Int) (f : Nat) : Mg := match fnd m.tx k with
  | some (t, i) => if i = -1 then m else if may t i = true then m.endp t.x i f else m
  | none => m
theorem end_no {m : Mg} {k : Int} (h : ∀ t (i : Nat), fnd m.tx k ≠ some (t, (i : Int))) (f : Nat) : endA m k = 70 ∧ endM m k f = m := by
  unfold endA endM
  cases hf : fnd m.tx k with
  | none => exact ⟨rfl, rfl⟩
  | some z =>
    obtain ⟨t, i⟩ := z
    rcases fnd_cases hf with rfl | ⟨j, rfl, _⟩
    · exact ⟨rfl, rfl⟩
    · exact absurd hf (h t j)
theorem end_is {m : Mg} {k : Int} {t : Tx} {i : Nat} (h : fnd m.tx k = some (t, (i : Int))) (f : Nat) : endA m k = (if may t i = true then 0 else 71) ∧ endM m k f = (if may t i = true then m.endp t.x i f else m) := by
  unfold endA endM
  rw [h]
  have hne : ¬ (i : Int) = -1 := by omega
  exact ⟨if_neg hne, if_neg hne⟩
set_option maxHeartbeats 1000000 in
theorem rback_f (b : Nat) (m : Mg) (w : World) (F : Nat → Prop) (h : RF w b m F) (k : Int) :
    Calls Try.prog 21 #[.pointer (some ⟨b, 0, none⟩), .int .i64 k] w fun x w' => x = .returned (.int .i64 (endA m k)) ∧ RF w' b (endM m k 2) F ∧ Kept F w w' := by
  obtain ⟨L, ao, c, hR, hO, hN, h3, h4, h5⟩ := h.parts
  by_cases hk : ∃ t, ∃ i : Nat, fnd m.tx k = some (t, (i : Int))
  · obtain ⟨t, i, ht⟩ := hk
    obtain ⟨e1, e2⟩ := end_is ht 2
    rw [e1, e2]
    obtain ⟨j, a, f1, f2, f3, -⟩ := hR.yes _ _ _ ht
    have q := rpart_some b ao c m L w hN hR k t i ht j f1
    by_cases hm : may t i = true
    · rw [if_pos hm, if_pos hm]
      rw [if_pos hm] at q
      obtain ⟨g, rfl, -⟩ := hN.el j a f2
      have b0 : ∀ nq, (w.drewN nq).cell? ⟨b, 0, none⟩ = some (.slice (some ⟨g, 0, none⟩) L.length c) := fun nq => (hN.dr nq).c0
      have c5 : ∀ nq, (w.drewN nq).cell? ⟨g, j * 6 + 5, none⟩ = some (.bool a.bk) := fun nq => by
        obtain ⟨g', e, -, -, -, -, -, c5⟩ := (hN.dr nq).el j a f2
        obtain rfl : g = g' := by injection e with e; injection e
        exact c5
      have hj := (List.getElem?_eq_some_iff.1 f2).1
      have hl := hR.len
      have ff : ∀ nq, (w.drewN nq).frozen? ⟨g, j * 6 + 5, none⟩ = false := fun nq => (hO.tch (drewN_tch w nq) (fun h => h) (fun _ _ h => h)).frz (g := g) rfl (j * 6 + 5)
      have hRel : Rel (m.endp t.x i 2) (L.set j { a with bk := true }) := by
        refine hR.endp ht (Or.inr rfl) (map_set L j a _ f2 rfl) (fun jj bb b' hb hb' => ?_) (fun jj bb b' u ii hb hb' hu => ⟨(fun e => by omega), (fun _ => ?_)⟩)
        · rcases set_get L j _ jj bb b' hb hb' with ⟨rfl, rfl⟩ | ⟨_, rfl⟩
          · rw [f2] at hb
            injection hb with hb
            subst hb
            exact ⟨rfl, rfl, rfl⟩
          · exact ⟨rfl, rfl, rfl⟩
        · rcases set_get L j _ jj bb b' hb hb' with ⟨rfl, rfl⟩ | ⟨hne, rfl⟩
          · rw [f2] at hb
            injection hb with hb
            subst hb
            refine ⟨rfl, ?_⟩
            simp [f3]
          · refine ⟨rfl, ?_⟩
            have : (b'.n : Int) ≠ k := fun e => by
              have := (hR.at hb).1
              rw [e, f1] at this
              injection this with this
              exact hne this.symm
            simp [this]
      have hfin : Hid (∀ nq, RF ((w.drewN nq).setCell ⟨g, j * 6 + 5, none⟩ (.bool true)) b (m.endp t.x i 2) F ∧ Kept F w ((w.drewN nq).setCell ⟨g, j * 6 + 5, none⟩ (.bool true))) := fun nq => by
        have := RF.set (m := m) (m' := m.endp t.x i 2) (F := F) (hO.tch (drewN_tch w nq) (fun h => h) (fun _ _ h => h)) rfl (g := g) rfl f2 { a with bk := true } 5 (.bool true) (by omega) (by simp [cel]) hRel h3 h4 (fun i hi => Nat.lt_of_lt_of_le (h5 i hi) (drewN_tch w nq).size)
        exact ⟨this.1, ((drewN_tch w nq).mono (fun _ _ h => h.elim)).trans' this.2⟩
      obtain ⟨n, hn⟩ : ∃ n, n = L.length := ⟨_, rfl⟩
      rw [← hn] at b0 hj hl
      have hj' : (j : Int) < n := by omega
      clear h hR hO h3 h4 h5 hN ht e1 e2 f1 f2 f3 hm hn hRel
      go_enter Try.func21, Try.ntmps21
      go_wp2_with fail
      refine q.mono ?_
      rintro y wy ⟨rfl, nq, hwy⟩
      have b0' := b0 nq
      have c5' := c5 nq
      have ff' := ff nq
      have hfin' : Hid _ := hfin.out nq
      rw [← hwy] at b0' c5' ff' hfin'
      clear q b0 c5 ff hfin hwy
      go_wp2_with fail
      go_ret
      exact ⟨rfl, hfin'.out⟩
    · rw [if_neg hm, if_neg hm]
      rw [if_neg hm] at q
      have hfin : Hid (∀ nq, RF (w.drewN nq) b m F ∧ Kept F w (w.drewN nq)) := fun nq => ⟨h.no (drewN_tch w nq), kept_of (drewN_tch w nq)⟩
      clear h hR hO h3 h4 h5 hN ht e1 e2 f1 f2 f3 hm
      go_enter Try.func21, Try.ntmps21
      go_wp2_with fail
      refine q.mono ?_
      rintro y wy ⟨rfl, nq, hwy⟩
      have hfin' : Hid _ := hfin.out nq
      rw [← hwy] at hfin'
      clear q hfin hwy
      go_wp2_with fail
      go_ret
      exact ⟨rfl, hfin'.out⟩
  · have hk' : ∀ t (i : Nat), fnd m.tx k ≠ some (t, (i : Int)) := fun t i e => hk ⟨t, i, e⟩
    obtain ⟨e1, e2⟩ := end_no hk' 2
    rw [e1, e2]
    have q := rpart_none b ao c m L w hN hR k hk'
    have hfin : Hid (RF w b m F ∧ Kept F w w) := ⟨h, kept_refl _ _⟩
    clear h hR hO h3 h4 h5 hN hk hk' e1 e2
    go_enter Try.func21, Try.ntmps21
    go_wp2_with fail
    refine q.mono ?_
    rintro y wy ⟨rfl, hwy⟩
    subst hwy
    clear q
    go_wp2_with fail
    go_ret
    exact ⟨rfl, hfin.out⟩
end Go.Proofs.Ytolobljlkdacjaa
