import Derived.Test.YtokgihmigkplaaaGreatMWr2
import Derived.Laws.IdiomRangeMap
set_option maxHeartbeats 4000000
set_option maxRecDepth 100000
namespace Go.Proofs.YtokgihmigkplaaaGreat
open Go.RowKit Go Go.Sort Go.Maps
def HS (w : World) (hb mb : Nat) (m : Mg) (L : HL) (F : Nat → Prop) (q : Nat) : Prop :=
  ∃ tb T E C σ, HW w hb mb tb T E C σ q ∧ labs E C = L ∧ (∀ e ∈ E, (C e.b).2.2 ≠ []) ∧ MF w mb m (fun i => F i ∨ σ i ≠ none) ∧ ∀ i, F i → σ i = none ∧ i < w.heap.size
theorem ne_of_labs {E : List En} {C : Nat → Ch} {L : HL} (h : labs E C = L) (hL : ∀ p ∈ L, p.2 ≠ []) : ∀ e ∈ E, (C e.b).2.2 ≠ [] := fun e he h0 => by
  have : ((e.k, e.s), (C e.b).2.2.map (·.1)) ∈ L := by rw [← h]; exact List.mem_map.2 ⟨e, he, rfl⟩
  exact hL _ this (by rw [h0]; rfl)
theorem labs_ne {E : List En} {C : Nat → Ch} (h : ∀ e ∈ E, (C e.b).2.2 ≠ []) : ∀ p ∈ labs E C, p.2 ≠ [] := fun p hp => by
  obtain ⟨e, he, rfl⟩ := List.mem_map.1 hp
  simp only [ne_eq, List.map_eq_nil_iff]
  exact h e he
theorem appL_ne {L : HL} (h : ∀ p ∈ L, p.2 ≠ []) (k : Int) (s : List UInt8) (v : Ver) : ∀ p ∈ appL L k s v, p.2 ≠ [] := fun p hp => by
  unfold appL at hp
  split at hp
  · obtain ⟨p0, h0, rfl⟩ := List.mem_map.1 hp
    split
    · simp
    · exact h p0 h0
  · rcases List.mem_append.1 hp with hp | hp
    · exact h p hp
    · obtain rfl := List.mem_singleton.1 hp; simp
theorem HS.no {w w' : World} {hb mb : Nat} {m : Mg} {L : HL} {F : Nat → Prop} {q : Nat} (h : HS w hb mb m L F q) (t : Tch (fun _ => False) w w') : HS w' hb mb m L F q := by
  obtain ⟨tb, T, E, C, σ, h1, h2, h3, h4, h5⟩ := h
  exact ⟨tb, T, E, C, σ, h1.no t, h2, h3, h4.no t, fun i hi => ⟨(h5 i hi).1, Nat.lt_of_lt_of_le (h5 i hi).2 t.size⟩⟩
def IC (w0 : World) (hb : Nat) (F : Nat → Prop) (own mn mx : Int) (l : List Int) (so : Option Addr) (sc n : Nat) (cs : List Value) (out : Value → World → Prop) (s : List Value) (W : World) : Prop := match s with
  | [] => Tch (fun _ => False) w0 W
  | [y] => Tch (fun _ => False) w0 W ∧ ∃ ro rc, y = .agg #[.int .i64 own, .bool true, .slice ro n rc] ∧ W.ownsRow w0.heap.size 89 3 (.slice ro n rc) n cs
  | [y, f] => Tch (fun _ => False) w0 W ∧ (∃ ro rc, y = .agg #[.int .i64 own, .bool true, .slice ro n rc] ∧ W.ownsRow w0.heap.size 89 3 (.slice ro n rc) n cs ∧
      ∃ b, f = .func (.func 59) #[] #[.pointer (some ⟨b, 0, none⟩), .pointer (some ⟨b + 1, 0, none⟩), .pointer (some ⟨b + 1 + 1, 0, none⟩)] ∧ w0.heap.size ≤ b ∧ (∀ g, (Value.slice ro n rc).ownBlock = some g → g < b) ∧ SB W hb b (b + 1) (b + 1 + 1) mn mx l so sc own)
  | [_, _, x] => out x W ∧ Tch (fun i => ¬ F i) w0 W
  | _ => False
theorem IC.tch {w0 : World} {hb : Nat} {F : Nat → Prop} {own mn mx : Int} {l : List Int} {so : Option Addr} {sc n : Nat} {cs : List Value} {out : Value → World → Prop} {s : List Value} {W : World} (h : IC w0 hb F own mn mx l so sc n cs out s W) : Tch (fun i => ¬ F i) w0 W := by
  match s, h with
  | [], h => exact Tch.mono h (fun _ _ h => h.elim)
  | [_], h => exact h.1.mono (fun _ _ h => h.elim)
  | [_, _], h => exact h.1.mono (fun _ _ h => h.elim)
  | [_, _, _], h => exact h.2
theorem IC.one {w0 : World} {hb : Nat} {F : Nat → Prop} {own mn mx : Int} {l : List Int} {so : Option Addr} {sc n : Nat} {cs : List Value} {out : Value → World → Prop} {W : World} {ao : Option Addr} {c : Nat} (hr : RdR w0 ao n c cs) (h : IC w0 hb F own mn mx l so sc n cs out [] W) :
    Calls Tryz.prog 40 #[.int .i64 own, .slice ao n c] W fun x W' => ∃ y, x = .returned y ∧ IC w0 hb F own mn mx l so sc n cs out [y] W' := by
  have tW : Tch (fun _ => False) w0 W := h
  refine (filled_any own ao n c cs W (hr.no tW)).mono ?_
  rintro x W' ⟨⟨ro, rc, rfl, ho⟩, t⟩
  exact ⟨_, rfl, tW.trans' t, ro, rc, rfl, own_low ho tW.size⟩
theorem IC.two {w0 : World} {hb : Nat} {F : Nat → Prop} {own mn mx : Int} {l : List Int} {so : Option Addr} {sc n : Nat} {cs : List Value} {out : Value → World → Prop} {W : World} {y : Value} (hi : IR w0 so l) (h : IC w0 hb F own mn mx l so sc n cs out [y] W) :
    Calls Tryz.prog 33 #[.pointer (some ⟨hb, 0, none⟩), .agg #[.int .i64 mn, .int .i64 mx, .slice so l.length sc], .int .i64 own] W fun x W' => ∃ f, x = .returned f ∧ IC w0 hb F own mn mx l so sc n cs out [y, f] W' := by
  obtain ⟨tW, ro, rc, rfl, ho⟩ := h
  refine (seenBy_any hb mn mx so l.length sc own W).mono ?_
  rintro x W' ⟨rfl, hW'⟩
  have t1 : Tch (fun _ => False) W W' := by rw [hW']; exact ((Tch.alloc _ _ _).allocR _).allocR _
  refine ⟨_, rfl, tW.trans' t1, ro, rc, rfl, own_tch ho t1 (fun _ _ h => h), W.heap.size, rfl, tW.size, fun g hg => ?_, ⟨?_, ?_, ?_, (hi.no tW).no t1⟩⟩
  · obtain ⟨cur, hc⟩ := own_blk ho hg
    exact blk_lt hc
  · rw [hW', ((Tch.alloc (fun _ => False) (W.alloc (.cells #[.pointer (some ⟨hb, 0, none⟩)] 40)) _).allocR _).block _ (by simp) (fun h => h)]; exact alloc_new _ _
  · rw [hW', (Tch.alloc (fun _ => False) ((W.alloc (.cells #[.pointer (some ⟨hb, 0, none⟩)] 40)).alloc (.cells #[.int .i64 mn, .int .i64 mx, .slice so l.length sc] 33)) _).block _ (by simp) (fun h => h)]
    have := alloc_new (W.alloc (.cells #[.pointer (some ⟨hb, 0, none⟩)] 40)) (.cells #[.int .i64 mn, .int .i64 mx, .slice so l.length sc] 33)
    rwa [World.size_alloc] at this
  · rw [hW']
    have := alloc_new ((W.alloc (.cells #[.pointer (some ⟨hb, 0, none⟩)] 40)).alloc (.cells #[.int .i64 mn, .int .i64 mx, .slice so l.length sc] 33)) (.cells #[.int .i64 own] 3)
    simp only [World.size_alloc] at this
    exact this
def InsX (hb mb : Nat) (m : Mg) (L : HL) (F : Nat → Prop) (q : Nat) (k : Int) (s : List UInt8) (v : Ver) (ee : Nat) (x : Value) (W : World) : Prop := (∃ ro rn rc, x = .tuple #[.slice ro rn rc, .int .i64 (ee : Nat)]) ∧ HS W hb mb m (if ee = 0 then appL L k s v else L) F (q + 3)
def InsY (w : World) (hb mb : Nat) (m : Mg) (L : HL) (F : Nat → Prop) (q : Nat) (k : Int) (s : List UInt8) (v : Ver) (ee : Nat) (W : World) : Prop := HS W hb mb m (if ee = 0 then appL L k s v else L) F (q + 3) ∧ Kept F w W
theorem IC.three {w0 : World} {hb mb : Nat} {m : Mg} {L : HL} {F : Nat → Prop} {q : Nat} {own mn mx : Int} {l : List Int} {so : Option Addr} {sc n : Nat} {cs : List Value} {k : Int} {S : ByteArray} {W : World} {y f : Value} (hh : HS w0 hb mb m L F q) (hq : q ≤ 1000) (h1 : -9223372036854775808 ≤ k) (h2 : k ≤ 9223372036854775807) (hS : S.size ≤ maxLen) (h3 : -9223372036854775808 ≤ own) (h4 : own ≤ 9223372036854775807) (hl : l.length ≤ 9223372036854775807) (hn : n ≤ 1000000) (ho1 : ∀ u ∈ cs, u.oneCell' = true) (hso : ∀ a, so = some a → F a.block)
    (h : IC w0 hb F own mn mx l so sc n cs (InsX hb mb m L F q k S.data.toList ⟨own, true, n, cs⟩ (insE m mn mx l own (chL L k S.data.toList))) [y, f] W) :
    Calls Tryz.prog 39 #[.pointer (some ⟨hb, 0, none⟩), .int .i64 k, .string S, y, f, .func (.func 41) #[] #[]] W fun x W' => ∃ u, x = .returned u ∧ IC w0 hb F own mn mx l so sc n cs (InsX hb mb m L F q k S.data.toList ⟨own, true, n, cs⟩ (insE m mn mx l own (chL L k S.data.toList))) [y, f, u] W' := by
  obtain ⟨tW, ro, rc, rfl, ho, b, rfl, hb0, hgb, sb⟩ := h
  obtain ⟨tb, T, E, C, σ, hw, hL, hne, hM, hF⟩ := hh
  obtain ⟨σ1, hσ1⟩ : ∃ σ1 : Nat → Option Nat, σ1 = fun i => if (Value.slice ro n rc).ownBlock = some i then some (2 * i) else σ i := ⟨_, rfl⟩
  have hfr : ∀ i, w0.heap.size ≤ i → σ i = none := fun i hi => by
    cases hs : σ i with
    | none => rfl
    | some a => exact absurd (hw.dom i (by rw [hs]; exact fun h => by cases h)) (by omega)
  have hsg : ∀ i, σ i ≠ none → σ1 i = σ i := fun i hi => by
    rw [hσ1]
    by_cases e : (Value.slice ro n rc).ownBlock = some i
    · exact absurd (hfr i (row_ge ho e)) hi
    · simp only [if_neg e]
  have hsn : ∀ i, i < w0.heap.size → σ i = none → σ1 i = none := fun i hi h0 => by
    rw [hσ1]
    have : ¬ (Value.slice ro n rc).ownBlock = some i := fun e => by have := row_ge ho e; omega
    simp only [if_neg this]; exact h0
  have hd1 : ∀ i, σ1 i ≠ none → i < W.heap.size := fun i hi => by
    rw [hσ1] at hi
    by_cases e : (Value.slice ro n rc).ownBlock = some i
    · obtain ⟨cur, hc⟩ := own_blk ho e; exact blk_lt hc
    · simp only [if_neg e] at hi; exact Nat.lt_of_lt_of_le (hw.dom i hi) tW.size
  have hw1 := (hw.no tW).relab hsg hd1
  have hM1 : MF W mb m (fun i => F i ∨ σ1 i ≠ none) := hM.beside (tW.mono (fun _ _ h => h.elim)) hsn hd1
  have hz : VOK W σ1 (⟨own, true, n, cs⟩, (ro, rc)) := by
    refine ⟨own_low ho (Nat.zero_le _), fun g hg => ?_, ho1, hn, h3, h4⟩
    rw [hσ1]
    simp only [hg, if_true]
  have lnew : ∀ i, b ≤ i → σ1 i = none := fun i hi => by
    rw [hσ1]
    have : ¬ (Value.slice ro n rc).ownBlock = some i := fun e => by have := hgb i e; omega
    simp only [if_neg this]; exact hfr i (by omega)
  refine (write_any W hb mb tb T E C σ1 q hw1 hne hq m F hM1 k h1 h2 S hS (⟨own, true, n, cs⟩, (ro, rc)) hz b (b + 1) (b + 1 + 1) mn mx l so sc own h3 h4 hl sb (lnew _ (by omega)) (lnew _ (by omega)) (lnew _ (by omega)) (fun a ha => hsn _ (hF _ (hso a ha)).2 (hF _ (hso a ha)).1)).mono ?_
  rw [hL]
  rintro x W' ⟨ro', rn', rc', T', E', C', σ', rfl, hw', hl', hsg', hsn', t'⟩
  have tF : Tch (fun i => ¬ F i) w0 W' := (tW.mono (fun _ _ h => h.elim)).trans t' (fun i hi hs hf => hs (hsn i hi (hF i hf).1))
  refine ⟨_, rfl, ⟨⟨ro', rn', rc', rfl⟩, tb, T', E', C', σ', hw', by rw [hl', hL], ?_, hM1.beside t' hsn' hw'.dom, fun i hi => ⟨?_, Nat.lt_of_lt_of_le (hF i hi).2 (Nat.le_trans tW.size t'.size)⟩⟩, tF⟩
  · refine ne_of_labs hl' ?_
    split
    · exact appL_ne (labs_ne hne) _ _ _
    · exact labs_ne hne
  · exact hsn' i (Nat.lt_of_lt_of_le (hF i hi).2 tW.size) (hsn i (hF i hi).2 (hF i hi).1)
theorem insert_f (w : World) (hb mb : Nat) (m : Mg) (L : HL) (F : Nat → Prop) (q : Nat) (h : HS w hb mb m L F q) (hq : q ≤ 1000) (k : Int) (h1 : -9223372036854775808 ≤ k) (h2 : k ≤ 9223372036854775807) (S : ByteArray) (hS : S.size ≤ maxLen) (mn mx : Int) (l : List Int) (so : Option Addr) (sc : Nat) (own : Int) (h3 : -9223372036854775808 ≤ own) (h4 : own ≤ 9223372036854775807) (hl : l.length ≤ 9223372036854775807) (hi : IR w so l) (hso : ∀ a, so = some a → F a.block) (ao : Option Addr) (n c : Nat) (cs : List Value) (hr : RdR w ao n c cs) :
    Calls Tryz.prog 18 #[.pointer (some ⟨hb, 0, none⟩), .agg #[.int .i64 mn, .int .i64 mx, .slice so l.length sc], .int .i64 own, .int .i64 k, .string S, .slice ao n c] w fun x w' => x = .returned (.int .i64 (insE m mn mx l own (chL L k S.data.toList) : Nat)) ∧ InsY w hb mb m L F q k S.data.toList ⟨own, true, n, cs⟩ (insE m mn mx l own (chL L k S.data.toList)) w' := by
  obtain ⟨w0, hw0⟩ : ∃ w0, w0 = w.alloc (.cells #[.int .i64 mn, .int .i64 mx, .slice so l.length sc] 33) := ⟨_, rfl⟩
  have t0 : Tch (fun _ => False) w w0 := by rw [hw0]; exact Tch.alloc _ _ _
  have hFw : ∀ i, F i → i < w.heap.size := by
    obtain ⟨_, _, _, _, _, _, _, _, _, h5⟩ := h
    exact fun i hi => (h5 i hi).2
  have e0 : w0.heap[w.heap.size]? = some (.cells #[.int .i64 mn, .int .i64 mx, .slice so l.length sc] 33 (0, 0)) := by rw [hw0]; exact alloc_new _ _
  have h0 : HS w0 hb mb m L (fun i => F i ∨ i = w.heap.size) q := by
    obtain ⟨tb, T, E, C, σ, g1, g2, g3, g4, g5⟩ := h
    have hfr : σ w.heap.size = none := by
      cases hs : σ w.heap.size with
      | none => rfl
      | some a => exact absurd (g1.dom _ (by rw [hs]; exact fun h => by cases h)) (Nat.lt_irrefl _)
    refine ⟨tb, T, E, C, σ, g1.no t0, g2, g3, (g4.fresh t0).mono (fun i hi => ?_), fun i hi => ?_⟩
    · rcases hi with (hi | hi) | hi
      · exact .inl (.inl hi)
      · exact .inr ⟨by omega, by rw [hi]; exact blk_lt e0⟩
      · exact .inl (.inr hi)
    · rcases hi with hi | hi
      · exact ⟨(g5 i hi).1, Nat.lt_of_lt_of_le (g5 i hi).2 t0.size⟩
      · rw [hi]; exact ⟨hfr, blk_lt e0⟩
  obtain ⟨EE, hEE⟩ : ∃ EE, EE = insE m mn mx l own (chL L k S.data.toList) := ⟨_, rfl⟩
  obtain ⟨C, hC⟩ : ∃ C : List Value → World → Prop, C = IC w0 hb (fun i => F i ∨ i = w.heap.size) own mn mx l so sc n cs (InsX hb mb m L (fun i => F i ∨ i = w.heap.size) q k S.data.toList ⟨own, true, n, cs⟩ (insE m mn mx l own (chL L k S.data.toList))) := ⟨_, rfl⟩
  obtain ⟨ln, hln⟩ : ∃ ln, ln = l.length := ⟨_, rfl⟩
  have hK : ∀ s W, C s W → W.cell? ⟨w.heap.size, 0, none⟩ = some (.int .i64 mn) ∧ W.cell? ⟨w.heap.size, 1, none⟩ = some (.int .i64 mx) ∧ W.cell? ⟨w.heap.size, 2, none⟩ = some (.slice so ln sc) := fun s W hW => by
    rw [hC] at hW
    have hb := (IC.tch hW).block _ (blk_lt e0) (fun hn => hn (Or.inr rfl))
    rw [e0] at hb
    exact ⟨by rw [blk_cell hb]; rfl, by rw [blk_cell hb]; rfl, by rw [blk_cell hb, hln]; rfl⟩
  have h0' : C [] w0.drew := by rw [hC]; exact (Tch.refl _ _).drew
  have c1 : ∀ W, C [] W → Calls Tryz.prog 40 #[.int .i64 own, .slice ao n c] W fun x W' => ∃ y, x = .returned y ∧ C [y] W' := fun W hW => by
    rw [hC] at hW ⊢
    exact IC.one (hr.no t0) hW
  have c2 : ∀ y W, C [y] W → Calls Tryz.prog 33 #[.pointer (some ⟨hb, 0, none⟩), .agg #[.int .i64 mn, .int .i64 mx, .slice so ln sc], .int .i64 own] W fun x W' => ∃ f, x = .returned f ∧ C [y, f] W' := fun y W hW => by
    rw [hC] at hW ⊢
    rw [hln]
    exact IC.two (hi.no t0) hW
  have c3 : ∀ y f W, C [y, f] W → Calls Tryz.prog 39 #[.pointer (some ⟨hb, 0, none⟩), .int .i64 k, .string S, y, f, .func (.func 41) #[] #[]] W fun x W' => ∃ u, x = .returned u ∧ C [y, f, u] W' := fun y f W hW => by
    rw [hC] at hW ⊢
    exact IC.three h0 hq h1 h2 hS h3 h4 hl hr.sm hr.one (fun a ha => .inl (hso a ha)) hW
  have s1 : ∀ y W, C [y] W → ∃ ro rc, y = .agg #[.int .i64 own, .bool true, .slice ro n rc] := fun y W hW => by
    rw [hC] at hW
    obtain ⟨_, ro, rc, e, _⟩ := hW
    exact ⟨ro, rc, e⟩
  have s2 : ∀ y f W, C [y, f] W → ∃ b, f = .func (.func 59) #[] #[.pointer (some ⟨b, 0, none⟩), .pointer (some ⟨b + 1, 0, none⟩), .pointer (some ⟨b + 1 + 1, 0, none⟩)] := fun y f W hW => by
    rw [hC] at hW
    obtain ⟨_, ro, rc, _, _, b, e, _⟩ := hW
    exact ⟨b, e⟩
  have s3 : ∀ y f u W, C [y, f, u] W → ∃ ro rn rc, u = .tuple #[.slice ro rn rc, .int .i64 (EE : Nat)] := fun y f u W hW => by
    rw [hC] at hW
    rw [hEE]
    exact hW.1.1
  have HF : Hid (∀ y f u W, C [y, f, u] W → InsY w hb mb m L F q k S.data.toList ⟨own, true, n, cs⟩ EE W) := fun y f u W hW => by
    rw [hC] at hW
    obtain ⟨⟨_, hs⟩, tt⟩ := hW
    rw [hEE]
    refine ⟨?_, (t0.mono (fun _ _ h => h.elim)).trans tt (fun i hi hn hf => hn (Or.inl hf))⟩
    obtain ⟨tb, T, E, C', σ, g1, g2, g3, g4, g5⟩ := hs
    exact ⟨tb, T, E, C', σ, g1, g2, g3, g4.mono (fun i hi => hi.imp Or.inl id), fun i hi => g5 i (Or.inl hi)⟩
  rw [← hEE]
  have Hw0 : Hid _ := hw0
  rw [← hln] at hw0 Hw0 ⊢
  clear h h0 hC hEE hFw hi hr hso h1 h2 hS h3 h4 hl hq t0 e0 hw0 hln
  go_enter Tryz.func18, Tryz.ntmps18
  go_wp2_with fail
  have hw0 := Hw0.out
  rw [← hw0]
  clear hw0 Hw0
  refine wp_region_ordv [5, 9, 10] C 15 [0, 1, 2, 3, 4, 6, 7, 8, 5, 9, 10, 11, 12, 13, 14] (by kernel_rfl) (by kernel_rfl) h0' ?_
  clear h0'
  refine ordv_read rfl (by go_simp) (by rfl) ?_
  apply Exists.intro
  refine ⟨fun s' W hW b K Q hK' => ?_, fun K hK' => ?_⟩
  · obtain ⟨q0, q1, q2⟩ := hK _ W hW
    go_simp
    exact hK' W hW
  go_simp
  refine hK' _ ?_
  clear hK' K
  refine ordv_read rfl (by go_simp) (by rfl) ?_
  apply Exists.intro
  refine ⟨fun s' W hW b K Q hK' => ?_, fun K hK' => ?_⟩
  · obtain ⟨q0, q1, q2⟩ := hK _ W hW
    go_simp
    exact hK' W hW
  go_simp
  refine hK' _ ?_
  clear hK' K
  refine ordv_read rfl (by go_simp) (by rfl) ?_
  apply Exists.intro
  refine ⟨fun s' W hW b K Q hK' => ?_, fun K hK' => ?_⟩
  · obtain ⟨q0, q1, q2⟩ := hK _ W hW
    go_simp
    exact hK' W hW
  go_simp
  refine hK' _ ?_
  clear hK' K
  refine ordv_read rfl (by go_simp) (by rfl) ?_
  apply Exists.intro
  refine ⟨fun s' W hW b K Q hK' => ?_, fun K hK' => ?_⟩
  · obtain ⟨q0, q1, q2⟩ := hK _ W hW
    go_simp
    exact hK' W hW
  go_simp
  refine hK' _ ?_
  clear hK' K
  refine ordv_read rfl (by go_simp) (by rfl) ?_
  apply Exists.intro
  refine ⟨fun s' W hW b K Q hK' => ?_, fun K hK' => ?_⟩
  · obtain ⟨q0, q1, q2⟩ := hK _ W hW
    go_simp
    exact hK' W hW
  go_simp
  refine hK' _ ?_
  clear hK' K
  refine ordv_read rfl (by go_simp) (by rfl) ?_
  apply Exists.intro
  refine ⟨fun s' W hW b K Q hK' => ?_, fun K hK' => ?_⟩
  · obtain ⟨q0, q1, q2⟩ := hK _ W hW
    go_simp
    exact hK' W hW
  go_simp
  refine hK' _ ?_
  clear hK' K
  refine ordv_read rfl (by go_simp) (by rfl) ?_
  apply Exists.intro
  refine ⟨fun s' W hW b K Q hK' => ?_, fun K hK' => ?_⟩
  · obtain ⟨q0, q1, q2⟩ := hK _ W hW
    go_simp
    exact hK' W hW
  go_simp
  refine hK' _ ?_
  clear hK' K
  refine ordv_read rfl (by go_simp) (by rfl) ?_
  apply Exists.intro
  refine ⟨fun s' W hW b K Q hK' => ?_, fun K hK' => ?_⟩
  · obtain ⟨q0, q1, q2⟩ := hK _ W hW
    go_simp
    exact hK' W hW
  go_simp
  refine hK' _ ?_
  clear hK' K
  refine ordv_turn rfl (by go_simp) (by rfl) (fun W hW b K Q hK' => ?_) (fun u hu K hK' => ?_)
  · go_simp
    go_at_call 40
    refine (c1 W hW).mono ?_
    rintro x w' ⟨y, rfl, h1⟩
    exact hK' y w' h1
  obtain ⟨ro, rc, rfl⟩ : ∃ ro rc, u = .agg #[.int .i64 own, .bool true, .slice ro n rc] := by
    obtain ⟨W', hW'⟩ := hu
    exact s1 u W' hW'
  clear hu c1 s1
  go_simp
  refine hK' _ ?_
  clear hK' K
  refine ordv_turn rfl (by go_simp) (by rfl) (fun W hW b K Q hK' => ?_) (fun u hu K hK' => ?_)
  · go_simp
    go_at_call 33
    refine (c2 _ W hW).mono ?_
    rintro x w' ⟨y, rfl, h1⟩
    exact hK' y w' h1
  obtain ⟨b9, rfl⟩ : ∃ b, u = .func (.func 59) #[] #[.pointer (some ⟨b, 0, none⟩), .pointer (some ⟨b + 1, 0, none⟩), .pointer (some ⟨b + 1 + 1, 0, none⟩)] := by
    obtain ⟨W', hW'⟩ := hu
    exact s2 _ u W' hW'
  clear hu c2 s2
  go_simp
  refine hK' _ ?_
  clear hK' K
  refine ordv_turn rfl (by go_simp) (by rfl) (fun W hW b K Q hK' => ?_) (fun u hu K hK' => ?_)
  · go_simp
    go_at_call 39
    refine (c3 _ _ W hW).mono ?_
    rintro x w' ⟨y, rfl, h1⟩
    exact hK' y w' h1
  obtain ⟨ro3, rn3, rc3, rfl⟩ : ∃ ro rn rc, u = .tuple #[.slice ro rn rc, .int .i64 (EE : Nat)] := by
    obtain ⟨W', hW'⟩ := hu
    exact s3 _ _ u W' hW'
  clear hu c3 s3
  go_simp
  refine hK' _ ?_
  clear hK' K
  refine ordv_read rfl (by go_simp) (by rfl) ?_
  apply Exists.intro
  refine ⟨fun s' W hW b K Q hK' => ?_, fun K hK' => ?_⟩
  · obtain ⟨q0, q1, q2⟩ := hK _ W hW
    go_simp
    exact hK' W hW
  go_simp
  refine hK' _ ?_
  clear hK' K
  refine ordv_read rfl (by go_simp) (by rfl) ?_
  apply Exists.intro
  refine ⟨fun s' W hW b K Q hK' => ?_, fun K hK' => ?_⟩
  · obtain ⟨q0, q1, q2⟩ := hK _ W hW
    go_simp
    exact hK' W hW
  go_simp
  refine hK' _ ?_
  clear hK' K
  refine ordv_read rfl (by go_simp) (by rfl) ?_
  apply Exists.intro
  refine ⟨fun s' W hW b K Q hK' => ?_, fun K hK' => ?_⟩
  · obtain ⟨q0, q1, q2⟩ := hK _ W hW
    go_simp
    exact hK' W hW
  go_simp
  refine hK' _ ?_
  clear hK' K
  refine ordv_read rfl (by go_simp) (by rfl) ?_
  apply Exists.intro
  refine ⟨fun s' W hW b K Q hK' => ?_, fun K hK' => ?_⟩
  · obtain ⟨q0, q1, q2⟩ := hK _ W hW
    go_simp
    exact hK' W hW
  go_simp
  refine hK' _ ?_
  clear hK' K
  refine ordv_nil ?_
  intro w5 hw5
  have HG : Hid _ := HF.out _ _ _ w5 hw5
  clear hK HF hw5
  go_wp2
  go_ret
  exact ⟨rfl, HG.out⟩
end Go.Proofs.YtokgihmigkplaaaGreat
namespace Go.Proofs.YtokgihmigkplaaaGreat
open Go.RowKit Go Go.Sort Go.Maps
def cnt (E : List En) (C : Nat → Ch) (P : En → Bool) : Nat := (E.map (fun e => if P e then (C e.b).2.2.length else 0)).sum
theorem mnew_any (mb : Nat) (m : Mg) (w : World) (F : Nat → Prop) (hM : MF w mb m F) : Calls Tryz.prog 16 #[.pointer (some ⟨mb, 0, none⟩)] w fun x w' => (∃ hb, x = .returned (.pointer (some ⟨hb, 0, none⟩)) ∧ w.heap.size ≤ hb ∧ HS w' hb mb m [] F 0) ∧ Tch (fun _ => False) w w' := by
  obtain ⟨w1, hw1⟩ : ∃ w1, w1 = w.alloc (.map #[] 0) := ⟨_, rfl⟩
  obtain ⟨w2, hw2⟩ : ∃ w2, w2 = w1.alloc (.cells #[.pointer (some ⟨mb, 0, none⟩), .map (some w.heap.size)] 98) := ⟨_, rfl⟩
  have t1 : Tch (fun _ => False) w w1 := by rw [hw1]; exact Tch.alloc _ _ _
  have t2 : Tch (fun _ => False) w1 w2 := by rw [hw2]; exact Tch.alloc _ _ _
  have hs1 : w1.heap.size = w.heap.size + 1 := by rw [hw1]; simp
  have hmap : w2.ownsMap Tryz.prog 3 mapElem w.heap.size 0 (.map []) := by
    have : w1.ownsMap Tryz.prog 3 mapElem w.heap.size 0 (.map []) := by rw [hw1]; exact World.ownsMap_made w Tryz.prog 3 mapElem
    exact ownsMap_tch this t2 (fun h => h)
  have hblk : w2.heap[w.heap.size + 1]? = some (.cells #[.pointer (some ⟨mb, 0, none⟩), .map (some w.heap.size)] 98 (0, 0)) := by rw [hw2, ← hs1]; exact alloc_new _ _
  have HH : Hid (HS w2 (w.heap.size + 1) mb m [] F 0) := by
    obtain ⟨σ0, hσ0⟩ : ∃ σ0 : Nat → Option Nat, σ0 = fun i => if i = w.heap.size ∨ i = w.heap.size + 1 then some (2 * (w.heap.size + 1) + 1) else none := ⟨_, rfl⟩
    have hFw : ∀ i, F i → i < w.heap.size := by obtain ⟨_, _, _, _, h5⟩ := hM; exact fun i hi => (h5 i hi).2
    refine ⟨w.heap.size, [], [], fun _ => (none, 0, []), σ0, ⟨hblk, by rw [hσ0]; simp, by rw [hσ0]; simp, ⟨_, hmap, fun k zd => rfl⟩, (fun p hp => by cases hp), (fun e he => by cases he), List.Pairwise.nil, List.Pairwise.nil, List.Pairwise.nil, List.Pairwise.nil, (fun e he => by cases he), fun i hi => ?_⟩, rfl, (fun e he => by cases he), ?_, fun i hi => ?_⟩
    · rw [hσ0] at hi
      have := blk_lt hblk
      by_cases e : i = w.heap.size ∨ i = w.heap.size + 1
      · omega
      · simp only [if_neg e] at hi; exact absurd rfl hi
    · refine (hM.fresh (t1.trans' t2)).mono (fun i hi => ?_)
      rcases hi with hi | hi
      · exact .inl hi
      · rw [hσ0] at hi
        have := blk_lt hblk
        by_cases e : i = w.heap.size ∨ i = w.heap.size + 1
        · exact .inr ⟨by omega, by omega⟩
        · simp only [if_neg e] at hi; exact absurd rfl hi
    · have := hFw i hi
      have hb := blk_lt hblk
      refine ⟨?_, by omega⟩
      rw [hσ0]
      exact if_neg (by omega)
  have HT : Hid (Tch (fun _ => False) w w2) := t1.trans' t2
  have Hw2 : Hid (w2 = (w.alloc (.map #[] 0)).alloc (.cells #[.pointer (some ⟨mb, 0, none⟩), .map (some w.heap.size)] 98)) := by show _ = _; rw [hw2, hw1]
  have hmm := @run_makeMap Tryz.prog
  clear hM hw1 hw2 t1 t2 hs1 hmap hblk
  go_enter Tryz.func16, Tryz.ntmps16
  go_wp2
  rw [← Hw2.out]
  go_ret
  exact ⟨⟨_, rfl, Nat.le_succ _, HH.out⟩, HT.out⟩
end Go.Proofs.YtokgihmigkplaaaGreat
namespace Go.Proofs.YtokgihmigkplaaaGreat
open Go.RowKit Go Go.Sort Go.Maps
theorem same_str (a b : List UInt8) : (Lit.string a).sameKey (.string b) = decide (a = b) := by
  by_cases h : a = b
  · subst h; simp [Lit.sameKey]
  · rw [sameKey_ne (by intro e; injection e with e; exact h e)]; simp [h]
theorem atB_fix {o : Option Nat} {y : DataW Unit} (h : ∀ zd, atB o zd = y) : ∃ b, o = some b := by
  cases o with
  | some b => exact ⟨b, rfl⟩
  | none =>
    have h1 := h (.lit (.int .i64 0))
    have h2 := h (.lit (.int .i64 1))
    rw [← h1] at h2
    simp [atB] at h2
section
variable {T : List (Int × Nat)} {E : List En}
theorem entE {D : DataW Unit} {k : Int} (hk : ∀ s zd, D.atKey (.string s) zd = atB (lkE E k s) zd) {key v : Value} {kl : Lit} {y : DataW Unit × List MemPlace} (hkey : keyOf Tryz.prog 9 key = some kl) (hv : ptrElem v = some y) (hat : ∀ zd, D.atKey kl zd = y.1) : ∃ e, kl = .string e.s ∧ e ∈ E ∧ e.k = k ∧ v = .pointer (some ⟨e.b, 0, none⟩) := by
  obtain ⟨S, _, rfl, _⟩ := WideMaps.string_of_keyOf Tryz.underlying9 hkey
  have h0 : ∀ zd, atB (lkE E k S.data.toList) zd = y.1 := fun zd => (hk _ zd).symm.trans (hat zd)
  obtain ⟨b, hb⟩ := atB_fix h0
  refine ⟨⟨k, S.data.toList, b⟩, rfl, lkE_mem hb, rfl, ?_⟩
  rw [ptrElem_inv hv (o := some b) (by rw [← h0 (.lit (.int .i64 (-1))), hb])]
  rfl
end
theorem ranges_no {w w' : World} {k : TypeId} {R : Value → Option (DataW Unit × List MemPlace)} {b r n cnt : Nat} {D : DataW Unit} {left : Lit → Bool} (h : w.ranges Tryz.prog k R b r n D left cnt) (t : Tch (fun _ => False) w w') : w'.ranges Tryz.prog k R b r n D left cnt := h.kept (row := none) ⟨t.os, t.tape, t.output, t.size, fun i hi _ => t.block i hi (fun h => h)⟩ (by simp) (by simp)
theorem tch_next {w w1 w2 : World} {r : Nat} (h : Tch (fun _ => False) w w1) (hr : w.heap.size ≤ r) (hg : w1.grownBy w2 (some r)) : Tch (fun _ => False) w w2 := tch_new h hr (Tch.of_grown hg (fun g e => by cases e; rfl))
theorem tch_range {w w1 : World} (hg : w.grownBy w1 none) : Tch (fun _ => False) w w1 := Tch.of_grown hg (fun g e => by cases e)
end Go.Proofs.YtokgihmigkplaaaGreat
