/- ValueRows: rows that come out of Decode. -/
import Derived.Test.YtnjbkkccofjmgaaDoorVRows1
import Derived.Test.YtnjbkkccofjmgaaDoorVOwn2
namespace Go.Proofs.YtnjbkkccofjmgaaDoor
open Go.RowKit Go.Sort

set_option maxHeartbeats 2000000 in
set_option maxRecDepth 100000 in
theorem lsame_any (xs ys : List Val) (ao bo : Option Addr) (ca cb : Nat) (w : World) (ha : RowOf w ao xs) (hb : RowOf w bo ys) (h1 : xs.length ≤ 9223372036854775807) :
    Calls Tryd.prog 26 #[.slice ao xs.length ca, .slice bo ys.length cb] w fun x w' => EqOut xs ys w x w' := by
  by_cases hl : xs.length = ys.length
  · have HA : Hid (∀ m, RowOf (w.drewN m) ao xs) := fun m => ha.no ((Tch.refl _ w).drewN m)
    have HB : Hid (∀ m, RowOf (w.drewN m) bo ys) := fun m => hb.no ((Tch.refl _ w).drewN m)
    have HL : Hid (xs.length = ys.length) := hl
    obtain ⟨n, hn⟩ : ∃ n, n = xs.length := ⟨_, rfl⟩
    have hn2 : n = ys.length := by omega
    rw [← hn, ← hn2]
    have HN : Hid (n = xs.length ∧ n = ys.length) := ⟨hn, hn2⟩
    rw [← hn] at h1
    clear ha hb hl hn hn2
    go_enter Tryd.func26, Tryd.ntmps26
    go_wp2_with fail
    go_loopw [5] (fun i wr => ∃ (k m : Nat), i = .int .i64 k ∧ k ≤ n ∧ Hid (∀ j (h1 : j < xs.length) (h2 : j < ys.length), j < k → xs[j] = ys[j]) ∧ wr = w.drewN m) (fun i _ => n - (intOf i).toNat)
    case atStart => exact ⟨0, 0, rfl, by omega, fun j _ _ h => by omega, rfl⟩
    case round =>
      obtain ⟨k, m, rfl, hk, HE, hwr⟩ := hrel
      by_cases hlt : (k : Int) < n
      · have hA := HA.out m
        have hB := HB.out m
        rw [← hwr] at hA hB
        have hx : k < xs.length := by have := HN.out.1; omega
        have hy : k < ys.length := by have := HN.out.2; omega
        obtain ⟨ga, oa, rfl, hra⟩ := hA (by intro e; rw [e] at hx; simp at hx)
        obtain ⟨gb, ob, rfl, hrb⟩ := hB (by intro e; rw [e] at hy; simp at hy)
        obtain ⟨a0, a1, a2⟩ := hra k hx
        obtain ⟨b0, b1, b2⟩ := hrb k hy
        have HW : Hid (wr = w.drewN m) := hwr
        obtain ⟨u, hu⟩ : ∃ u, u = xs[k] := ⟨_, rfl⟩
        obtain ⟨v, hv⟩ : ∃ v, v = ys[k] := ⟨_, rfl⟩
        rw [← hu] at a0 a1 a2
        rw [← hv] at b0 b1 b2
        have HU : Hid (u = xs[k] ∧ v = ys[k]) := ⟨hu, hv⟩
        clear hA hB hra hrb hwr hu hv
        obtain ⟨d, hd1, hd⟩ := ne_val u v
        have HD : Hid (d = true ↔ u ≠ v) := hd1
        clear hd1
        cases d with
        | true =>
          go_wp2_with fail
          go_quiet (fail)
          go_wp2
          go_ret
          refine ⟨false, rfl, ⟨fun h => by simp at h, fun h => ?_⟩, m + nq, by rw [HW.out, World.drewN_drewN]⟩
          exact absurd (by rw [HU.out.1, HU.out.2]; subst h; rfl) (HD.out.1 (by trivial))
        | false =>
          have HE2 : Hid (∀ j (h1 : j < xs.length) (h2 : j < ys.length), j < k + 1 → xs[j] = ys[j]) := fun j h1 h2 hj => by
            rcases Nat.lt_or_ge j k with h | h
            · exact HE.out j h1 h2 h
            · obtain rfl : j = k := by omega
              rw [← HU.out.1, ← HU.out.2]
              exact Classical.byContradiction fun hne => by have := HD.out.2 hne; simp at this
          go_wp2_with fail
          go_quiet (fail)
          go_wp2
          go_roundw
          case rel => exact ⟨k + 1, m + nq, by go_num, by omega, HE2, by rw [HW.out, World.drewN_drewN]⟩
          case measure => simp [intOf]; omega
      · have HW : Hid (wr = w.drewN m) := hwr
        clear hwr
        go_wp2
        go_ret
        refine ⟨true, rfl, ⟨fun _ => ?_, fun _ => rfl⟩, m, HW.out⟩
        exact List.ext_getElem HL.out (fun j h1 h2 => HE.out j h1 h2 (by have := HN.out.1; omega))
  · have hl' : ((xs.length : Int) != ys.length) = true := by simp; omega
    clear ha hb
    go_enter Tryd.func26, Tryd.ntmps26
    go_wp2
    go_ret
    exact ⟨false, rfl, ⟨fun h => by simp at h, fun h => absurd (by rw [h]) hl⟩, 0, rfl⟩

theorem RowOf.at {W : World} {ro : Option Addr} {l : List Val} (h : RowOf W ro l) : ∃ g o, (l ≠ [] → ro = some ⟨g, o, none⟩) ∧ RowAt W g o l := by
  by_cases h0 : l = []
  · subst h0; exact ⟨0, 0, fun h => absurd rfl h, fun j hj => by simp at hj⟩
  · obtain ⟨g, o, h1, h2⟩ := h h0
    exact ⟨g, o, fun _ => h1, h2⟩
theorem renc_u (l : List Val) (ro : Option Addr) (c : Nat) (W : World) (hr : RowOf W ro l) (hi : ∀ v ∈ l, v.i64) (hl : l.length ≤ 9223372036854775807) :
    Calls Tryd.prog 22 #[.slice ro l.length c] W fun x w' => x = .returned (.tuple #[.string ⟨(encR l).1.toArray⟩, .int .i64 (encR l).2]) ∧ Tch (fun _ => False) W w' := by
  obtain ⟨g, o, h1, h2⟩ := hr.at
  exact rencode_any l ro g o c W h1 h2 hi hl
theorem enc_u (l : List Val) (ro : Option Addr) (c : Nat) (W : World) (hg : HE W) (hr : RowOf W ro l) (hi : ∀ v ∈ l, v.i64) (hl : l.length ≤ 9223372036854775807) :
    Calls Tryd.prog 23 #[.slice ro l.length c] W fun x w' => x = .returned (.tuple #[.string ⟨(encR l).1.toArray⟩, .int .i64 (encR l).2]) ∧ Tch (fun _ => False) W w' := by
  obtain ⟨g, o, h1, h2⟩ := hr.at
  exact encode_any l ro g o c W hg h1 h2 hi hl
/-- What both Decodes tell. -/
def dv (S : ByteArray) : List Val × Int := match decR S with
  | none => ([], 43)
  | some vs => (vs, 0)
theorem dv_len (S : ByteArray) : (dv S).1.length ≤ 8 := by
  unfold dv
  split
  · simp
  · rename_i vs h; exact (dec_enc h).2.1
/-- A row that has come out. -/
def RWi (W : World) (N : Nat) (v : Value) (S : ByteArray) : Prop := ∃ uo cu, v = .slice uo (dv S).1.length cu ∧ RowOf W uo (dv S).1 ∧ RO2 W N v (dv S).1.length
theorem RWi.tch {T : Nat → Prop} {W W' : World} {N : Nat} {v : Value} {S : ByteArray} (h : RWi W N v S) (t : Tch T W W') (hT : ∀ g, v.ownBlock = some g → ¬ T g) : RWi W' N v S := by
  obtain ⟨uo, cu, h1, h2, h3⟩ := h
  refine ⟨uo, cu, h1, h2.tch t (fun g o e => hT g (by rw [h1, e]; rfl)), h3.tch t hT⟩
theorem RO2.lt {W : World} {N n g : Nat} {v : Value} (h : RO2 W N v n) (e : v.ownBlock = some g) : N ≤ g ∧ g < W.heap.size := by
  obtain ⟨xs, h⟩ := h
  exact h.lt g e
theorem RO2.low {W : World} {N N' n : Nat} {v : Value} (h : RO2 W N v n) (hN : N' ≤ N) : RO2 W N' v n := by
  obtain ⟨xs, h1, h2⟩ := h
  refine ⟨xs, h1, ?_⟩
  rcases h2 with h2 | ⟨g, c, cur, hv, hb, hr⟩
  · exact Or.inl h2
  · exact Or.inr ⟨g, c, cur, hv, Nat.le_trans hN hb, hr⟩
theorem rdec_u (S : ByteArray) (w : World) (hS : S.size ≤ 281474976710656) :
    Calls Tryd.prog 24 #[.string S] w fun x w' => (∃ ro c, x = .returned (.tuple #[.slice ro (dv S).1.length c, .int .i64 (dv S).2]) ∧ RowOf w' ro (dv S).1) ∧ Tch (fun _ => False) w w' := by
  refine (rdecode_any S w hS).mono ?_
  rintro x w' ⟨h, t⟩
  refine ⟨?_, t⟩
  unfold RDecOut at h
  unfold dv
  split at h
  · rename_i hd; rw [hd]; exact ⟨none, 0, h, fun h => absurd rfl h⟩
  · rename_i vs hd; rw [hd]
    obtain ⟨ro, c, h1, h2, _⟩ := h
    exact ⟨ro, c, h1, h2⟩
theorem dec_u (S : ByteArray) (w : World) (hg : HE w) (hS : S.size ≤ 281474976710656) :
    Calls Tryd.prog 25 #[.string S] w fun x w' => (∃ uo cu, x = .returned (.tuple #[.slice uo (dv S).1.length cu, .int .i64 (dv S).2]) ∧ RWi w' w.heap.size (.slice uo (dv S).1.length cu) S) ∧ Tch (fun _ => False) w w' := by
  refine (decode_any S w hg hS).mono ?_
  rintro x w' ⟨h, t⟩
  refine ⟨?_, t⟩
  unfold DecOut at h
  have hd8 := dv_len S
  split at h
  · rename_i hd
    have e : dv S = ([], 43) := by unfold dv; rw [hd]
    rw [e]
    refine ⟨none, 0, h, none, 0, ?_, ?_, ?_⟩
    · rw [e]
    · rw [e]; exact fun h => absurd rfl h
    · rw [e]; exact ⟨[], rfl, Or.inl ⟨rfl, rfl⟩⟩
  · rename_i vs hd
    have e : dv S = (vs, 0) := by unfold dv; rw [hd]
    obtain ⟨R, h1, h2, h3, cur, h4, h5⟩ := h
    rw [e] at hd8 ⊢
    refine ⟨some ⟨R, 0, none⟩, vs.length, h2, some ⟨R, 0, none⟩, vs.length, ?_, ?_, ?_⟩
    · rw [e]
    · rw [e]; exact fun _ => ⟨R, 0, rfl, h3⟩
    · rw [e]; exact RO2.of h1 h4 (Nat.le_refl _) (by unfold maxLen; simp only at hd8; omega) h5
/-- The rows that have come out so far. -/
structure RWS (W : World) (N : Nat) (Ls : List Value) (rv : Value) (asked : Nat → ByteArray) : Prop where
  own : W.ownsRow N 36 1 rv Ls.length Ls
  rows : ∀ j (hj : j < Ls.length), RWi W N Ls[j] (asked j) ∧ ∀ g, Ls[j].ownBlock = some g → rv.ownBlock ≠ some g
  dist : ∀ i j (hi : i < Ls.length) (hj : j < Ls.length) g, i ≠ j → Ls[i].ownBlock = some g → Ls[j].ownBlock ≠ some g
theorem RWi.low {W : World} {N N' : Nat} {v : Value} {S : ByteArray} (h : RWi W N v S) (hN : N' ≤ N) : RWi W N' v S := by
  obtain ⟨uo, cu, h1, h2, h3⟩ := h
  exact ⟨uo, cu, h1, h2, h3.low hN⟩
theorem RWS.tch {W W' : World} {N : Nat} {Ls : List Value} {rv : Value} {asked : Nat → ByteArray} (h : RWS W N Ls rv asked) (t : Tch (fun _ => False) W W') : RWS W' N Ls rv asked :=
  ⟨own_tch h.own t (fun _ _ h => h), fun j hj => ⟨(h.rows j hj).1.tch t (fun _ _ h => h), (h.rows j hj).2⟩, h.dist⟩
theorem RWS.step {W W3 W4 w5 : World} {N : Nat} {Ls : List Value} {rv rv' u : Value} {asked : Nat → ByteArray} {p : Nat} (h : RWS W N Ls rv asked) (hp : Ls.length = p) (hN : N ≤ W.heap.size) (t3 : Tch (fun _ => False) W W3) (hu : RWi W3 W.heap.size u (asked p)) (t4 : Tch (fun _ => False) W3 W4) (hgr : W4.grownBy w5 rv.ownBlock) (hown : w5.ownsRow N 36 1 rv' (Ls.length + 1) (Ls ++ [u])) (hat : rv'.ownBlock = rv.ownBlock ∨ rv'.ownBlock = some W4.heap.size) :
    RWS w5 N (Ls ++ [u]) rv' asked := by
  have T := grown_at t4 hgr
  have h3 := h.tch t3
  have hulo : ∀ g, u.ownBlock = some g → W.heap.size ≤ g ∧ g < W3.heap.size := fun g e => by
    obtain ⟨uo, cu, h1, h2, h4⟩ := hu
    exact h4.lt e
  have hrvlt : ∀ g, rv.ownBlock = some g → g < W.heap.size := fun g e => (h.own.lt g e).2
  have hne : ∀ g, g < W3.heap.size → rv.ownBlock ≠ some g → rv'.ownBlock ≠ some g := fun g hg h1 h2 => by
    rcases hat with e | e
    · exact h1 (e ▸ h2)
    · rw [e] at h2; injection h2 with h2; have := t4.size; omega
  have hold : ∀ j (hj : j < Ls.length) g, Ls[j].ownBlock = some g → g < W.heap.size := fun j hj g e => by
    obtain ⟨uo, cu, h1, h2, h4⟩ := (h.rows j hj).1
    exact (h4.lt e).2
  refine ⟨by rw [List.length_append]; exact hown, fun j hj => ?_, fun i j hi hj g hij e1 e2 => ?_⟩
  · rw [List.length_append, List.length_singleton] at hj
    rcases Nat.lt_or_ge j Ls.length with hjl | hjl
    · rw [List.getElem_append_left hjl]
      exact ⟨(h3.rows j hjl).1.tch T (fun g e e2 => (h.rows j hjl).2 g e e2), fun g e => hne g (Nat.lt_of_lt_of_le (hold j hjl g e) t3.size) ((h.rows j hjl).2 g e)⟩
    · obtain rfl : j = Ls.length := by omega
      rw [List.getElem_append_right (Nat.le_refl _)]
      simp only [Nat.sub_self, List.getElem_cons_zero]
      have hr : ∀ g, u.ownBlock = some g → rv.ownBlock ≠ some g := fun g e e2 => by have := hulo g e; have := hrvlt g e2; omega
      rw [hp]
      exact ⟨(hu.tch T (fun g e e2 => hr g e e2)).low hN, fun g e => hne g (hulo g e).2 (hr g e)⟩
  · rw [List.length_append, List.length_singleton] at hi hj
    have key : ∀ k (hk : k < (Ls ++ [u]).length) g, (Ls ++ [u])[k].ownBlock = some g → (k < Ls.length ∧ g < W.heap.size) ∨ (k = Ls.length ∧ W.heap.size ≤ g) := fun k hk g e => by
      rw [List.length_append, List.length_singleton] at hk
      rcases Nat.lt_or_ge k Ls.length with hkl | hkl
      · rw [List.getElem_append_left hkl] at e
        exact Or.inl ⟨hkl, hold k hkl g e⟩
      · obtain rfl : k = Ls.length := by omega
        rw [List.getElem_append_right (Nat.le_refl _)] at e
        simp only [Nat.sub_self, List.getElem_cons_zero] at e
        exact Or.inr ⟨rfl, (hulo g e).1⟩
    rcases key i _ g e1 with ⟨k1, k2⟩ | ⟨k1, k2⟩ <;> rcases key j _ g e2 with ⟨k3, k4⟩ | ⟨k3, k4⟩
    · rw [List.getElem_append_left k1] at e1
      rw [List.getElem_append_left k3] at e2
      exact h.dist i j k1 k3 g hij e1 e2
    · omega
    · omega
    · omega
end Go.Proofs.YtnjbkkccofjmgaaDoor
