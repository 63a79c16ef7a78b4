/- Lists that come out: Clone, Open, surviving, Parts; Contains. -/
import Derived.Test.YtkokmgoplldcfaaKeeps
namespace Go.Proofs.Ytkokmgoplldcfaa
open Go.RowKit Go Go.Sort

theorem row_slice {w : World} {base : Nat} {t : TypeId} {sz n : Nat} {v : Value} {xs : List Value} (h : w.ownsRow base t sz v n xs) : ∃ ao c, v = .slice ao n c := by
  rcases h.2 with ⟨h1, h2⟩ | ⟨g, c, cur, h1, _⟩
  · exact ⟨none, 0, by rw [h1, h2]⟩
  · exact ⟨_, c, h1⟩
theorem row_ge {w : World} {base : Nat} {t : TypeId} {sz n : Nat} {v : Value} {xs : List Value} (h : w.ownsRow base t sz v n xs) {k : Nat} (hk : v.ownBlock = some k) : base ≤ k := (h.lt k hk).1
theorem own_low {W : World} {N N' sz n : Nat} {t : TypeId} {v : Value} {xs : List Value} (h : W.ownsRow N t sz v n xs) (hN : N' ≤ N) : W.ownsRow N' t sz v n xs := by
  obtain ⟨h1, h2⟩ := h
  refine ⟨h1, ?_⟩
  rcases h2 with h2 | ⟨g, c, cur, hv, hb, hr⟩
  · exact Or.inl h2
  · exact Or.inr ⟨g, c, cur, hv, Nat.le_trans hN hb, hr⟩
theorem grown_at {W W1 w1 : World} {row : Option Nat} (t : Tch (fun _ => False) W W1) (h : W1.grownBy w1 row) : Tch (fun i => row = some i) W w1 :=
  (t.mono (fun _ _ h => h.elim)).trans' ⟨h.os, h.tape, h.output, h.size, fun k hk hn => h.block k hk (fun e => hn e.symm)⟩
theorem add_plain (b o j : Nat) : (⟨b, o, none⟩ : Addr).add j = ⟨b, o + j, none⟩ := by unfold Addr.add; split <;> simp_all

theorem info_int : (Try.prog.info? 3).map (fun i => (i.zero, i.size, i.bytes)) = some (some (.int .i64 0), 1, 8) := by kernel_rfl
theorem ieq_nil_no (ad : Addr) (n c : Nat) (w : World) : (binOp .eql 29 (.slice (some ad) n c) (.slice none 0 0)).run Try.prog w = .ok (.bool false) w := Lib.run_eql_slice_some_nil w ad n c Try.underlying29
theorem ieq_nil_yes (w : World) : (binOp .eql 29 (.slice none 0 0) (.slice none 0 0)).run Try.prog w = .ok (.bool true) w := Lib.run_eql_slice_nil_nil w 0 0 Try.underlying29
theorem icl_one (l : List Nat) : ∀ u ∈ icl l, u.oneCell' = true := fun u hu => by
  unfold icl at hu
  rw [List.mem_map] at hu
  obtain ⟨a, _, rfl⟩ := hu
  rfl

set_option maxHeartbeats 1000000 in
set_option maxRecDepth 100000 in
theorem sclone_any (l : List Nat) (v : Value) (base : Nat) (w : World) (h : w.ownsRow base 3 1 v l.length (icl l)) (hlen : l.length * 8 ≤ 140737488351232) :
    Calls Try.prog 59 #[v] w fun x w' => (∃ v', x = .returned v' ∧ w'.ownsRow w.heap.size 3 1 v' l.length (icl l)) ∧ Tch (fun _ => False) w w' := by
  rcases h.2 with ⟨rfl, h0⟩ | ⟨g, c, cur, rfl, _, hg, _, _, _, _⟩
  · obtain rfl : l = [] := List.length_eq_zero_iff.1 h0
    have he := ieq_nil_yes
    clear h
    go_enter Try.func59, Try.ntmps59
    go_wp2
    go_ret
    exact ⟨⟨_, rfl, rfl, Or.inl ⟨rfl, rfl⟩⟩, Tch.refl _ _⟩
  · obtain ⟨i0, hi, hz0, hz1, hz2⟩ := info_parts info_int
    have he := ieq_nil_no ⟨g, 0, none⟩ l.length c
    obtain ⟨w0, hw0⟩ : ∃ w0, w0 = w.alloc (.cells #[] 3) := ⟨_, rfl⟩
    have t0 : Tch (fun _ => False) w w0 := by rw [hw0]; exact Tch.alloc _ _ _
    have hown : w0.ownsRow w.heap.size 3 1 (.slice (some ⟨w.heap.size, 0, none⟩) 0 0) 0 [] := ⟨rfl, Or.inr ⟨w.heap.size, 0, #[], rfl, Nat.le_refl _, by rw [hw0]; exact alloc_new _ _, Nat.le_refl _, by unfold maxLen; omega, rfl, rfl⟩⟩
    have Hcl : Hid (∀ j u, (icl l)[j]? = some u → w0.cell? ((⟨g, 0, none⟩ : Addr).add j) = some u) := fun j u hu => (own_tch h t0 (fun _ _ h => h)).cells (g := g) rfl j u hu
    have Hown : Hid (w0.ownsRow w.heap.size 3 1 (.slice (some ⟨w.heap.size, 0, none⟩) 0 0) 0 []) := hown
    have Hw0 : Hid _ := hw0
    have Hsz : Hid (w.heap.size ≤ w0.heap.size) := t0.size
    clear h hown hw0 hg
    go_enter Try.func59, Try.ntmps59
    go_wp2_with (at_builtin; have hw0 := Hw0.out; rw [← hw0]; clear hw0; refine wpList_append_keeps _ rfl _ _ 29 rfl w.heap.size 3 i0 (.int .i64 0) 1 8 Try.underlying29 hi hz0 hz1 hz2 rfl (by decide) (.slice (some ⟨w.heap.size, 0, none⟩) 0 0) 0 [] rfl Hown.out ⟨g, 0, none⟩ l.length c (icl l) rfl (by rw [icl_len]; omega) Hcl.out (icl_one l) (by unfold maxLen; omega) (by omega) Hsz.out ?_; intro v1 w1 hown1 hgr1 hat1 _; have HF : Hid (w1.ownsRow w.heap.size 3 1 v1 l.length (icl l)) := (by have h1 := hown1; rw [Nat.zero_add, List.nil_append] at h1; exact h1); have HT : Hid (Tch (fun _ => False) w w1) := (t0.trans (grown_at (Tch.refl (fun _ => False) w0) hgr1) (fun i hi e => by have := row_ge Hown.out e; omega)); obtain ⟨o1, c1, hv1⟩ := row_slice HF.out; subst hv1)
    go_ret
    exact ⟨⟨_, rfl, HF.out⟩, HT.out⟩

theorem on_le {m : Mg} (h : Wf m) : m.on.length ≤ 2147483648 := by
  have hu : m.on.Pairwise (· < ·) := by
    rw [h.on, List.pairwise_map]
    exact (h.up.filter _).imp (fun h => h)
  have hb : ∀ x ∈ m.on, x < m.nx := fun x hx => by
    rw [h.on] at hx
    obtain ⟨t, ht, rfl⟩ := List.mem_map.1 hx
    exact (h.lo t (List.mem_filter.1 ht).1).2
  have key : ∀ (l : List Nat) (k n : Nat), l.Pairwise (· < ·) → (∀ x ∈ l, k ≤ x ∧ x < n) → l.length ≤ n - k := by
    intro l
    induction l with
    | nil => intro k n _ _; simp
    | cons a r ih =>
      intro k n hp hx
      have h1 := hx a (by simp)
      have h2 := ih (a + 1) n (List.pairwise_cons.1 hp).2 (fun x hx' => ⟨(List.pairwise_cons.1 hp).1 x hx', (hx x (by simp [hx'])).2⟩)
      simp only [List.length_cons]; omega
  have := key m.on 0 m.nx hu (fun x hx => ⟨Nat.zero_le _, hb x hx⟩)
  have := h.n2
  omega

theorem open_any (b : Nat) (m : Mg) (σ : Nat → Option Nat) (mb : Nat) (bl : Nat → Nat) (w : World) (h : MG w b m σ mb bl) :
    Calls Try.prog 37 #[.pointer (some ⟨b, 0, none⟩)] w fun x w' => (∃ v', x = .returned v' ∧ w'.ownsRow w.heap.size 3 1 v' m.on.length (icl m.on)) ∧ Tch (fun _ => False) w w' := by
  obtain ⟨ov, h1, h2, _⟩ := h.blk
  have c2 : w.cell? ⟨b, 2, none⟩ = some ov := by rw [blk_cell h1]; rfl
  have hl := on_le h.wf
  have q := sclone_any m.on ov 0 w h2 (by omega)
  clear h h1 h2 hl
  go_enter Try.func37, Try.ntmps37
  go_wp2_with fail
  refine q.mono ?_
  rintro x w1 ⟨⟨v', rfl, hv⟩, t1⟩
  clear q
  obtain ⟨o1, c1, rfl⟩ := row_slice hv
  have HV : Hid _ := hv
  have HT : Hid _ := t1
  clear hv t1
  go_wp2
  go_ret
  exact ⟨⟨_, rfl, HV.out⟩, HT.out⟩

/-- A list for reading. -/
def IR (w : World) (ao : Option Addr) (l : List Int) : Prop := ∀ k n, l[k]? = some n → ∃ g o, ao = some ⟨g, o, none⟩ ∧ w.cell? ⟨g, o + k, none⟩ = some (.int .i64 n)
theorem IR.no {w w' : World} {ao : Option Addr} {l : List Int} (h : IR w ao l) (t : Tch (fun _ => False) w w') : IR w' ao l := fun k n hk => by
  obtain ⟨g, o, e, hc⟩ := h k n hk
  exact ⟨g, o, e, by rw [t.cell (p := ⟨g, o + k, none⟩) (cell_lt hc) (fun h => h)]; exact hc⟩

set_option maxHeartbeats 1000000 in
theorem index_any (l : List Int) (ao : Option Addr) (c : Nat) (x : Int) (w : World) (h : IR w ao l) (hl : l.length ≤ 9223372036854775807) :
    Calls Try.prog 60 #[.slice ao l.length c, .int .i64 x] w fun y w' => (∃ r : Int, y = .returned (.int .i64 r) ∧ (0 ≤ r ↔ x ∈ l)) ∧ w' = w := by
  obtain ⟨n, hn⟩ : ∃ n, n = l.length := ⟨_, rfl⟩
  rw [← hn] at hl ⊢
  have Hn : Hid (n = l.length) := hn
  have HI : Hid (IR w ao l) := h
  clear h hn
  go_enter Try.func60, Try.ntmps60
  go_wp2_with fail
  go_loopw [8] (fun i wr => ∃ k : Nat, i = .int .i64 k ∧ k ≤ n ∧ wr = w ∧ Hid (∀ j y, j < k → l[j]? = some y → y ≠ x)) (fun i _ => n - (intOf i).toNat)
  case atStart => exact ⟨0, rfl, by omega, rfl, fun _ _ h => by omega⟩
  case round =>
    obtain ⟨k, rfl, hk, hwr, HK⟩ := hrel
    subst hwr
    by_cases hlt : (k : Int) < n
    · have hkl : k < l.length := by have := Hn.out; omega
      obtain ⟨y, hy⟩ : ∃ y, l[k]? = some y := ⟨_, List.getElem?_eq_getElem hkl⟩
      obtain ⟨g, o, rfl, c2⟩ := HI.out k y hy
      by_cases he : x = y
      · have HE : Hid ((0 : Int) ≤ k ↔ x ∈ l) := ⟨fun _ => by rw [he]; exact List.mem_of_getElem? hy, fun _ => by omega⟩
        subst he
        clear hy
        go_wp2_with fail
        go_ret
        exact ⟨⟨_, rfl, HE.out⟩, rfl⟩
      · have HE : Hid (∀ j y, j < k + 1 → l[j]? = some y → y ≠ x) := fun j y' hj hy' => by
          rcases Nat.lt_or_ge j k with h1 | h1
          · exact HK.out j y' h1 hy'
          · obtain rfl : j = k := by omega
            rw [hy] at hy'
            injection hy' with e
            subst e
            exact fun e => he e.symm
        have hne : (x == y) = false := by simp [he]
        clear hy
        go_wp2_with fail
        go_roundw
        case rel => exact ⟨k + 1, by go_num, by omega, trivial, HE⟩
        case measure => simp [intOf]; omega
    · have HE : Hid ((0 : Int) ≤ -1 ↔ x ∈ l) := ⟨fun h => by omega, fun hm => by
        obtain ⟨j, hj⟩ := List.mem_iff_getElem?.1 hm
        have hjl := (List.getElem?_eq_some_iff.1 hj).1
        exact absurd rfl (HK.out j x (by have := Hn.out; omega) hj)⟩
      go_wp2_with fail
      go_ret
      exact ⟨⟨_, rfl, HE.out⟩, rfl⟩
theorem contains_any (l : List Int) (ao : Option Addr) (c : Nat) (x : Int) (w : World) (h : IR w ao l) (hl : l.length ≤ 9223372036854775807) :
    Calls Try.prog 39 #[.slice ao l.length c, .int .i64 x] w fun y w' => y = .returned (.bool (decide (x ∈ l))) ∧ w' = w := by
  have q := index_any l ao c x w h hl
  obtain ⟨n, hn⟩ : ∃ n, n = l.length := ⟨_, rfl⟩
  rw [← hn] at q ⊢
  clear h hl hn
  go_enter Try.func39, Try.ntmps39
  go_wp2_with fail
  refine q.mono ?_
  rintro y w1 ⟨⟨r, rfl, hr⟩, hw⟩
  subst hw
  have e : decide (0 ≤ r) = decide (x ∈ l) := decide_eq_decide.2 hr
  have HE : Hid _ := e
  clear q hr e
  go_wp2
  go_ret
  refine ⟨?_, rfl⟩
  rw [← HE.out]; rfl
end Go.Proofs.Ytkokmgoplldcfaa
