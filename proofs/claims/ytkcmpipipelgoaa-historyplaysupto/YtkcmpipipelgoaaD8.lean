import Derived.Test.YtkcmpipipelgoaaD3
/- The document's ids. -/
namespace Go.Proofs.Ytkcmpipipelgoaa
open Go.RowKit Go
set_option maxRecDepth 100000

/-- The numbers of notes, rising. -/
def IdL (l : List Int) (L : List Dn) : Prop := l.Pairwise (fun a b => a < b) ∧ (∀ y, y ∈ l ↔ ∃ n ∈ L, n.i = y) ∧ l.length ≤ L.length
theorem idl_nil : IdL [] [] := ⟨.nil, fun y => ⟨(fun h => by cases h), (fun ⟨n, h, _⟩ => by cases h)⟩, Nat.le_refl _⟩
theorem idl_same {l : List Int} {L : List Dn} (h : IdL l L) (d : Dn) {q : Nat} (hm : l[q]? = some d.i) : IdL l (L ++ [d]) := by
  refine ⟨h.1, fun y => ⟨fun hy => ?_, fun ⟨n, hn, e⟩ => ?_⟩, by rw [List.length_append]; have := h.2.2; omega⟩
  · obtain ⟨n, hn, e⟩ := (h.2.1 y).1 hy
    exact ⟨n, List.mem_append_left _ hn, e⟩
  · rcases List.mem_append.1 hn with h1 | h1
    · exact (h.2.1 y).2 ⟨n, h1, e⟩
    · rw [List.mem_singleton.1 h1] at e
      rw [← e]
      exact List.mem_of_getElem? hm
theorem idl_ins {l : List Int} {L : List Dn} (h : IdL l L) (d : Dn) {q : Nat} (h1 : ∀ j y, j < q → l[j]? = some y → y < d.i) (h2 : ∀ y, l[q]? = some y → d.i < y) : IdL (l.take q ++ d.i :: l.drop q) (L ++ [d]) := by
  have hT : ∀ y ∈ l.take q, y < d.i := fun y hy => by
    obtain ⟨j, hj, e⟩ := List.getElem_of_mem hy
    rw [List.length_take] at hj
    rw [List.getElem_take] at e
    exact h1 j y (by omega) (by rw [List.getElem?_eq_getElem (by omega), e])
  have hD : ∀ y ∈ l.drop q, d.i < y := fun y hy => by
    obtain ⟨j, hj, e⟩ := List.getElem_of_mem hy
    rw [List.length_drop] at hj
    rw [List.getElem_drop] at e
    have hq : d.i < l[q]'(by omega) := h2 _ (List.getElem?_eq_getElem (by omega))
    rcases Nat.eq_zero_or_pos j with h0 | h0
    · subst h0
      rw [← e]
      exact hq
    · have := List.pairwise_iff_getElem.1 h.1 q (q + j) (by omega) (by omega) (by omega)
      rw [← e]
      omega
  refine ⟨List.pairwise_append.2 ⟨h.1.sublist (List.take_sublist _ _), List.pairwise_cons.2 ⟨hD, h.1.sublist (List.drop_sublist _ _)⟩, fun a ha c hc => ?_⟩, fun y => ?_, ?_⟩
  · rcases List.mem_cons.1 hc with e | e
    · rw [e]; exact hT a ha
    · have := hT a ha
      have := hD c e
      omega
  · have hl : y ∈ l ↔ y ∈ l.take q ∨ y ∈ l.drop q := by rw [← List.mem_append, List.take_append_drop]
    rw [List.mem_append, List.mem_cons]
    constructor
    · intro hy
      rcases hy with hy | hy | hy
      · obtain ⟨n, hn, e⟩ := (h.2.1 y).1 (hl.2 (.inl hy))
        exact ⟨n, List.mem_append_left _ hn, e⟩
      · exact ⟨d, List.mem_append_right _ (List.mem_singleton.2 rfl), hy.symm⟩
      · obtain ⟨n, hn, e⟩ := (h.2.1 y).1 (hl.2 (.inr hy))
        exact ⟨n, List.mem_append_left _ hn, e⟩
    · rintro ⟨n, hn, e⟩
      rcases List.mem_append.1 hn with hn | hn
      · rcases hl.1 ((h.2.1 y).2 ⟨n, hn, e⟩) with h3 | h3
        · exact .inl h3
        · exact .inr (.inr h3)
      · rw [List.mem_singleton.1 hn] at e
        exact .inr (.inl e.symm)
  · have := h.2.2
    simp only [List.length_append, List.length_cons, List.length_take, List.length_drop, List.length_nil]
    omega
theorem info_i : (Try.prog.info? 3).map (fun i => (i.zero, i.size, i.bytes)) = some (some (.int .i64 0), 1, 8) := by kernel_rfl
theorem encZ_one (l : List Int) : ∀ u ∈ l.map encZ, u.oneCell' = true := fun u hu => by
  obtain ⟨a, _, rfl⟩ := List.mem_map.1 hu
  rfl
theorem ints_app {w : World} {N : Nat} {o : Option Addr} {n c : Nat} {l : List Int} (h : w.ownsRow N 3 1 (.slice o n c) n (l.map encZ)) (p : Addr) (k kc : Nat) (l2 : List Int) (hk : l2.length = k) (hc : ∀ j u, (l2.map encZ)[j]? = some u → w.cell? (p.add j) = some u) (hb : N ≤ w.heap.size) (hl : n + k ≤ 4398046511104) :
    ∃ o' c' w', (Builtin.append_ #[47, 47] 47 #[.slice o n c, .slice (some p) k kc]).run Try.prog w = .ok (.slice o' (n + k) c') w' ∧ w'.ownsRow N 3 1 (.slice o' (n + k) c') (n + k) ((l ++ l2).map encZ) ∧ Tch (fun g => ob o = some g) w w' ∧ (ob o' = ob o ∨ ob o' = some w.heap.size) := by
  obtain ⟨i0, hi0, hz0, hz1, hz2⟩ := info_parts info_i
  obtain ⟨v7, w7, hr7, hown7, hgr7, _, hat7⟩ := run_append_own_at (P := Try.prog) w N 47 47 3 i0 _ 1 8 Try.underlying47 hi0 hz0 hz1 hz2 rfl (by decide) _ _ _ h p k kc (l2.map encZ) (by rw [List.length_map, hk]; omega) hc (encZ_one l2) (by unfold maxLen; omega) (by omega) hb
  obtain ⟨o7, c7, rfl⟩ := row_slice hown7
  refine ⟨o7, c7, w7, hr7, by rw [List.map_append]; exact hown7, ?_, by rw [ob_eq, ob_eq] at hat7; exact hat7⟩
  have t7 : Tch (fun g => (Value.slice o n c).ownBlock = some g) w w7 := Tch.of_grown hgr7 (fun g e => e)
  exact t7.mono (fun g _ e => by rw [ob_eq] at e; exact e)
/-- A number is laid into a list of numbers, whose list is a new one. -/
theorem ins_runs {w : World} {N g n c : Nat} {l : List Int} (h : w.ownsRow N 3 1 (.slice (some ⟨g, 0, none⟩) n c) n (l.map encZ)) (hn : n = l.length) (hn0 : 0 < n) (i : Int) (q : Nat) (hq : q ≤ n) (hb : N ≤ w.heap.size) (hl : n ≤ 1099511627776) (c1 c3 : Nat) (p3 : Addr) (hp : q < n → p3 = ⟨g, q, none⟩) :
    ∃ o1 k1 w1 o2 k2 w2 o3 k3 w3, (Builtin.append_ #[47, 47] 47 #[.slice none 0 0, .slice (some ⟨g, 0, none⟩) q c1]).run Try.prog w = .ok (.slice o1 q k1) w1
      ∧ (Builtin.append_ #[47, 47] 47 #[.slice o1 q k1, .slice (some ⟨w1.heap.size, 0, none⟩) 1 1]).run Try.prog (w1.alloc (.cells #[.int .i64 i] 3)) = .ok (.slice o2 (q + 1) k2) w2
      ∧ (Builtin.append_ #[47, 47] 47 #[.slice o2 (q + 1) k2, .slice (some p3) (n - q) c3]).run Try.prog w2 = .ok (.slice o3 (n + 1) k3) w3
      ∧ w3.ownsRow N 3 1 (.slice o3 (n + 1) k3) (n + 1) ((l.take q ++ i :: l.drop q).map encZ) ∧ Tch (fun _ => False) w w1 ∧ Tch (fun _ => False) w w3 := by
  obtain ⟨g', e, hgl, hat'⟩ := own_at h hn0
  injection e with e
  injection e with e
  subst e
  have hat : ∀ j u, (l.map encZ)[j]? = some u → w.cell? ⟨g, j, none⟩ = some u := fun j u hu => by
    have := hat' j u hu
    rwa [Nat.zero_add] at this
  have hnil : w.ownsRow w.heap.size 3 1 (.slice none 0 0) 0 (([] : List Int).map encZ) := World.ownsRow_nil _ _ _ _
  obtain ⟨o1, k1, w1, hr1, ho1, t1, ha1⟩ := ints_app hnil ⟨g, 0, none⟩ q c1 (l.take q) (by rw [List.length_take]; omega) (fun j u hu => by
    rw [add_plain, Nat.zero_add]
    refine hat j u ?_
    rw [List.map_take, List.getElem?_take] at hu
    split at hu
    · exact hu
    · cases hu) (Nat.le_refl _) (by omega)
  rw [Nat.zero_add, List.nil_append] at ho1
  rw [Nat.zero_add] at hr1
  have t1' : Tch (fun _ => False) w w1 := t1.mono (fun g _ e => by cases e)
  have ta : Tch (fun _ => False) w1 (w1.alloc (.cells #[.int .i64 i] 3)) := Tch.alloc _ _ _
  have hba : (w1.alloc (.cells #[.int .i64 i] 3)).heap[w1.heap.size]? = some (.cells #[.int .i64 i] 3 (0, 0)) := alloc_new _ _
  obtain ⟨o2, k2, w2, hr2, ho2, t2, ha2⟩ := ints_app (own_tch ho1 ta (fun _ _ e => e)) ⟨w1.heap.size, 0, none⟩ 1 1 [i] rfl (fun j u hu => by
    rw [add_plain, Nat.zero_add, blk_cell hba]
    cases j with
    | zero => simpa using hu
    | succ j => simp at hu) (by have := t1'.size; have := ta.size; omega) (by omega)
  have t2' : Tch (fun _ => False) w w2 := (t1'.trans' ta).trans t2 (fun g' hg' e => by
    have := (ho1.lt g' (by rw [ob_eq]; exact e)).1
    omega)
  obtain ⟨o3, k3, w3, hr3, ho3, t3, ha3⟩ := ints_app ho2 p3 (n - q) c3 (l.drop q) (by rw [List.length_drop]; omega) (fun j u hu => by
    have hj := (List.getElem?_eq_some_iff.1 hu).1
    rw [List.length_map, List.length_drop] at hj
    rw [hp (by omega), add_plain]
    have hz := hat (q + j) u (by rw [List.map_drop, List.getElem?_drop] at hu; exact hu)
    exact (t2'.cell (p := ⟨g, q + j, none⟩) (cell_lt hz) (fun e => e)).trans hz) (by have := t2'.size; omega) (by omega)
  have e3 : q + 1 + (n - q) = n + 1 := by omega
  rw [e3] at hr3 ho3
  refine ⟨o1, k1, w1, o2, k2, w2, o3, k3, w3, hr1, hr2, hr3, ?_, t1', t2'.trans t3 (fun g' hg' e => ?_)⟩
  · have e4 : l.take q ++ [i] ++ l.drop q = l.take q ++ i :: l.drop q := by simp
    rw [e4] at ho3
    exact own_low ho3 hb
  · have := (ho2.lt g' (by rw [ob_eq]; exact e)).1
    omega
end Go.Proofs.Ytkcmpipipelgoaa
/- The document's ids. -/
namespace Go.Proofs.Ytkcmpipipelgoaa
open Go.RowKit Go
set_option maxRecDepth 100000

set_option maxHeartbeats 4000000 in
theorem dids_f {w : World} {F : Nat → Prop} {b : Nat} {h : Dh} (H : DF w F b h) (hl : h.L.length ≤ 1099511627776) :
    Calls Try.prog 52 #[.pointer (some ⟨b, 0, none⟩)] w fun r w' => ∃ v, r = .returned v ∧ ∃ ids, IdL ids h.L ∧ w'.ownsRow w.heap.size 3 1 v ids.length (ids.map encZ) ∧ Tch (fun _ => False) w w' := by
  obtain ⟨lo, lc, H⟩ := H
  have HH : Hid (DW w F b lo lc h) := H
  obtain ⟨m, hm⟩ : ∃ m, m = h.L.length := ⟨_, rfl⟩
  rw [← hm] at hl
  have Hm : Hid (m = h.L.length) := hm
  have HJ0 : Hid (IdL [] (h.L.take 0) ∧ w.ownsRow w.heap.size 3 1 (.slice none 0 0) 0 (([] : List Int).map encZ) ∧ Tch (fun _ => False) w w) := ⟨idl_nil, World.ownsRow_nil _ _ _ _, Tch.refl _ _⟩
  clear H hm
  go_enter Try.func52, Try.ntmps52
  go_wp2_with fail
  go_loopg [3, 4, 5, 6] m (fun kx s3 s4 s5 s6 wr => ∃ (k n : Nat) (o : Option Addr) (c : Nat) (l : List Int), s3 = .slice o n c ∧ s4 = .int .i64 k ∧ m - k ≤ kx ∧ k ≤ m ∧ n ≤ k ∧ Hid (n = l.length ∧ (n = 0 → o = none ∧ c = 0)) ∧ Hid (IdL l (h.L.take k) ∧ wr.ownsRow w.heap.size 3 1 (.slice o n c) n (l.map encZ) ∧ Tch (fun _ => False) w wr))
  case atStart => exact ⟨0, 0, none, 0, [], rfl, rfl, by omega, by omega, by omega, ⟨rfl, fun _ => ⟨rfl, rfl⟩⟩, HJ0⟩
  case round =>
    rename World => wr
    obtain ⟨k, n, o, c, l, rfl, rfl, hkx, hkl, hnk, Hn, J⟩ := hrel
    have HHr := HH.out.tch J.out.2.2 (fun _ _ e => e.elim)
    have c2 : wr.cell? ⟨b, 2, none⟩ = some (.slice lo m lc) := by rw [Hm.out]; exact blk_cell HHr.blk 2
    by_cases hk : k < m
    · have hk' : (k : Int) < (m : Int) := by omega
      obtain ⟨d, hd⟩ : ∃ d, h.L[k]? = some d := ⟨_, List.getElem?_eq_getElem (by have := Hm.out; omega)⟩
      obtain ⟨g, hg, hat⟩ := HHr.at hd
      have z1 : wr.cell? ⟨g, k * 8 + 1, none⟩ = some (.int .i64 d.i) := hat 1 _ rfl (by omega)
      rw [hg] at c2
      have HTk : Hid (h.L.take (k + 1) = h.L.take k ++ [d]) := by show _ = _; rw [List.take_add_one, hd]; rfl
      clear hd hg hat HHr
      obtain ⟨wV, hwV⟩ : ∃ wV, wV = wr := ⟨_, rfl⟩
      subst hwV
      have HCZ : Hid (∀ W, Tch (fun _ => False) wV W → W.cell? ⟨b, 2, none⟩ = some (.slice (some ⟨g, 0, none⟩) m lc) ∧ W.cell? ⟨g, k * 8 + 1, none⟩ = some (.int .i64 d.i)) := fun W tW => ⟨(tW.cell (p := ⟨b, 2, none⟩) (cell_lt c2) (fun e => e)).trans c2, (tW.cell (p := ⟨g, k * 8 + 1, none⟩) (cell_lt z1) (fun e => e)).trans z1⟩
      have HI0 : Hid (Tch (fun _ => False) wV wV ∧ ∀ j y, j < 0 → l[j]? = some y → y < d.i) := ⟨Tch.refl _ _, fun j y hj => by omega⟩
      have hn9 : n ≤ 9223372036854775807 := by omega
      go_wp2_with fail
      clear c2 z1
      go_loopg [5] n (fun kx2 s5 wi => ∃ (q : Nat), s5 = .int .i64 q ∧ n - q ≤ kx2 ∧ q ≤ n ∧ Hid (Tch (fun _ => False) wV wi ∧ ∀ j y, j < q → l[j]? = some y → y < d.i))
      case atStart => exact ⟨0, rfl, by omega, by omega, HI0⟩
      case round =>
        rename World => wi
        obtain ⟨q, rfl, hqx, hq, HI⟩ := hrel
        obtain ⟨c2, z1⟩ := HCZ.out wi HI.out.1
        by_cases hqn : q < n
        · have hqn' : (q : Int) < (n : Int) := by omega
          have hn0 : 0 < n := by omega
          obtain ⟨gl, hgl, hgs, hat⟩ := own_at J.out.2.1 hn0
          subst hgl
          obtain ⟨y, hy⟩ : ∃ y, l[q]? = some y := ⟨_, List.getElem?_eq_getElem (by have := Hn.out.1; omega)⟩
          have yq : wi.cell? ⟨gl, q, none⟩ = some (.int .i64 y) := by
            have := hat q (encZ y) (by rw [List.getElem?_map, hy]; rfl)
            rw [Nat.zero_add] at this
            exact (HI.out.1.cell (p := ⟨gl, q, none⟩) (cell_lt this) (fun e => e)).trans this
          have Hy : Hid (l[q]? = some y) := hy
          clear hat hy hgs
          by_cases hlt : y < d.i
          · have HI' : Hid (∀ j y, j < q + 1 → l[j]? = some y → y < d.i) := fun j u hj hu => by
              rcases Nat.lt_or_ge j q with e | e
              · exact HI.out.2 j u e hu
              · obtain rfl : j = q := by omega
                rw [Hy.out] at hu
                injection hu with hu
                omega
            go_wp2_with fail
            go_quiet (fail)
            have HT5 : Hid (Tch (fun _ => False) wV (wi.drewN nq)) := HI.out.1.drewN nq
            go_wp2_with fail
            go_roundg (n - (q + 1))
            case measure => omega
            case rel => exact ⟨q + 1, rfl, by omega, by omega, ⟨HT5.out, HI'.out⟩⟩
          · go_wp2_with fail
            go_quiet (fail)
            have HT4 : Hid (Tch (fun _ => False) wV (wi.drewN nq)) := HI.out.1.drewN nq
            have yq2 : (wi.drewN nq).cell? ⟨gl, q, none⟩ = some (.int .i64 y) := (((Tch.refl (fun _ => False) wi).drewN nq).cell (p := ⟨gl, q, none⟩) (cell_lt yq) (fun e => e)).trans yq
            obtain ⟨w4, hw4⟩ : ∃ w4, w4 = wi.drewN nq := ⟨_, rfl⟩
            rw [← hw4] at HT4 yq2 ⊢
            clear hw4 yq c2 z1
            obtain ⟨c2, z1⟩ := HCZ.out w4 HT4.out
            by_cases heq : y = d.i
            · have hb : (y == d.i) = true := by simp [heq]
              have HJs : Hid (IdL l (h.L.take (k + 1))) := by show IdL _ _; rw [HTk.out]; exact idl_same J.out.1 d (by rw [Hy.out, heq])
              clear heq
              go_wp2_with fail
              go_quiet (fail)
              have HT5 : Hid (Tch (fun _ => False) wV (w4.drewN nq)) := HT4.out.drewN nq
              go_wp2_with fail
              go_roundg (m - (k + 1))
              case measure => omega
              case rel => exact ⟨k + 1, n, _, c, l, rfl, rfl, by omega, by omega, by omega, Hn, ⟨HJs.out, own_tch J.out.2.1 HT5.out (fun _ _ e => e), J.out.2.2.trans' HT5.out⟩⟩
            · have hb : (y == d.i) = false := by simp [heq]
              have HQ : Hid (∀ u, l[q]? = some u → d.i < u) := fun u hu => by rw [Hy.out] at hu; injection hu with hu; omega
              clear heq
              go_wp2_with fail
              go_quiet (fail)
              have HT5 : Hid (Tch (fun _ => False) wV (w4.drewN nq)) := HT4.out.drewN nq
              obtain ⟨w5, hw5⟩ : ∃ w5, w5 = w4.drewN nq := ⟨_, rfl⟩
              rw [← hw5] at HT5 ⊢
              clear hw5 yq2 hb c2 z1
              have ho5 : w5.ownsRow w.heap.size 3 1 (.slice (some ⟨gl, 0, none⟩) n c) n (l.map encZ) := own_tch J.out.2.1 HT5.out (fun _ _ e => e)
              have hnc : n ≤ c := by
                rcases ho5.2 with ⟨e, _⟩ | ⟨g', c', cur, hv, _, _, hc, _⟩
                · cases e
                · injection hv with _ _ e3; omega
              have hqc : q ≤ c := by omega
              have hqc' : (q : Int) ≤ (c : Int) := by omega
              have hqq : (q : Int) ≤ (n : Int) := by omega
              have hnc' : (n : Int) ≤ (c : Int) := by omega
              obtain ⟨o1, k1, w6, o2, k2, w7, o3, k3, w8, hr1, hr2, hr3, ho8, t6, t8⟩ := ins_runs ho5 Hn.out.1 hn0 d.i q hq (J.out.2.2.trans' HT5.out).size (by omega) c (c - q) ⟨gl, q, none⟩ (fun _ => rfl)
              obtain ⟨c5, z5⟩ := HCZ.out w5 HT5.out
              obtain ⟨c6, z6⟩ := HCZ.out w6 (HT5.out.trans' t6)
              have HJ8 : Hid (IdL (l.take q ++ d.i :: l.drop q) (h.L.take (k + 1)) ∧ w8.ownsRow w.heap.size 3 1 (.slice o3 (n + 1) k3) (n + 1) ((l.take q ++ d.i :: l.drop q).map encZ) ∧ Tch (fun _ => False) w w8) := ⟨by rw [HTk.out]; exact idl_ins J.out.1 d HI.out.2 HQ.out, ho8, (J.out.2.2.trans' HT5.out).trans' t8⟩
              have HL8 : Hid (n + 1 = (l.take q ++ d.i :: l.drop q).length ∧ (n + 1 = 0 → o3 = none ∧ k3 = 0)) := ⟨by have := Hn.out.1; simp only [List.length_append, List.length_cons, List.length_take, List.length_drop]; omega, fun e => by omega⟩
              have HR1 : Hid _ := hr1
              have HR2 : Hid _ := hr2
              have HR3 : Hid _ := hr3
              have HC6 : Hid _ := c6
              have HZ6 : Hid _ := z6
              clear ho5 ho8 t6 t8 hr1 hr2 hr3 c6 z6
              go_upto_region 11 with (at_builtin; refine wpList_app _ rfl _ _ 47 rfl rfl _ _ rfl rfl HR1.out ?_)
              clear c5 z5
              have c6 := HC6.out
              have z6 := HZ6.out
              go_upto_region 12 with (at_builtin; refine wpList_app _ rfl _ _ 47 rfl rfl _ _ rfl rfl HR2.out ?_)
              clear c6 z6
              go_wp2_with (at_builtin; refine wpList_app _ rfl _ _ 47 rfl rfl _ _ rfl rfl HR3.out ?_)
              go_roundg (m - (k + 1))
              case measure => omega
              case rel => exact ⟨k + 1, n + 1, o3, k3, _, rfl, rfl, by omega, by omega, by omega, HL8, HJ8⟩
        · have hqn' : ¬ (q : Int) < (n : Int) := by omega
          have HQ : Hid (∀ u, l[q]? = some u → d.i < u) := fun u hu => by
            have h1 := (List.getElem?_eq_some_iff.1 hu).1
            have := Hn.out.1
            omega
          go_wp2_with fail
          go_quiet (fail)
          have HT4 : Hid (Tch (fun _ => False) wV (wi.drewN nq)) := HI.out.1.drewN nq
          obtain ⟨w4, hw4⟩ : ∃ w4, w4 = wi.drewN nq := ⟨_, rfl⟩
          rw [← hw4] at HT4 ⊢
          clear hw4 c2 z1
          obtain ⟨c2, z1⟩ := HCZ.out w4 HT4.out
          go_wp2_with fail
          go_quiet (fail)
          rcases Nat.eq_zero_or_pos n with hn0 | hn0
          · subst hn0
            obtain rfl : q = 0 := by omega
            obtain ⟨ho0, hc0⟩ := Hn.out.2 rfl
            subst ho0
            subst hc0
            have hl0 : l = [] := List.eq_nil_of_length_eq_zero Hn.out.1.symm
            subst hl0
            have HT5 : Hid (Tch (fun _ => False) wV (w4.drewN nq)) := HT4.out.drewN nq
            obtain ⟨w5, hw5⟩ : ∃ w5, w5 = w4.drewN nq := ⟨_, rfl⟩
            rw [← hw5] at HT5 ⊢
            clear hw5 c2 z1
            obtain ⟨c5, z5⟩ := HCZ.out w5 HT5.out
            obtain ⟨i0, hi0, hz0, hz1, hz2⟩ := info_parts info_i
            have ta : Tch (fun _ => False) w5 (w5.alloc (.cells #[.int .i64 d.i] 3)) := Tch.alloc _ _ _
            have hba : (w5.alloc (.cells #[.int .i64 d.i] 3)).heap[w5.heap.size]? = some (.cells #[.int .i64 d.i] 3 (0, 0)) := alloc_new _ _
            have hsz := (J.out.2.2.trans' HT5.out).size
            have hnil : (w5.alloc (.cells #[.int .i64 d.i] 3)).ownsRow w.heap.size 3 1 (.slice none 0 0) 0 (([] : List Int).map encZ) := World.ownsRow_nil _ _ _ _
            obtain ⟨o2, k2, w7, hr2, ho2, t2, _⟩ := ints_app hnil ⟨w5.heap.size, 0, none⟩ 1 1 [d.i] rfl (fun j u hu => by
              rw [add_plain, Nat.zero_add, blk_cell hba]
              cases j with
              | zero => simpa using hu
              | succ j => simp at hu) (by have := ta.size; omega) (by omega)
            have hr3 := run_append_owned_none (P := Try.prog) (w := w7) w.heap.size 47 47 3 i0 1 Try.underlying47 hi0 _ _ _ ho2
            have HJ8 : Hid (IdL [d.i] (h.L.take (k + 1)) ∧ w7.ownsRow w.heap.size 3 1 (.slice o2 1 k2) 1 ([d.i].map encZ) ∧ Tch (fun _ => False) w w7) := ⟨by rw [HTk.out]; exact idl_ins J.out.1 d HI.out.2 HQ.out, ho2, ((J.out.2.2.trans' HT5.out).trans' ta).trans t2 (fun g hg e => by cases e)⟩
            have HL8 : Hid (1 = [d.i].length ∧ (1 = 0 → o2 = none ∧ k2 = 0)) := ⟨rfl, fun e => by omega⟩
            have HR2 : Hid _ := hr2
            have HR3 : Hid _ := hr3
            clear hnil ho2 ta t2 hba hr2 hr3 hi0 hz0 hz1 hz2
            go_upto_region 11 with (fail)
            go_upto_region 12 with (at_builtin; refine wpList_app _ rfl _ _ 47 rfl rfl _ _ rfl rfl HR2.out ?_)
            clear c5 z5
            go_wp2_with (at_builtin; refine wpList_app _ rfl _ _ 47 rfl rfl _ _ rfl rfl HR3.out ?_)
            go_roundg (m - (k + 1))
            case measure => omega
            case rel => exact ⟨k + 1, 1, o2, k2, [d.i], rfl, rfl, by omega, by omega, by omega, HL8, HJ8⟩
          · obtain ⟨gl, hgl, _, _⟩ := own_at J.out.2.1 hn0
            subst hgl
            have hqe : n = q := by omega
            subst hqe
            clear hqn hqn'
            by_cases hcn : c = n
            · have hcn' : n = c := hcn.symm
              subst hcn'
              have HT5 : Hid (Tch (fun _ => False) wV (w4.drewN nq)) := HT4.out.drewN nq
              obtain ⟨w5, hw5⟩ : ∃ w5, w5 = w4.drewN nq := ⟨_, rfl⟩
              rw [← hw5] at HT5 ⊢
              clear hw5 c2 z1 
              have ho5 : w5.ownsRow w.heap.size 3 1 (.slice (some ⟨gl, 0, none⟩) n n) n (l.map encZ) := own_tch J.out.2.1 HT5.out (fun _ _ e => e)
              have hnc : n ≤ n := Nat.le_refl _
              have hqc : n ≤ n := by omega
              have hqc' : (n : Int) ≤ (n : Int) := by omega
              have hqq : (n : Int) ≤ (n : Int) := by omega
              have hnc' : (n : Int) ≤ (n : Int) := by omega
              obtain ⟨o1, k1, w6, o2, k2, w7, o3, k3, w8, hr1, hr2, hr3, ho8, t6, t8⟩ := ins_runs ho5 Hn.out.1 hn0 d.i n hq (J.out.2.2.trans' HT5.out).size (by omega) n 0 ⟨gl, 0, none⟩ (fun e => absurd e (by omega))
              obtain ⟨c5, z5⟩ := HCZ.out w5 HT5.out
              obtain ⟨c6, z6⟩ := HCZ.out w6 (HT5.out.trans' t6)
              have HJ8 : Hid (IdL (l.take n ++ d.i :: l.drop n) (h.L.take (k + 1)) ∧ w8.ownsRow w.heap.size 3 1 (.slice o3 (n + 1) k3) (n + 1) ((l.take n ++ d.i :: l.drop n).map encZ) ∧ Tch (fun _ => False) w w8) := ⟨by rw [HTk.out]; exact idl_ins J.out.1 d HI.out.2 HQ.out, ho8, (J.out.2.2.trans' HT5.out).trans' t8⟩
              have HL8 : Hid (n + 1 = (l.take n ++ d.i :: l.drop n).length ∧ (n + 1 = 0 → o3 = none ∧ k3 = 0)) := ⟨by have := Hn.out.1; simp only [List.length_append, List.length_cons, List.length_take, List.length_drop]; omega, fun e => by omega⟩
              rw [Nat.sub_self] at hr3
              have HR1 : Hid _ := hr1
              have HR2 : Hid _ := hr2
              have HR3 : Hid _ := hr3
              have HC6 : Hid _ := c6
              have HZ6 : Hid _ := z6
              clear ho5 ho8 t6 t8 hr1 hr2 hr3 c6 z6
              go_upto_region 11 with (at_builtin; refine wpList_app _ rfl _ _ 47 rfl rfl _ _ rfl rfl HR1.out ?_)
              clear c5 z5
              have c6 := HC6.out
              have z6 := HZ6.out
              go_upto_region 12 with (at_builtin; refine wpList_app _ rfl _ _ 47 rfl rfl _ _ rfl rfl HR2.out ?_)
              clear c6 z6
              go_wp2_with (at_builtin; refine wpList_app _ rfl _ _ 47 rfl rfl _ _ rfl rfl HR3.out ?_)
              go_roundg (m - (k + 1))
              case measure => omega
              case rel => exact ⟨k + 1, n + 1, o3, k3, _, rfl, rfl, by omega, by omega, by omega, HL8, HJ8⟩
            · have HT5 : Hid (Tch (fun _ => False) wV (w4.drewN nq)) := HT4.out.drewN nq
              obtain ⟨w5, hw5⟩ : ∃ w5, w5 = w4.drewN nq := ⟨_, rfl⟩
              rw [← hw5] at HT5 ⊢
              clear hw5 c2 z1 
              have ho5 : w5.ownsRow w.heap.size 3 1 (.slice (some ⟨gl, 0, none⟩) n c) n (l.map encZ) := own_tch J.out.2.1 HT5.out (fun _ _ e => e)
              have hnc : n ≤ c := by
                rcases ho5.2 with ⟨e, _⟩ | ⟨g', c', cur, hv, _, _, hc, _⟩
                · cases e
                · injection hv with _ _ e3; omega
              have hqc : n ≤ c := by omega
              have hqc' : (n : Int) ≤ (c : Int) := by omega
              have hqq : (n : Int) ≤ (n : Int) := by omega
              have hnc' : (n : Int) ≤ (c : Int) := by omega
              obtain ⟨o1, k1, w6, o2, k2, w7, o3, k3, w8, hr1, hr2, hr3, ho8, t6, t8⟩ := ins_runs ho5 Hn.out.1 hn0 d.i n hq (J.out.2.2.trans' HT5.out).size (by omega) c (c - n) ⟨gl, n, none⟩ (fun e => absurd e (by omega))
              obtain ⟨c5, z5⟩ := HCZ.out w5 HT5.out
              obtain ⟨c6, z6⟩ := HCZ.out w6 (HT5.out.trans' t6)
              have HJ8 : Hid (IdL (l.take n ++ d.i :: l.drop n) (h.L.take (k + 1)) ∧ w8.ownsRow w.heap.size 3 1 (.slice o3 (n + 1) k3) (n + 1) ((l.take n ++ d.i :: l.drop n).map encZ) ∧ Tch (fun _ => False) w w8) := ⟨by rw [HTk.out]; exact idl_ins J.out.1 d HI.out.2 HQ.out, ho8, (J.out.2.2.trans' HT5.out).trans' t8⟩
              have HL8 : Hid (n + 1 = (l.take n ++ d.i :: l.drop n).length ∧ (n + 1 = 0 → o3 = none ∧ k3 = 0)) := ⟨by have := Hn.out.1; simp only [List.length_append, List.length_cons, List.length_take, List.length_drop]; omega, fun e => by omega⟩
              rw [Nat.sub_self] at hr3
              have HR1 : Hid _ := hr1
              have HR2 : Hid _ := hr2
              have HR3 : Hid _ := hr3
              have HC6 : Hid _ := c6
              have HZ6 : Hid _ := z6
              clear ho5 ho8 t6 t8 hr1 hr2 hr3 c6 z6
              go_upto_region 11 with (at_builtin; refine wpList_app _ rfl _ _ 47 rfl rfl _ _ rfl rfl HR1.out ?_)
              clear c5 z5
              have c6 := HC6.out
              have z6 := HZ6.out
              go_upto_region 12 with (at_builtin; refine wpList_app _ rfl _ _ 47 rfl rfl _ _ rfl rfl HR2.out ?_)
              clear c6 z6
              go_wp2_with (at_builtin; refine wpList_app _ rfl _ _ 47 rfl rfl _ _ rfl rfl HR3.out ?_)
              go_roundg (m - (k + 1))
              case measure => omega
              case rel => exact ⟨k + 1, n + 1, o3, k3, _, rfl, rfl, by omega, by omega, by omega, HL8, HJ8⟩
    · have hk' : ¬ (k : Int) < (m : Int) := by omega
      clear HHr
      go_wp2_with fail
      go_ret
      obtain ⟨j1, j2, j3⟩ := J.out
      rw [List.take_of_length_le (by have := Hm.out; omega)] at j1
      refine ⟨_, rfl, l, j1, ?_, j3⟩
      rw [← Hn.out.1]
      exact j2
end Go.Proofs.Ytkcmpipipelgoaa
