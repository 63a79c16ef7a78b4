import Derived.Test.YtolobljlkdacjaaXRe3
/- The document's manager: its list in the world; Begin. -/
namespace Go.Proofs.Ytolobljlkdacjaa
open Go.RowKit Go Go.Sort

/-- The document's manager at block b, its own. -/
structure RO (w : World) (b : Nat) (L : List Nm) (nx : Nat) (v : Value) : Prop where
  blk : w.heap[b]? = some (.cells #[v, .int .i64 nx] 50 (0, 0))
  row : w.ownsRow 0 67 6 v L.length (ncl L)
  ne : ∀ g, v.ownBlock = some g → g ≠ b
theorem RO.nr {w : World} {b : Nat} {L : List Nm} {nx : Nat} {v : Value} (h : RO w b L nx v) : ∃ ao c, v = .slice ao L.length c ∧ NR w b ao c L := by
  obtain ⟨ao, c, rfl⟩ := row_slice h.row
  refine ⟨ao, c, rfl, by rw [blk_cell h.blk]; rfl, fun k a hk => ?_⟩
  have hlt := (List.getElem?_eq_some_iff.1 hk).1
  rcases h.row.2 with ⟨_, h0⟩ | ⟨g, cap, cur, hv, _, hg, _, _, hs, ht⟩
  · omega
  · have hc : ∀ j u, (ncl L)[j]? = some u → w.cell? ⟨g, j, none⟩ = some u := fun j u hu => by
      rw [blk_cell hg, ← Array.getElem?_toList]
      rw [← ht, List.getElem?_take] at hu
      split at hu
      · exact hu
      · cases hu
    obtain ⟨q0, q1, q2, q3, q4, q5⟩ := ncl_get L k a hk
    injection hv with hv
    exact ⟨g, hv, hc _ _ q0, hc _ _ q1, hc _ _ q2, hc _ _ q3, hc _ _ q4, hc _ _ q5⟩
theorem RO.c1 {w : World} {b : Nat} {L : List Nm} {nx : Nat} {v : Value} (h : RO w b L nx v) : w.cell? ⟨b, 1, none⟩ = some (.int .i64 nx) := by rw [blk_cell h.blk]; rfl
theorem RO.blkW {w W : World} {b : Nat} {L : List Nm} {nx : Nat} {v : Value} (h : RO w b L nx v) (t : Tch (fun j => v.ownBlock = some j) w W) : W.heap[b]? = some (.cells #[v, .int .i64 nx] 50 (0, 0)) := by
  rw [t.block b (blk_lt h.blk) (fun e => h.ne b e rfl)]; exact h.blk
theorem RO.keep {w W : World} {b : Nat} {L : List Nm} {nx : Nat} {v : Value} (h : RO w b L nx v) (t : Tch (fun j => v.ownBlock = some j) w W) : W.cell? ⟨b, 0, none⟩ = some v ∧ W.cell? ⟨b, 1, none⟩ = some (.int .i64 nx) := by
  have := h.blkW t
  exact ⟨by rw [blk_cell this]; rfl, by rw [blk_cell this]; rfl⟩
theorem RO.tch {S : Nat → Prop} {w W : World} {b : Nat} {L : List Nm} {nx : Nat} {v : Value} (h : RO w b L nx v) (t : Tch S w W) (hb : ¬ S b) (hg : ∀ g, v.ownBlock = some g → ¬ S g) : RO W b L nx v :=
  ⟨by rw [t.block b (blk_lt h.blk) hb]; exact h.blk, own_tch h.row t hg, h.ne⟩
/-- The stages of a region that appends. -/
def RC (w1 : World) (v : Value) (n : Nat) (xs es : List Value) (s : List Value) (W : World) : Prop := match s with
  | [] => Tch (fun _ => False) w1 W
  | [y] => Tch (fun _ => False) w1 W ∧ ∃ g, y = .slice (some ⟨g, 0, none⟩) 1 1 ∧ ∀ j u, es[j]? = some u → W.cell? ((⟨g, 0, none⟩ : Addr).add j) = some u
  | [_, z] => Tch (fun j => v.ownBlock = some j) w1 W ∧ ∃ o5 c5, z = .slice o5 (n + 1) c5 ∧ W.ownsRow 0 67 6 z (n + 1) (xs ++ es) ∧ (z.ownBlock = v.ownBlock ∨ ∃ g, z.ownBlock = some g ∧ w1.heap.size ≤ g)
  | _ => False
theorem RC.tch {w1 W : World} {v : Value} {n : Nat} {xs es s : List Value} (h : RC w1 v n xs es s W) : Tch (fun j => v.ownBlock = some j) w1 W := by
  match s, h with
  | [], h => exact Tch.mono h (fun _ _ h => h.elim)
  | [_], h => exact h.1.mono (fun _ _ h => h.elim)
  | [_, _], h => exact h.1
theorem RC.one {w1 W : World} {v : Value} {n : Nat} {xs es : List Value} (h : RC w1 v n xs es [] W) : RC w1 v n xs es [.slice (some ⟨W.heap.size, 0, none⟩) 1 1] (W.alloc (.cells es.toArray 67)) := by
  refine ⟨Tch.allocR h _, W.heap.size, rfl, fun j u hu => ?_⟩
  rw [add_plain, blk_cell (alloc_new _ _)]
  simpa using hu
theorem info_nm : (Try.prog.info? 67).map (fun i => (i.zero, i.size, i.bytes)) = some (some (.agg #[.int .i64 0, .int .i64 0, .int .i64 0, .int .i64 0, .bool false, .bool false]), 6, 40) := by kernel_rfl
theorem RC.two {w1 W : World} {v : Value} {n : Nat} {xs es : List Value} {g : Nat} (hrow : w1.ownsRow 0 67 6 v n xs) (hn : n ≤ 2147483648) (hes : es.length = 6) (ho : ∀ u ∈ es, u.oneCell' = true) (h : RC w1 v n xs es [.slice (some ⟨g, 0, none⟩) 1 1] W) :
    ∃ o5 c5 w', (Builtin.append_ #[48, 48] 48 #[v, .slice (some ⟨g, 0, none⟩) 1 1]).run Try.prog W = .ok (.slice o5 (n + 1) c5) w' ∧ RC w1 v n xs es [.slice (some ⟨g, 0, none⟩) 1 1, .slice o5 (n + 1) c5] w' := by
  obtain ⟨i0, hi0, hz0, hz1, hz2⟩ := info_parts info_nm
  obtain ⟨tW, g', e, hg⟩ := h
  have e' : g = g' := by simpa using e
  subst e'
  obtain ⟨v', w', hr, hown, hgr, hat, _⟩ := run_append_keeps (P := Try.prog) W 0 48 48 67 i0 (.agg #[.int .i64 0, .int .i64 0, .int .i64 0, .int .i64 0, .bool false, .bool false]) 6 40 Try.underlying48 hi0 hz0 hz1 hz2 rfl (by decide) v n xs (own_tch hrow tW (fun _ _ h => h)) ⟨g, 0, none⟩ 1 1 es hes hg ho (by unfold maxLen; omega) (by omega) (Nat.zero_le _)
  obtain ⟨o5, c5, rfl⟩ := row_slice hown
  exact ⟨o5, c5, w', hr, (tW.mono (fun _ _ h => h.elim)).trans' (grown_at (Tch.refl (fun _ => False) W) hgr), o5, c5, rfl, hown, hat.imp id (fun e => ⟨_, e, tW.size⟩)⟩
/-- What comes of it. -/
def ROut (w : World) (b : Nat) (v : Value) (xs : List Value) (n nx : Nat) (w' : World) : Prop :=
  ∃ v', w'.heap[b]? = some (.cells #[v', .int .i64 nx] 50 (0, 0)) ∧ w'.ownsRow 0 67 6 v' n xs ∧ (∀ g, v'.ownBlock = some g → g ≠ b ∧ (v.ownBlock = some g ∨ w.heap.size ≤ g)) ∧ Tch (fun j => j = b ∨ v.ownBlock = some j) w w'
theorem ROut.of {w w5 w7 : World} {b : Nat} {v v' : Value} {xs : List Value} {n nx : Nat} (hne : ∀ g, v.ownBlock = some g → g ≠ b) (hb : b < w.heap.size) (T5 : Tch (fun j => v.ownBlock = some j) w w5) (tE : Tch (fun j => j = b) w5 w7) (hX : w7.heap[b]? = some (.cells #[v', .int .i64 nx] 50 (0, 0))) (hO : w5.ownsRow 0 67 6 v' n xs) (hat : v'.ownBlock = v.ownBlock ∨ ∃ g, v'.ownBlock = some g ∧ w.heap.size ≤ g) : ROut w b v xs n nx w7 := by
  have hg : ∀ g, v'.ownBlock = some g → g ≠ b ∧ (v.ownBlock = some g ∨ w.heap.size ≤ g) := fun g hg => by
    rcases hat with e | ⟨g', e, h⟩
    · rw [e] at hg; exact ⟨hne g hg, Or.inl hg⟩
    · rw [e] at hg
      injection hg with hg
      subst hg
      exact ⟨by omega, Or.inr h⟩
  exact ⟨v', hX, own_tch hO tE (fun g h e => (hg g h).1 e), hg, (T5.mono (fun _ _ e => Or.inr e)).trans tE (fun _ _ e => Or.inl e)⟩

theorem rbegin_no (b : Nat) (nx : Nat) (w : World) (h : w.cell? ⟨b, 1, none⟩ = some (.int .i64 nx)) (hn : 2147483647 < nx) :
    Calls Try.prog 15 #[.pointer (some ⟨b, 0, none⟩)] w fun x w' => x = .returned (.tuple #[.int .i64 0, .int .i64 73]) ∧ w' = w := by
  have h1 : (2147483647 : Int) < nx := by omega
  go_enter Try.func15, Try.ntmps15
  go_wp2_with fail
  go_ret2
  exact ⟨rfl, rfl⟩
set_option maxHeartbeats 2000000 in
set_option maxRecDepth 100000 in
theorem rbegin_ok (b : Nat) (L : List Nm) (nx : Nat) (v : Value) (w : World) (h : RO w b L nx v) (hL : L.length ≤ 2147483648) (hn : nx ≤ 2147483647) :
    Calls Try.prog 15 #[.pointer (some ⟨b, 0, none⟩)] w fun x w' => x = .returned (.tuple #[.int .i64 nx, .int .i64 0]) ∧ ROut w b v (ncl L ++ [.int .i64 nx, .int .i64 0, .int .i64 1, .int .i64 0, .bool false, .bool false]) (L.length + 1) (nx + 1) w' := by
  have HRO : Hid _ := h
  have b1 := h.c1
  obtain ⟨ao, c, rfl, hNR⟩ := h.nr
  have b0 := hNR.c0
  obtain ⟨n, hnn⟩ : ∃ n, n = L.length := ⟨_, rfl⟩
  have HRow : Hid (w.ownsRow 0 67 6 (.slice ao n c) n (ncl L)) := by rw [hnn]; exact h.row
  rw [← hnn] at b0 hL HRO ⊢
  have h1 : ¬ (2147483647 : Int) < nx := by omega
  clear h hNR hnn
  go_enter Try.func15, Try.ntmps15
  go_wp2_with fail
  obtain ⟨C, hC⟩ : ∃ C : List Value → World → Prop, C = RC w (Value.slice ao n c) n (ncl L) [.int .i64 nx, .int .i64 0, .int .i64 1, .int .i64 0, .bool false, .bool false] := ⟨_, rfl⟩
  have hK : ∀ s W, C s W → W.cell? ⟨b, 0, none⟩ = some (Value.slice ao n c) ∧ W.cell? ⟨b, 1, none⟩ = some (.int .i64 nx) := fun s W h => by
    rw [hC] at h
    exact HRO.out.keep h.tch
  have h6 : ∀ W, C [] W → C [.slice (some ⟨W.heap.size, 0, none⟩) 1 1] (W.alloc (.cells #[.int .i64 nx, .int .i64 0, .int .i64 1, .int .i64 0, .bool false, .bool false] 67)) := fun W h => by
    rw [hC] at h ⊢
    exact RC.one h
  have h7 : ∀ g W, C [.slice (some ⟨g, 0, none⟩) 1 1] W → ∃ o5 c5 w', (Builtin.append_ #[48, 48] 48 #[Value.slice ao n c, .slice (some ⟨g, 0, none⟩) 1 1]).run Try.prog W = .ok (.slice o5 (n + 1) c5) w' ∧ C [.slice (some ⟨g, 0, none⟩) 1 1, .slice o5 (n + 1) c5] w' := fun g W h => by
    rw [hC] at h ⊢
    exact RC.two HRow.out (by omega) rfl (by simp [Value.oneCell']) h
  have h0' : C [] (w).drew := by rw [hC]; exact (Tch.refl _ _).drew
  have hsh1 : ∀ y W, C [y] W → ∃ g, y = .slice (some ⟨g, 0, none⟩) 1 1 := fun y W h => by
    rw [hC] at h
    obtain ⟨_, g, e, _⟩ := h
    exact ⟨g, e⟩
  have hsh2 : ∀ y z W, C [y, z] W → ∃ o5 c5, z = .slice o5 (n + 1) c5 := fun y z W h => by
    rw [hC] at h
    obtain ⟨_, o5, c5, e, _⟩ := h
    exact ⟨o5, c5, e⟩
  have Hfin : Hid (∀ y z W, C [y, z] W → Tch (fun j => (Value.slice ao n c).ownBlock = some j) w W ∧ W.ownsRow 0 67 6 z (n + 1) (ncl L ++ [.int .i64 nx, .int .i64 0, .int .i64 1, .int .i64 0, .bool false, .bool false]) ∧ (z.ownBlock = (Value.slice ao n c).ownBlock ∨ ∃ g, z.ownBlock = some g ∧ (w).heap.size ≤ g)) := fun y z W h => by
    rw [hC] at h
    obtain ⟨h1, _, _, _, h2, h3⟩ := h
    exact ⟨h1, h2, h3⟩
  clear hC
  refine wp_region_ordv [10, 11] C 12 [0, 1, 2, 3, 4, 5, 6, 7, 8, 9, 10, 11] (by kernel_rfl) (by kernel_rfl) h0' ?_
  clear h0'
  refine ordv_read rfl (by go_simp) (by rfl) ?_
  apply Exists.intro
  refine ⟨fun s' W hW b K Q hK' => ?_, fun K hK' => ?_⟩
  · obtain ⟨q0, q1⟩ := hK _ W hW
    go_simp
    exact hK' W hW
  go_simp
  refine hK' _ ?_
  clear hK' K
  refine ordv_read rfl (by go_simp) (by rfl) ?_
  apply Exists.intro
  refine ⟨fun s' W hW b K Q hK' => ?_, fun K hK' => ?_⟩
  · obtain ⟨q0, q1⟩ := hK _ W hW
    go_simp
    exact hK' W hW
  go_simp
  refine hK' _ ?_
  clear hK' K
  refine ordv_read rfl (by go_simp) (by rfl) ?_
  apply Exists.intro
  refine ⟨fun s' W hW b K Q hK' => ?_, fun K hK' => ?_⟩
  · obtain ⟨q0, q1⟩ := hK _ W hW
    go_simp
    exact hK' W hW
  go_simp
  refine hK' _ ?_
  clear hK' K
  refine ordv_read rfl (by go_simp) (by rfl) ?_
  apply Exists.intro
  refine ⟨fun s' W hW b K Q hK' => ?_, fun K hK' => ?_⟩
  · obtain ⟨q0, q1⟩ := hK _ W hW
    go_simp
    exact hK' W hW
  go_simp
  refine hK' _ ?_
  clear hK' K
  refine ordv_read rfl (by go_simp) (by rfl) ?_
  apply Exists.intro
  refine ⟨fun s' W hW b K Q hK' => ?_, fun K hK' => ?_⟩
  · obtain ⟨q0, q1⟩ := hK _ W hW
    go_simp
    exact hK' W hW
  go_simp
  refine hK' _ ?_
  clear hK' K
  refine ordv_read rfl (by go_simp) (by rfl) ?_
  apply Exists.intro
  refine ⟨fun s' W hW b K Q hK' => ?_, fun K hK' => ?_⟩
  · obtain ⟨q0, q1⟩ := hK _ W hW
    go_simp
    exact hK' W hW
  go_simp
  refine hK' _ ?_
  clear hK' K
  refine ordv_read rfl (by go_simp) (by rfl) ?_
  apply Exists.intro
  refine ⟨fun s' W hW b K Q hK' => ?_, fun K hK' => ?_⟩
  · obtain ⟨q0, q1⟩ := hK _ W hW
    go_simp
    exact hK' W hW
  go_simp
  refine hK' _ ?_
  clear hK' K
  refine ordv_read rfl (by go_simp) (by rfl) ?_
  apply Exists.intro
  refine ⟨fun s' W hW b K Q hK' => ?_, fun K hK' => ?_⟩
  · obtain ⟨q0, q1⟩ := hK _ W hW
    go_simp
    exact hK' W hW
  go_simp
  refine hK' _ ?_
  clear hK' K
  refine ordv_read rfl (by go_simp) (by rfl) ?_
  apply Exists.intro
  refine ⟨fun s' W hW b K Q hK' => ?_, fun K hK' => ?_⟩
  · obtain ⟨q0, q1⟩ := hK _ W hW
    go_simp
    exact hK' W hW
  go_simp
  refine hK' _ ?_
  clear hK' K
  refine ordv_read rfl (by go_simp) (by rfl) ?_
  apply Exists.intro
  refine ⟨fun s' W hW b K Q hK' => ?_, fun K hK' => ?_⟩
  · obtain ⟨q0, q1⟩ := hK _ W hW
    go_simp
    exact hK' W hW
  go_simp
  refine hK' _ ?_
  clear hK' K
  refine ordv_turn rfl (by go_simp) (by rfl) (fun W hW b K Q hK' => ?_) (fun u hu K hK' => ?_)
  · go_simp
    exact hK' _ _ (h6 W hW)
  obtain ⟨g5, rfl⟩ : ∃ g, u = .slice (some ⟨g, 0, none⟩) 1 1 := by
    obtain ⟨W', hW'⟩ := hu
    exact hsh1 u W' hW'
  clear hu h6
  go_simp
  refine hK' _ ?_
  clear hK' K
  refine ordv_turn rfl (by go_simp) (by rfl) (fun W hW => ?_) (fun u hu K hK' => ?_)
  · obtain ⟨to', tc', w', hr, h1⟩ := h7 g5 W hW
    exact yv_append (.tmp 13) (.tmp 19) 48 rfl (Value.slice ao n c) (.slice (some ⟨g5, 0, none⟩) 1 1) rfl rfl hr h1
  obtain ⟨o5, c5, rfl⟩ : ∃ o5 c5, u = .slice o5 (n + 1) c5 := by
    obtain ⟨W', hW'⟩ := hu
    exact hsh2 _ u W' hW'
  clear hu h7 hsh1 hsh2
  go_simp
  refine hK' _ ?_
  clear hK' K
  refine ordv_nil ?_
  intro w5 hw5
  obtain ⟨T5, hO5, hat5⟩ := Hfin.out _ _ w5 hw5
  have hX5 := HRO.out.blkW T5
  have c2 : w5.cell? ⟨b, 0, none⟩ = some (Value.slice ao n c) := by rw [blk_cell hX5]; rfl
  have f2 := blk_frozen hX5 0
  obtain ⟨w6, hw6⟩ : ∃ w6, w6 = w5.setCell ⟨b, 0, none⟩ (.slice o5 (n + 1) c5) := ⟨_, rfl⟩
  have hX6 : w6.heap[b]? = some (.cells #[.slice o5 (n + 1) c5, .int .i64 nx] 50 (0, 0)) := by rw [hw6]; exact blk_set hX5 _
  have d1 : w6.cell? ⟨b, 1, none⟩ = some (.int .i64 nx) := by rw [blk_cell hX6]; rfl
  have f1 := blk_frozen hX6 1
  obtain ⟨w7, hw7⟩ : ∃ w7, w7 = w6.setCell ⟨b, 1, none⟩ (.int .i64 ((nx : Int) + 1)) := ⟨_, rfl⟩
  have hX7 : w7.heap[b]? = some (.cells #[.slice o5 (n + 1) c5, .int .i64 ((nx : Int) + 1)] 50 (0, 0)) := by rw [hw7]; exact blk_set hX6 _
  have e1 : w7.cell? ⟨b, 1, none⟩ = some (.int .i64 ((nx : Int) + 1)) := by rw [blk_cell hX7]; rfl
  have HEnd : Hid (ROut w b (Value.slice ao n c) (ncl L ++ [.int .i64 nx, .int .i64 0, .int .i64 1, .int .i64 0, .bool false, .bool false]) (n + 1) (nx + 1) w7) := by
    have tE : Tch (fun j => j = b) w5 w7 := by rw [hw7, hw6]; exact (Tch.setCell (fun j => j = b) w5 ⟨b, 0, none⟩ _ rfl).setCellR ⟨b, 1, none⟩ _ rfl
    exact ROut.of HRO.out.ne (blk_lt HRO.out.blk) T5 tE hX7 hO5 hat5
  have c3 : w5.cell? ⟨b, 1, none⟩ = some (.int .i64 nx) := by rw [blk_cell hX5]; rfl
  have f3 := blk_frozen hX5 1
  rw [hw7, hw6] at HEnd
  clear hK hw5 Hfin hX5 T5 hO5 hat5 hw7 hw6 hX6 hX7 d1 f1 e1
  go_wp2_with fail
  go_ret2
  exact ⟨by (try rw [Int.add_sub_cancel]) <;> rfl, HEnd.out⟩
end Go.Proofs.Ytolobljlkdacjaa
