import Derived.Test.YtjambfbibeihiaaGreatRef4
import Derived.Test.YtjambfbibeihiaaGreatFiles
import Derived.Laws.CopyRow
import Derived.Test.YtjambfbibeihiaaGreatStaged
/- The document's Files; sameFiles; a copy of a list of files. -/
namespace Go.Proofs.YtjambfbibeihiaaGreat
set_option maxRecDepth 100000
open Go.RowKit Go.ChangeMaps Go.Sort

theorem run_copy_row2 {P : Program} (w : World) (dT sT ty elem : TypeId) (g o dLen dCap : Nat) (a : Addr) (sLen sCap : Nat) (cur : Array Value) (t : TypeId) (cs : List Value)
    (hu : P.underlying dT = some (.slice elem)) (hs : (P.info? elem).map (·.size) = some 2)
    (hg : w.heap[g]? = some (.cells cur t (0, 0))) (hn : cs.length = Nat.min sLen dLen * 2)
    (hsrc : ∀ j v, cs[j]? = some v → w.cell? (a.add j) = some v) (hfit : o + cs.length ≤ cur.size) (h1 : ∀ v ∈ cs, v.oneCell' = true) :
    (Builtin.copy_ #[dT, sT] ty #[.slice (some ⟨g, o, none⟩) dLen dCap, .slice (some a) sLen sCap]).run P w =
      .ok (goInt (Nat.min sLen dLen)) (w.setRow g (cur.toList.take o ++ cs ++ cur.toList.drop (o + cs.length)).toArray) := by
  have hl := run_loadCells_list (P := P) w a cs hsrc
  have hst := run_storeCells_at P g o t cs 0 cur w hg (by simpa using hfit) h1
  cases hq : P.info? elem with
  | none => simp [hq] at hs
  | some i =>
    have hi : i.size = 2 := by simpa [hq] using hs
    simp [Builtin.copy_, run_underlying hu, Builtin.lenOf, Builtin.firstCells, sizeOf, typeInfo, hq, hi, ← hn, hl, hst]

/-- The cells of a list of files. -/
def fcl (nm bs : Nat → ByteArray) : Nat → List Value
  | 0 => []
  | k + 1 => fcl nm bs k ++ [.string (nm k), .string (bs k)]
theorem fcl_len (nm bs : Nat → ByteArray) : ∀ k, (fcl nm bs k).length = k * 2
  | 0 => rfl
  | k + 1 => by simp [fcl, fcl_len nm bs k]; omega
theorem fcl_get (nm bs : Nat → ByteArray) : ∀ k i, i < k → (fcl nm bs k)[i * 2]? = some (.string (nm i)) ∧ (fcl nm bs k)[i * 2 + 1]? = some (.string (bs i))
  | 0, _, h => by omega
  | k + 1, i, h => by
    have hl := fcl_len nm bs k
    rw [fcl]
    rcases Nat.lt_or_ge i k with h1 | h1
    · rw [List.getElem?_append_left (by omega), List.getElem?_append_left (by omega)]
      exact fcl_get nm bs k i h1
    · obtain rfl : i = k := by omega
      rw [List.getElem?_append_right (by omega), List.getElem?_append_right (by omega), hl]
      rw [show i * 2 - i * 2 = 0 by omega, show i * 2 + 1 - i * 2 = 1 by omega]
      exact ⟨rfl, rfl⟩
theorem fcl_one (nm bs : Nat → ByteArray) : ∀ k, ∀ v ∈ fcl nm bs k, v.oneCell' = true
  | 0, v, h => by cases h
  | k + 1, v, h => by
    rcases List.mem_append.1 h with h | h
    · exact fcl_one nm bs k v h
    · simp at h
      rcases h with rfl | rfl <;> rfl
theorem fls_row {w : World} {base : Nat} {ao : Option Addr} {m cp : Nat} {nm bs : Nat → ByteArray} (h : w.ownsRow base 31 2 (.slice ao m cp) m (fcl nm bs m)) : FLs w ao m nm bs := fun i hi => by
  obtain ⟨g, rfl⟩ : ∃ g, ao = some ⟨g, 0, none⟩ := by
    rcases h.2 with ⟨_, h2⟩ | ⟨g, _, _, h1, _⟩
    · omega
    · simp only [Value.slice.injEq] at h1
      exact ⟨g, h1.1⟩
  obtain ⟨e1, e2⟩ := fcl_get nm bs m i hi
  have h1 := h.cells (g := g) rfl _ _ e1
  have h2 := h.cells (g := g) rfl _ _ e2
  refine ⟨g, 0, rfl, ?_, ?_⟩
  · simpa [Addr.add_lit] using h1
  · simpa [Addr.add_lit] using h2
theorem fls_cells {w : World} {a : Addr} {n : Nat} {nm bs : Nat → ByteArray} (h : FLs w (some a) n nm bs) : ∀ j v, (fcl nm bs n)[j]? = some v → w.cell? (a.add j) = some v := by
  intro j v hj
  have hl : j < n * 2 := by
    have := (List.getElem?_eq_some_iff.1 hj).1
    rwa [fcl_len] at this
  obtain ⟨b, off, e, h1, h2⟩ := h (j / 2) (by omega)
  cases e
  obtain ⟨g1, g2⟩ := fcl_get nm bs n (j / 2) (by omega)
  rw [Addr.add_lit]
  rcases Nat.mod_two_eq_zero_or_one j with e | e
  · rw [show j / 2 * 2 = j by omega] at g1 h1
    rw [g1] at hj
    cases hj
    exact h1
  · rw [show j / 2 * 2 + 1 = j by omega] at g2
    rw [show off + j / 2 * 2 + 1 = off + j by omega] at h2
    rw [g2] at hj
    cases hj
    exact h2

set_option maxHeartbeats 2000000 in
set_option maxRecDepth 100000 in
theorem samef_any (ao bo : Option Addr) (n ca cb : Nat) (nm bs : Nat → ByteArray) (w : World) (ha : FLs w ao n nm bs) (hb : FLs w bo n nm bs) (hn : n ≤ 9223372036854775807) :
    Calls Tryz.prog 11 #[.slice ao n ca, .slice bo n cb] w fun x w' => x = .returned (.bool true) ∧ ∃ m, w' = w.drewN m := by
  have HA : Hid (∀ m, FLs (w.drewN m) ao n nm bs) := fun m => ha.no ((Tch.refl _ w).drewN m)
  have HB : Hid (∀ m, FLs (w.drewN m) bo n nm bs) := fun m => hb.no ((Tch.refl _ w).drewN m)
  clear ha hb
  go_enter Tryz.func11, Tryz.ntmps11
  go_wp2_with fail
  go_loopw [5] (fun i wr => ∃ (k m : Nat), i = .int .i64 k ∧ k ≤ n ∧ wr = w.drewN m) (fun i _ => n - (intOf i).toNat)
  case atStart => exact ⟨0, 0, rfl, by omega, rfl⟩
  case round =>
    obtain ⟨k, m, rfl, hk, hwr⟩ := hrel
    by_cases hlt : (k : Int) < n
    · have hA := HA.out m
      have hB := HB.out m
      rw [← hwr] at hA hB
      obtain ⟨ab, off, rfl, a0, a1⟩ := hA k (by omega)
      obtain ⟨bb, off', rfl, b0, b1⟩ := hB k (by omega)
      clear hA hB
      have HW : Hid (wr = w.drewN m) := hwr
      clear hwr
      go_wp2_with fail
      go_quiet (fail)
      go_wp2
      go_roundw
      case rel => exact ⟨k + 1, m + nq, by go_num, by omega, by rw [HW.out, World.drewN_drewN]⟩
      case measure => simp [intOf]; omega
    · obtain rfl : n = k := by omega
      subst hwr
      go_wp2
      go_ret
      exact ⟨rfl, m, rfl⟩

/-- The beginning of a text. -/
def cutR (s : ByteArray) (n : Nat) : ByteArray := ⟨(s.data.toList.take n).toArray⟩
theorem cutR_ext (s : ByteArray) (n : Nat) : s.extract 0 n = cutR s n := by
  apply ByteArray.ext
  rw [ByteArray.data_extract]
  apply Array.ext'
  rw [Array.toList_extract]
  simp [cutR]
/-- What Files tells of the document's disk. -/
def rnm (m : List (Nm × Fl)) (i : Nat) : ByteArray := ⟨((m.map (·.1)).getD i []).toArray⟩
def rbs (m : List (Nm × Fl)) (i : Nat) : ByteArray := ⟨((m.map fun p => p.2.bs.take p.2.la).getD i []).toArray⟩
set_option maxHeartbeats 4000000 in
set_option maxRecDepth 100000 in
theorem rfiles_row (rb : Nat) (d : Dsk) (v : Value) (acts : Int) (w : World) (h : RW w rb d v acts) (hl : (d.m.length + 1) * 40 ≤ 140737488355328) (hla : ∀ p ∈ d.m, p.2.la ≤ p.2.bs.length ∧ p.2.bs.length ≤ 9223372036854775807) :
    Calls Tryz.prog 30 #[.pointer (some ⟨rb, 0, none⟩)] w fun x w' => ∃ ao cp, x = .returned (.slice ao d.m.length cp) ∧ w'.ownsRow w.heap.size 31 2 (.slice ao d.m.length cp) d.m.length (fcl (rnm d.m) (rbs d.m) d.m.length) ∧ Tch (fun _ => False) w w' := by
  obtain ⟨ao, cp, rfl⟩ := rowN_of h.own
  have HR : Hid (∀ W, Tch (fun _ => False) w W → RW W rb d (.slice ao d.m.length cp) acts) := fun W t => h.no t
  have HI : Hid (∀ i (hi : i < d.m.length), rnm d.m i = ⟨d.m[i].1.toArray⟩ ∧ rbs d.m i = cutR ⟨d.m[i].2.bs.toArray⟩ d.m[i].2.la ∧ d.m[i].2.la ≤ d.m[i].2.bs.length ∧ d.m[i].2.bs.length ≤ 9223372036854775807) := fun i hi => by
    refine ⟨?_, ?_, hla _ (List.getElem_mem hi)⟩
    · unfold rnm
      rw [List.getD_eq_getElem?_getD, List.getElem?_map, List.getElem?_eq_getElem hi]; rfl
    · unfold rbs cutR
      rw [List.getD_eq_getElem?_getD, List.getElem?_map, List.getElem?_eq_getElem hi]
      simp
  obtain ⟨n, hn⟩ : ∃ n, n = d.m.length := ⟨_, rfl⟩
  obtain ⟨i0, hi0, hz0, hz1, hz2⟩ := info_parts info_file
  have HN : Hid (∀ W, Tch (fun _ => False) w W → W.cell? ⟨rb, 1, none⟩ = some (.slice ao n cp) ∧ ∀ i (hi : i < n), ∃ g, ao = some ⟨g, 0, none⟩ ∧ W.cell? ⟨g, i * 3, none⟩ = some (.string (rnm d.m i)) ∧ ∃ x la, (W.cell? ⟨g, i * 3 + 1, none⟩ = some (.string x) ∧ W.cell? ⟨g, i * 3 + 2, none⟩ = some (.int .i64 (la : Nat))) ∧ la ≤ x.size ∧ x.size ≤ 9223372036854775807 ∧ cutR x la = rbs d.m i) := fun W t => by
    have hW := HR.out W t
    refine ⟨by rw [hn]; exact hW.c1, fun i hi => ?_⟩
    obtain ⟨g, e, h1, h2, h3⟩ := hW.row i (by omega)
    obtain ⟨e1, e2, e3, e4⟩ := HI.out i (by omega)
    refine ⟨g, e, by rw [e1]; exact h1, ⟨(d.m[i]'(by omega)).2.bs.toArray⟩, (d.m[i]'(by omega)).2.la, ⟨h2, h3⟩, ?_, ?_, e2.symm⟩
    · show _ ≤ (Array.size _); simpa using e3
    · show (Array.size _) ≤ _; simpa using e4
  rw [← hn] at hl ⊢
  have HB : Hid (∀ g, ao = some ⟨g, 0, none⟩ → g < w.heap.size ∧ rb < w.heap.size) := fun g e => ⟨(h.own.lt g (by rw [e]; rfl)).2, h.lt⟩
  clear HR HI h hla hn
  go_enter Tryz.func30, Tryz.ntmps30
  go_wp2_with fail
  go_loopw [3, 4] (fun l i wr => ∃ k : Nat, i = .int .i64 k ∧ k ≤ n ∧ wr.ownsRow w.heap.size 31 2 l k (fcl (rnm d.m) (rbs d.m) k) ∧ Tch (fun _ => False) w wr) (fun _ i _ => n - (intOf i).toNat)
  case atStart => exact ⟨0, rfl, by omega, World.ownsRow_nil _ _ _ _, Tch.refl _ _⟩
  case round =>
    obtain ⟨k, rfl, hk, hown, hT⟩ := hrel
    obtain ⟨lo, lc, hlv⟩ := rowN_of hown
    subst hlv
    obtain ⟨c1, hrow⟩ := HN.out wr hT
    by_cases hlt : (k : Int) < n
    · obtain ⟨g, rfl, r0, x, la, ⟨r1, r2⟩, hle, hx, hcut⟩ := hrow k (by omega)
      have hct := cutR_ext x la
      rw [hcut] at hct
      have hn63 : (n : Int) ≤ 9223372036854775807 := by omega
      obtain ⟨W1, hW1⟩ : ∃ W1, W1 = (wr.alloc (.cells #[.string (rnm d.m k), .string (rbs d.m k)] 31)).drew := ⟨_, rfl⟩
      have tW : Tch (fun _ => False) wr W1 := by rw [hW1]; exact (Tch.alloc _ _ _).drew
      have hO1 := rowN_tch hown tW (fun _ _ h => h)
      have hsz := hT.size
      have hsz1 := tW.size
      have hnew : ∀ j u, [.string (rnm d.m k), .string (rbs d.m k)][j]? = some u → W1.cell? ((⟨wr.heap.size, 0, none⟩ : Addr).add j) = some u := by rw [hW1]; exact cell_two_new wr _ _ _
      obtain ⟨v', w7, hrun, hown', hgrow, _⟩ := run_append_own (P := Tryz.prog) (w := W1) w.heap.size 32 32 31 i0 (.agg #[.string ⟨#[]⟩, .string ⟨#[]⟩]) 2 32 Tryz.underlying32 hi0 hz0 hz1 hz2 rfl (by decide) _ _ _ hO1 ⟨wr.heap.size, 0, none⟩ 1 1 [.string (rnm d.m k), .string (rbs d.m k)] rfl hnew (fun x hx => by simp at hx; rcases hx with rfl | rfl <;> rfl) (by unfold maxLen; omega) (by omega) (by omega)
      have HO7 : Hid (w7.ownsRow w.heap.size 31 2 v' (k + 1) (fcl (rnm d.m) (rbs d.m) (k + 1))) := hown'
      have T1 := hT.trans' tW
      have T7 : Tch (fun _ => False) w w7 := T1.trans (Tch.of_grown (S := fun i => w.heap.size ≤ i) hgrow (fun g e => (hO1.lt g e).1)) (fun i hi h => by omega)
      obtain ⟨C, hCdef⟩ : ∃ C : Nat → World → Prop, C = fun j W => (j = 0 ∧ W = wr.drew) ∨ (j = 1 ∧ W = W1) ∨ (j = 2 ∧ W = w7) := ⟨_, rfl⟩
      have hc : ∀ j W, C j W → W.cell? ⟨rb, 1, none⟩ = some (.slice (some ⟨g, 0, none⟩) n cp) ∧ W.cell? ⟨g, k * 3, none⟩ = some (.string (rnm d.m k)) ∧ W.cell? ⟨g, k * 3 + 1, none⟩ = some (.string x) ∧ W.cell? ⟨g, k * 3 + 2, none⟩ = some (.int .i64 (la : Nat)) := fun j W hW => by
        rw [hCdef] at hW
        have key : ∀ W, Tch (fun _ => False) wr W → W.cell? ⟨rb, 1, none⟩ = some (.slice (some ⟨g, 0, none⟩) n cp) ∧ W.cell? ⟨g, k * 3, none⟩ = some (.string (rnm d.m k)) ∧ W.cell? ⟨g, k * 3 + 1, none⟩ = some (.string x) ∧ W.cell? ⟨g, k * 3 + 2, none⟩ = some (.int .i64 (la : Nat)) := fun W t =>
          ⟨(t.cell (p := ⟨rb, _, none⟩) (cell_lt c1) (fun h => h)).trans c1, (t.cell (p := ⟨g, _, none⟩) (cell_lt r0) (fun h => h)).trans r0, (t.cell (p := ⟨g, _, none⟩) (cell_lt r1) (fun h => h)).trans r1, (t.cell (p := ⟨g, _, none⟩) (cell_lt r2) (fun h => h)).trans r2⟩
        rcases hW with ⟨_, rfl⟩ | ⟨_, rfl⟩ | ⟨_, rfl⟩
        · exact key _ ((Tch.refl _ _).drew)
        · exact key _ tW
        · have hgw : g < w.heap.size ∧ rb < w.heap.size := HB.out g rfl
          have t7 : Tch (fun i => w.heap.size ≤ i) wr _ := (tW.mono (fun _ _ h => h.elim)).trans' (Tch.of_grown (S := fun i => w.heap.size ≤ i) hgrow (fun g e => (hO1.lt g e).1))
          exact ⟨(t7.cell (p := ⟨rb, _, none⟩) (cell_lt c1) (by show ¬ w.heap.size ≤ rb; omega)).trans c1, (t7.cell (p := ⟨g, _, none⟩) (cell_lt r0) (by show ¬ w.heap.size ≤ g; omega)).trans r0, (t7.cell (p := ⟨g, _, none⟩) (cell_lt r1) (by show ¬ w.heap.size ≤ g; omega)).trans r1, (t7.cell (p := ⟨g, _, none⟩) (cell_lt r2) (by show ¬ w.heap.size ≤ g; omega)).trans r2⟩
      have e0 : ∀ W, C 0 W → W = wr.drew := fun W hW => by rw [hCdef] at hW; rcases hW with ⟨_, h⟩ | ⟨h, _⟩ | ⟨h, _⟩ <;> first | exact h | (exfalso; omega)
      have e1 : ∀ W, C 1 W → W = W1 := fun W hW => by rw [hCdef] at hW; rcases hW with ⟨h, _⟩ | ⟨_, h⟩ | ⟨h, _⟩ <;> first | exact h | (exfalso; omega)
      have e2 : ∀ W, C 2 W → W = w7 := fun W hW => by rw [hCdef] at hW; rcases hW with ⟨h, _⟩ | ⟨h, _⟩ | ⟨_, h⟩ <;> first | exact h | (exfalso; omega)
      have s0 : C 0 wr.drew := by rw [hCdef]; exact Or.inl ⟨rfl, rfl⟩
      have s1 : C 1 W1 := by rw [hCdef]; exact Or.inr (Or.inl ⟨rfl, rfl⟩)
      have s2 : C 2 w7 := by rw [hCdef]; exact Or.inr (Or.inr ⟨rfl, rfl⟩)
      clear hCdef hown hown' hgrow hO1 tW hnew hrow hcut hT T1
      go_wp2_with fail
      refine wp_region_staged [27, 28] C (by kernel_rfl) (by kernel_rfl) (by kernel_rfl) s0 ?_
      repeat (first
        | (refine stage_read (by go_simp) (by rfl) ?_
           apply Exists.intro
           refine ⟨fun j W hW b K Q hK => ?_, fun K hK => ?_⟩
           obtain ⟨q1, q2, q3, q4⟩ := hc j W hW
           go_simp
           exact hK W hW
           go_simp
           refine hK _ ?_
           clear hK K))
      refine stage_turn (by go_simp) (by rfl) ?_
      apply Exists.intro
      refine ⟨fun W hW b K Q hK => ?_, fun K hK => ?_⟩
      have hWe := e0 W hW
      subst hWe
      go_simp
      have s1' := s1
      rw [hW1] at s1'
      exact hK _ s1'
      go_simp
      refine hK _ ?_
      clear hK K
      refine stage_turn (by go_simp) (by rfl) ?_
      apply Exists.intro
      refine ⟨fun W hW b K Q hK => ?_, fun K hK => ?_⟩
      have hWe := e1 W hW
      subst hWe
      simp only [execOp, resolve, invoke, builtin, Sem.run_bind, Sem.run_pure, Result.andThen_ok, List.map_toArray, List.map_cons, List.map_nil]
      show Oper.upon _ _ b K Q ((Sem.run Tryz.prog (Builtin.append_ #[32, 32] 32 #[.slice lo k lc, .slice (some ⟨wr.heap.size, 0, none⟩) 1 1]) _).andThen fun a w' => Result.ok (Next.value a) w')
      rw [hrun]
      exact hK _ s2
      go_simp
      refine hK _ ?_
      clear hK K
      refine stage_read (by go_simp) (by rfl) ?_
      apply Exists.intro
      refine ⟨fun j W hW b K Q hK => ?_, fun K hK => ?_⟩
      go_simp
      exact hK W hW
      go_simp
      refine hK _ ?_
      clear hK K
      refine stage_nil ?_
      intro w2 hw2
      have hWe := e2 w2 hw2
      subst hWe
      go_wp2
      go_roundw
      case rel => exact ⟨k + 1, by go_num, by omega, HO7.out, T7⟩
      case measure => simp [intOf]; omega
    · obtain rfl : n = k := by omega
      have HOW : Hid _ := hown
      clear hown
      go_wp2
      go_ret
      first | exact ⟨lo, lc, rfl, HOW.out, hT⟩ | exact ⟨lo, ⟨lc, rfl, HOW.out⟩, hT⟩
theorem rfiles_any (rb : Nat) (d : Dsk) (v : Value) (acts : Int) (w : World) (h : RW w rb d v acts) (hl : (d.m.length + 1) * 40 ≤ 140737488355328) (hla : ∀ p ∈ d.m, p.2.la ≤ p.2.bs.length ∧ p.2.bs.length ≤ 9223372036854775807) :
    Calls Tryz.prog 30 #[.pointer (some ⟨rb, 0, none⟩)] w fun x w' => ∃ ao cp, x = .returned (.slice ao d.m.length cp) ∧ FLs w' ao d.m.length (rnm d.m) (rbs d.m) ∧ Tch (fun _ => False) w w' := by
  refine (rfiles_row rb d v acts w h hl hla).mono ?_
  rintro x w' ⟨ao, cp, rfl, ho, ht⟩
  exact ⟨ao, cp, rfl, fls_row ho, ht⟩
end Go.Proofs.YtjambfbibeihiaaGreat
