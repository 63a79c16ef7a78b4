import Derived.Test.YtmaekkhmiafnmaaGreatDoorEZ0
import Derived.Test.YtmaekkhmiafnmaaGreatDoorEC4
import Derived.Lib.QuietBelow
import Derived.Test.YtmaekkhmiafnmaaGreatDoorVLd
import Derived.Shelf.Strings.Builder1
set_option maxHeartbeats 4000000
set_option maxRecDepth 100000
namespace Go.Proofs.YtmaekkhmiafnmaaGreatDoor
open Go.RowKit Go Go.Lib Go.Sort
theorem shp4_of {w : World} (h : HSh w) {o : Nat} (ho : o < 32) : w.cell? ⟨0, o * 4, none⟩ = some (.string (wd o)) ∧ w.cell? ⟨0, o * 4 + 1, none⟩ = some (.int .i64 (lvl o : Nat)) ∧ w.cell? ⟨0, o * 4 + 2, none⟩ = some (.int .i64 (few o : Nat)) ∧ w.cell? ⟨0, o * 4 + 3, none⟩ = some (.int .i64 (mst o : Nat)) := by
  have e : o * 4 = 4 * o + 0 := by omega
  have e1 : o * 4 + 1 = 4 * o + 1 := by omega
  have e2 : o * 4 + 2 = 4 * o + 2 := by omega
  have e3 : o * 4 + 3 = 4 * o + 3 := by omega
  rw [e1, e2, e3, e]
  exact ⟨h.at ho 0 (by omega), h.at ho 1 (by omega), h.at ho 2 (by omega), h.at ho 3 (by omega)⟩
theorem words_any (o : Nat) (no : Bool) (b : Nat) (w : World) (ho : o < 32) (hs : HSh w) (c0 : w.cell? ⟨b, 0, none⟩ = some (.int .i64 (o : Nat))) (c1 : w.cell? ⟨b, 1, none⟩ = some (.bool no)) :
    Calls Tryz.prog 58 #[ptV b] w fun x w' => x = .returned (.string (wdT o no)) ∧ w' = w := by
  obtain ⟨d0, _, _, _⟩ := shp4_of hs ho
  have hoI : (o : Int) < 32 := by omega
  have hd := wd_size o
  obtain ⟨R, hR⟩ : ∃ R, R = wdT o no := ⟨_, rfl⟩
  rw [← hR]
  obtain ⟨u, hu⟩ : ∃ u, u = wd o := ⟨_, rfl⟩
  unfold wdT at hR
  rw [← hu] at hR d0 hd
  clear hu hs ho
  cases no with
  | false =>
    have HR : Hid (R = u) := hR
    clear hR
    go_enter Tryz.func58, Tryz.ntmps58
    go_wp2_with fail
    go_ret
    exact ⟨by rw [HR.out]; rfl, rfl⟩
  | true =>
    rw [if_neg (by simp)] at hR
    by_cases h : o = 11
    · have HR : Hid (R = u ++ ⟨#[32, 110, 111, 116]⟩) := (show _ = _ from by rw [hR, if_pos h])
      subst h
      clear hR
      go_enter Tryz.func58, Tryz.ntmps58
      go_wp2_with fail
      go_ret
      exact ⟨by rw [HR.out]; rfl, rfl⟩
    · have HR : Hid (R = ⟨#[110, 111, 116, 32]⟩ ++ u) := (show _ = _ from by rw [hR, if_neg h])
      have ee : ((o : Int) == 11) = false := by simp; omega
      clear hR
      go_enter Tryz.func58, Tryz.ntmps58
      go_wp2_with fail
      go_ret
      exact ⟨by rw [HR.out]; rfl, rfl⟩
theorem Tch.regrown (w : World) (d : Nat) (os : Array Obj) : Tch (fun _ => False) w (grow (redrawn w d) os) := Tch.of_below (below_regrown w d os) (Nat.le_refl _)
theorem regrown_calls {P : Program} {f : FuncId} {args : Array Value} {v : Value} {w : World} (h : ∀ W, Tch (fun _ => False) w W → Calls P f args W fun x w' => x = .returned v ∧ Tch (fun _ => False) W w') (d : Nat) (os : Array Obj) : Calls P f args (grow (redrawn w d) os) fun e w'' => e = .returned v ∧ ∃ p : Regrown, w'' = grow (redrawn w p.d) p.os :=
  Calls.regrown_of ((h _ (Tch.regrown w d os)).mono fun _ _ ⟨he, t⟩ => ⟨he, t.below (Nat.le_refl _) (fun _ _ h => h)⟩)
structure PrC (W : World) (d : Nat) (x : Nat × ByteArray) : Prop where
  lv : ∃ o : Nat, o < 32 ∧ W.cell? ⟨d, 0, none⟩ = some (.int .i64 (o : Nat)) ∧ x.1 = lvl o
  sz : x.2.size ≤ 3000000
  sh : HSh W
  pr : Calls Tryz.prog 12 #[ptV d] W fun y w' => y = .returned (.string x.2) ∧ Tch (fun _ => False) W w'
theorem within_any (k : Nat) (x : Nat × ByteArray) (d : Nat) (w : World) (h : PrC w d x) :
    Calls Tryz.prog 24 #[ptV d, .int .i64 (k : Nat)] w fun y w' => y = .returned (.string (wiP k x)) ∧ Tch (fun _ => False) w w' := by
  obtain ⟨⟨o, ho, c0, hx⟩, hsz, hs, q⟩ := h
  obtain ⟨_, d1, _, _⟩ := shp4_of hs ho
  have hoI : (o : Int) < 32 := by omega
  obtain ⟨l, t⟩ := x
  simp only at hx hsz q
  subst hx
  obtain ⟨u, hu⟩ : ∃ u, u = lvl o := ⟨_, rfl⟩
  have hul : u ≤ 9 := by
    have : ∀ k, k < 32 → lvl k ≤ 9 := by decide
    rw [hu]; exact this o ho
  obtain ⟨R, hR⟩ : ∃ R, R = wiP k (lvl o, t) := ⟨_, rfl⟩
  rw [← hR]
  unfold wiP at hR
  simp only at hR
  rw [← hu] at hR d1
  clear hu hs ho
  by_cases hlt : u < k
  · have HR : Hid (R = ⟨#[40]⟩ ++ t ++ ⟨#[41]⟩) := (show _ = _ from by rw [hR, if_pos hlt])
    have hI : (u : Int) < (k : Int) := by omega
    clear hR
    go_enter Tryz.func24, Tryz.ntmps24
    go_wp2_with (go_at_call 12; refine q.mono ?_; rintro y v1 ⟨rfl, t1⟩)
    go_ret
    exact ⟨by rw [HR.out]; rfl, t1⟩
  · have HR : Hid (R = t) := (show _ = _ from by rw [hR, if_neg hlt])
    have hI : ¬ (u : Int) < (k : Int) := by omega
    clear hR
    go_enter Tryz.func24, Tryz.ntmps24
    go_wp2_with (go_at_call 12; refine q.mono ?_; rintro y v1 ⟨rfl, t1⟩)
    go_ret
    exact ⟨by rw [HR.out]; rfl, t1⟩
def PPt (w : World) (ao : Option Addr) (ps : List (Nat × ByteArray)) : Prop := ∀ (k : Nat) (hk : k < ps.length), ∃ g i, ao = some ⟨g, i, none⟩ ∧ ∃ d, ∀ W, Tch (fun i => w.heap.size ≤ i) w W → W.cell? ⟨g, i + k, none⟩ = some (ptV d) ∧ PrC W d ps[k]
theorem PPt.at {w : World} {g i : Nat} {ps : List (Nat × ByteArray)} (h : PPt w (some ⟨g, i, none⟩) ps) {k : Nat} {x : Nat × ByteArray} (hk : ps[k]? = some x) : ∃ d, ∀ W, Tch (fun i => w.heap.size ≤ i) w W → W.cell? ⟨g, i + k, none⟩ = some (ptV d) ∧ PrC W d x := by
  obtain ⟨h1, rfl⟩ := List.getElem?_eq_some_iff.1 hk
  obtain ⟨g', i', e, d, hd⟩ := h k h1
  injection e with e
  injection e with e1 e2
  subst e1; subst e2
  exact ⟨d, hd⟩
theorem PPt.tch {w w1 : World} {ao : Option Addr} {ps : List (Nat × ByteArray)} (h : PPt w ao ps) (t : Tch (fun i => w.heap.size ≤ i) w w1) : PPt w1 ao ps := fun k hk => by
  obtain ⟨g, i, e, d, hd⟩ := h k hk
  exact ⟨g, i, e, d, fun W tW => hd W (t.trans' (tW.mono fun j hj h => by have := t.size; have h : w1.heap.size ≤ j := h; show w.heap.size ≤ j; omega))⟩
theorem PPt.some {w : World} {ao : Option Addr} {ps : List (Nat × ByteArray)} (h : PPt w ao ps) (h0 : 0 < ps.length) : ∃ g i, ao = some ⟨g, i, none⟩ ∧ g < w.heap.size := by
  obtain ⟨g, i, e, d, hd⟩ := h 0 h0
  exact ⟨g, i, e, cell_lt (hd w (Tch.refl _ _)).1⟩
end Go.Proofs.YtmaekkhmiafnmaaGreatDoor
namespace Go.Proofs.YtmaekkhmiafnmaaGreatDoor
open Go.RowKit Go Go.Lib
theorem bld_siz : (Tryz.prog.info? 120).map (·.size) = some 2 := by kernel_rfl
theorem bld_lies : liesAt Tryz.prog Tryz.prog.depth 120 (2 / Tryz.prog.cellsOf 120) 0 120 1 = true := by kernel_rfl
theorem bld_extra : Builder.Extra Tryz.prog Tryz.laysBS_ren where
  sizeBuilder := by kernel_rfl
  liesBuilder := by kernel_rfl
  t5 := Tryz.underlying5
  a5 := Tryz.isAgg5
  z5 := Tryz.sizeOf5
  v5 := Tryz.zeroValue5
  infoByte := by kernel_rfl
  cellsByte := by kernel_rfl
  sizeByte := by kernel_rfl
  neB5 := by decide
abbrev BldAt (B b : Nat) (p : Value) (bs : List Value) (w : World) : Prop := Lib.BuilderAt 120 5 B b p bs w
abbrev Bld (B b : Nat) (bs : List Value) (w : World) : Prop := Lib.IsBuilder 120 5 B b bs w
theorem copyCheck_used (b : Nat) (w : World) (h0 : w.cell? ⟨b, 0, none⟩ = some (.pointer (some ⟨b, 0, none⟩))) :
    Calls Tryz.prog 84 #[.pointer (some ⟨b, 0, none⟩)] w fun e w' => e = .returned (.tuple #[]) ∧ w' = w := by
  obtain ⟨j, hj, _⟩ := Option.map_eq_some_iff.1 bld_siz
  have u70 := run_underlying Tryz.underlying117
  go_enter Tryz.func84, Tryz.ntmps84
  go_wp2
  first
    | rw [Lib.run_neq_ptr_same w _ Tryz.underlying117 hj]
    | skip
  go_wp2
  go_end0
  exact ⟨rfl, rfl⟩
theorem copyCheck_fresh (b : Nat) (w : World) (h0 : w.cell? ⟨b, 0, none⟩ = some (.pointer none)) (hsh : w.shape? b = some (120, 2)) (hfz : w.frozen? ⟨b, 0, none⟩ = false) :
    Calls Tryz.prog 84 #[.pointer (some ⟨b, 0, none⟩)] w fun e w' => e = .returned (.tuple #[]) ∧ w' = w.setCell ⟨b, 0, none⟩ (.pointer (some ⟨b, 0, none⟩)) := by
  obtain ⟨j, hj, hjs⟩ := Option.map_eq_some_iff.1 bld_siz
  go_enter Tryz.func84, Tryz.ntmps84
  go_wp2
  rw [Lib.run_to_unsafe w ⟨b, 0, none⟩ Tryz.underlying117 Tryz.underlying175 hj (by rw [hjs]; decide) hsh (Nat.zero_lt_succ 1)]
  simp only [Result.andThen]
  rw [Oper.upon_value]
  go_wp2
  rw [run_callFunc_extern Tryz.func126 (by kernel_rfl) (by kernel_rfl) (by kernel_rfl) (e := Extern.AbiNoEscape.same) (by kernel_rfl)]
  rw [Lib.run_noEscape]
  simp only [Result.andThen]
  rw [Oper.upon_value]
  go_wp2
  rw [Lib.run_from_unsafe w ⟨b, 0, none⟩ Tryz.underlying175 Tryz.underlying117 hj hsh bld_lies]
  simp only [Result.andThen]
  rw [Oper.upon_value]
  go_wp2
  go_end0
  exact ⟨rfl, rfl⟩
theorem copyCheck_any (B b : Nat) (bs : List Value) (w : World) (h : Bld B b bs w) :
    Calls Tryz.prog 84 #[.pointer (some ⟨b, 0, none⟩)] w fun e w' => e = .returned (.tuple #[]) ∧ (BldAt B b (.pointer (some ⟨b, 0, none⟩)) bs w' ∧ Below B w w') := by
  rcases h with h | h
  · refine (copyCheck_fresh b w h.cell0 h.shape h.frozen0).mono ?_
    rintro e w' ⟨rfl, rfl⟩
    exact ⟨rfl, h.used _, (Below.refl B w).setCell (p := ⟨b, 0, none⟩) h.1 _⟩
  · refine (copyCheck_used b w h.cell0).mono ?_
    rintro e w' ⟨rfl, rfl⟩
    exact ⟨rfl, h, Below.refl B _⟩
theorem writeString_any (B b : Nat) (bs : List Value) (s : ByteArray) (w : World) (h : Bld B b bs w) (hlen : bs.length + s.size ≤ 140737488355328) (hBw : B ≤ w.heap.size) :
    Calls Tryz.prog 56 #[.pointer (some ⟨b, 0, none⟩), .string s] w fun e w' => e = .returned (.tuple #[.int .i64 s.size, .nilIface]) ∧ (BldAt B b (.pointer (some ⟨b, 0, none⟩)) (bs ++ Lib.strCells s) w' ∧ Below B w w') := by
  obtain ⟨i0, hi, hz0, hz1, hz2⟩ := info_parts bld_extra.infoByte
  go_enter Tryz.func56, Tryz.ntmps56
  go_wp2_with (go_at_call 84; refine (copyCheck_any B b bs _ h).mono ?_)
  rintro e w1 ⟨rfl, h1, hb1⟩
  obtain ⟨hB, v, hbk, hown, hne⟩ := h1
  have c0 : w1.cell? ⟨b, 0, none⟩ = some (.pointer (some ⟨b, 0, none⟩)) := by rw [Lib.cell_of_heap hbk]; rfl
  have c1 : w1.cell? ⟨b, 1, none⟩ = some v := by rw [Lib.cell_of_heap hbk]; rfl
  go_wp2_with (at_builtin; refine Lib.wpList_append_own_string _ rfl _ _ 118 9 rfl B 5 i0 Tryz.underlying118 Tryz.underlying9 hi hz0 hz1 hz2 _ _ _ rfl hown s rfl ?c3 ?c4 ?c5 ?_)
  case c3 => unfold maxLen; omega
  case c4 => omega
  case c5 => have := hb1.size; omega
  intro v' w2 hown' hgrow _
  have hlt : b < w1.heap.size := by
    rcases Nat.lt_or_ge b w1.heap.size with h' | h'
    · exact h'
    · simp [Array.getElem?_eq_none h'] at hbk
  have hb2 : w2.heap[b]? = some (.cells #[.pointer (some ⟨b, 0, none⟩), v] 120 (0, 0)) := by
    rw [hgrow.block b hlt (fun e => hne e.symm)]
    exact hbk
  have d0 : w2.cell? ⟨b, 0, none⟩ = some (.pointer (some ⟨b, 0, none⟩)) := by rw [Lib.cell_of_heap hb2]; rfl
  have d1 : w2.cell? ⟨b, 1, none⟩ = some v := by rw [Lib.cell_of_heap hb2]; rfl
  have f1 : w2.frozen? ⟨b, 1, none⟩ = false := Lib.frozen_of_heap hb2 1
  obtain ⟨ao, n', cap, rfl⟩ : ∃ ao n' cap, v' = .slice ao n' cap := by
    rcases hown'.2 with ⟨hv, _⟩ | ⟨g, cap, cur, hv, _⟩
    · exact ⟨_, _, _, hv⟩
    · exact ⟨_, _, _, hv⟩
  go_wp2
  go_ret2
  refine ⟨rfl, ?_, ?_⟩
  · exact Lib.BuilderAt.put (T := 120) (e := 5) hB hb2 (bs' := bs ++ Lib.strCells s) (by simpa [Lib.strCells_length] using hown') bld_extra.neB5
  · exact (hb1.grown hgrow (by have := hb1.size; omega) (fun k hk => (hown.lt k hk).1)).setCell (p := ⟨b, 1, none⟩) hB _
theorem bldString_any (B b : Nat) (l : List UInt8) (w : World) (h : Bld B b (Lib.byteCells l) w) (hBw : B ≤ w.heap.size) :
    Calls Tryz.prog 57 #[.pointer (some ⟨b, 0, none⟩)] w fun e w' => e = .returned (.string ⟨l.toArray⟩) ∧ Below B w w' := Any.Builder_String_any Tryz.laysBS bld_extra B b l w h hBw
theorem Tch.of_below' {B : Nat} {a b : World} (h : Below B a b) : Tch (fun i => B ≤ i) a b := ⟨h.os, h.tape, h.output, h.size, fun i _ hn => h.block i (by have hn : ¬ B ≤ i := hn; omega)⟩
theorem Bld.tch {B b : Nat} {bs : List Value} {w w' : World} (h : Bld B b bs w) (t : Tch (fun _ => False) w w') : Bld B b bs w' := by
  have key : ∀ p, BldAt B b p bs w → BldAt B b p bs w' := fun p h => by
    obtain ⟨hB, v, hb, hown, hne⟩ := h
    exact ⟨hB, v, (t.block b (blk_lt hb) (fun h => h)).trans hb, own_tch hown t (fun _ _ h => h), hne⟩
  rcases h with h | h
  · exact Or.inl (key _ h)
  · exact Or.inr (key _ h)
theorem Bld.new (w : World) : Bld w.heap.size w.heap.size [] (w.alloc (.cells #[.pointer none, .slice none 0 0] 120)) :=
  Or.inl ⟨Nat.le_refl _, .slice none 0 0, alloc_new _ _, ⟨rfl, Or.inl ⟨rfl, rfl⟩⟩, by simp [Value.ownBlock]⟩
end Go.Proofs.YtmaekkhmiafnmaaGreatDoor
namespace Go.Proofs.YtmaekkhmiafnmaaGreatDoor
open Go.RowKit Go Go.Lib
theorem bs_ext {a b : ByteArray} (h : a.data.toList = b.data.toList) : a = b := by
  apply ByteArray.ext
  exact Array.toList_inj.1 h
theorem bs_app (a b : ByteArray) : (a ++ b).data.toList = a.data.toList ++ b.data.toList := by simp
def PLs (N : Nat) (T : ByteArray) (ps : List (Nat × ByteArray)) (w wr : World) (k : Nat) : Prop :=
  ∃ l : List UInt8, l.length ≤ T.size ∧ T.data.toList = l ++ (prLs (decide (k = 0)) (ps.drop k)).data.toList ∧ Bld N N (Lib.byteCells l) wr ∧ Tch (fun i => N ≤ i) w wr ∧ N < wr.heap.size
theorem printList_any (ps : List (Nat × ByteArray)) (ao : Option Addr) (c : Nat) (w : World) (hp : PPt w ao ps) (hsz : (prLs true ps).size ≤ 100000000) (hl : ps.length ≤ 1000000) :
    Calls Tryz.prog 26 #[.slice ao ps.length c] w fun x w' => x = .returned (.string (prLs true ps)) ∧ Tch (fun _ => False) w w' := by
  obtain ⟨T, hT⟩ : ∃ T, T = prLs true ps := ⟨_, rfl⟩
  rw [← hT] at hsz ⊢
  obtain ⟨n, hn⟩ : ∃ n, n = ps.length := ⟨_, rfl⟩
  rw [← hn] at hl ⊢
  obtain ⟨N, hN⟩ : ∃ N, N = w.heap.size := ⟨_, rfl⟩
  have HP : Hid (PPt w ao ps) := hp
  have Hn : Hid _ := hn
  have HN : Hid _ := hN
  obtain ⟨w1, hw1⟩ : ∃ w1, w1 = w.alloc (.cells #[.pointer none, .slice none 0 0] 120) := ⟨_, rfl⟩
  have Hw1 : Hid _ := hw1
  have HJ : Hid (PLs N T ps w w1 0) := ⟨[], Nat.zero_le _, by rw [hT]; rfl, by rw [hw1, hN]; exact Bld.new w, by rw [hw1]; exact Tch.alloc _ _ _, by rw [hw1, hN]; simp⟩
  clear hp hn hN hw1 hT
  go_enter Tryz.func26, Tryz.ntmps26
  go_wp2_with fail
  rw [← Hw1.out, ← HN.out]
  go_loopw [8] (fun iv wr => ∃ k : Nat, iv = .int .i64 k ∧ k ≤ n ∧ Hid (PLs N T ps w wr k)) (fun iv _ => n - (RowKit.intOf iv).toNat)
  case atStart => exact ⟨0, rfl, by omega, HJ⟩
  case round =>
    obtain ⟨k, rfl, hk, HK⟩ := hrel
    by_cases hlt : k < n
    · have hltI : (k : Int) < (n : Int) := by omega
      have hkl : k < ps.length := by rw [← Hn.out]; exact hlt
      obtain ⟨g, i, rfl, d, hd⟩ := HP.out k hkl
      obtain ⟨l, hll, hTl, hB, tW, hNl⟩ := HK.out
      have cd := (hd wr (tW.mono (fun j _ h => by rw [← HN.out]; exact h))).1
      obtain ⟨p, hpk⟩ : ∃ p, p = ps[k] := ⟨_, rfl⟩
      rw [← hpk] at hd
      have hdrop : ps.drop k = p :: ps.drop (k + 1) := by rw [hpk, ← List.drop_eq_getElem_cons]
      by_cases hk0 : k = 0
      · subst hk0
        rw [Nat.add_zero] at cd
        have HT2 : Hid (T.data.toList = l ++ p.2.data.toList ++ (prLs false (ps.drop (0 + 1))).data.toList) := (show _ = _ from by
          rw [hTl, hdrop]
          show l ++ (p.2 ++ prLs false (ps.drop (0 + 1))).data.toList = _
          rw [bs_app, List.append_assoc])
        have Hd : Hid _ := hd
        have HB : Hid (Bld N N (Lib.byteCells l) wr ∧ Tch (fun i => N ≤ i) w wr ∧ N < wr.heap.size) := ⟨hB, tW, hNl⟩
        clear hd hB tW hNl hTl hdrop hpk HK
        go_wp2_with fail
        refine ((Hd.out wr (HB.out.2.1.mono (fun j _ h => by rw [← HN.out]; exact h))).2.pr).mono ?_
        rintro y w2 ⟨rfl, t2⟩
        have hlen : l.length + p.2.size ≤ T.size := by
          have h1 := congrArg List.length HT2.out
          simp only [List.length_append, Array.length_toList] at h1
          have h2 : T.size = T.data.size := rfl
          have h3 : p.2.size = p.2.data.size := rfl
          omega
        go_wp2_with fail
        refine (writeString_any N N (Lib.byteCells l) p.2 w2 (HB.out.1.tch t2) (by rw [Lib.byteCells_length]; omega) (by have := t2.size; have := HB.out.2.2; omega)).mono ?_
        rintro y w3 ⟨rfl, hB3, hb3⟩
        have HB3 : Hid (PLs N T ps w w3 (0 + 1)) := by
          refine ⟨l ++ p.2.data.toList, by rw [List.length_append, Array.length_toList]; exact hlen, by rw [HT2.out]; rfl, ?_, ?_, ?_⟩
          · rw [Lib.byteCells_append]; exact Or.inr hB3
          · exact (HB.out.2.1.trans' (t2.mono (fun _ _ h => h.elim))).trans' (Tch.of_below' hb3)
          · have := t2.size; have := hb3.size; have := HB.out.2.2; omega
        clear hB3 hb3 t2
        go_wp2_with fail
        go_roundw
        case rel => exact ⟨0 + 1, by first | trivial | rfl, by omega, HB3⟩
        case measure => simp [RowKit.intOf]; omega
      · have HT2 : Hid (T.data.toList = l ++ [44, 32] ++ p.2.data.toList ++ (prLs false (ps.drop (k + 1))).data.toList) := (show _ = _ from by
          rw [hTl, hdrop, decide_eq_false hk0]
          show l ++ ((⟨#[44, 32]⟩ ++ p.2) ++ prLs false (ps.drop (k + 1))).data.toList = _
          rw [bs_app, bs_app, List.append_assoc, List.append_assoc, List.append_assoc])
        have Hd : Hid _ := hd
        have HB : Hid (Bld N N (Lib.byteCells l) wr ∧ Tch (fun i => N ≤ i) w wr ∧ N < wr.heap.size) := ⟨hB, tW, hNl⟩
        have hkI : (0 : Int) < (k : Int) := by omega
        have hlen : l.length + 2 + p.2.size ≤ T.size := by
          have h1 := congrArg List.length HT2.out
          simp only [List.length_append, Array.length_toList, List.length_cons, List.length_nil] at h1
          have h2 : T.size = T.data.size := rfl
          have h3 : p.2.size = p.2.data.size := rfl
          omega
        clear hd hB tW hNl hTl hdrop hpk HK
        go_wp2_with fail
        refine (writeString_any N N (Lib.byteCells l) ⟨#[44, 32]⟩ wr HB.out.1 (by rw [Lib.byteCells_length]; show _ + 2 ≤ _; omega) (by have := HB.out.2.2; omega)).mono ?_
        rintro y w3 ⟨rfl, hB3, hb3⟩
        have HB3 : Hid (Bld N N (Lib.byteCells (l ++ [44, 32])) w3 ∧ Tch (fun i => N ≤ i) w w3 ∧ N < w3.heap.size) := by
          refine ⟨?_, HB.out.2.1.trans' (Tch.of_below' hb3), by have := hb3.size; have := HB.out.2.2; omega⟩
          rw [Lib.byteCells_append]; exact Or.inr hB3
        clear hB3 hb3
        go_wp2_with fail
        refine ((Hd.out w3 (HB3.out.2.1.mono (fun j _ h => by rw [← HN.out]; exact h))).2.pr).mono ?_
        rintro y w4 ⟨rfl, t4⟩
        go_wp2_with fail
        refine (writeString_any N N (Lib.byteCells (l ++ [44, 32])) p.2 w4 (HB3.out.1.tch t4) (by rw [Lib.byteCells_length, List.length_append]; show _ + 2 + _ ≤ _; omega) (by have := t4.size; have := HB3.out.2.2; omega)).mono ?_
        rintro y w5 ⟨rfl, hB5, hb5⟩
        have HB5 : Hid (PLs N T ps w w5 (k + 1)) := by
          refine ⟨l ++ [44, 32] ++ p.2.data.toList, by rw [List.length_append, List.length_append, Array.length_toList]; exact hlen, by rw [HT2.out, decide_eq_false (by omega)], ?_, ?_, ?_⟩
          · rw [Lib.byteCells_append]; exact Or.inr hB5
          · exact (HB3.out.2.1.trans' (t4.mono (fun _ _ h => h.elim))).trans' (Tch.of_below' hb5)
          · have := t4.size; have := hb5.size; have := HB3.out.2.2; omega
        clear hB5 hb5 t4
        go_wp2_with fail
        go_roundw
        case rel => exact ⟨k + 1, by first | trivial | rfl, by omega, HB5⟩
        case measure => simp [RowKit.intOf]; omega
    · have hltI : ¬ (k : Int) < (n : Int) := by omega
      obtain ⟨l, hll, hTl, hB, tW, hNl⟩ := HK.out
      rw [List.drop_of_length_le (by have := Hn.out; omega)] at hTl
      have hTl2 : T = ⟨l.toArray⟩ := bs_ext (by rw [hTl]; simp [prLs])
      have HTl : Hid _ := hTl2
      clear hTl hTl2 HK
      go_wp2_with fail
      refine (bldString_any N N l wr hB (by omega)).mono ?_
      rintro y w2 ⟨rfl, hb⟩
      go_wp2_with fail
      go_ret
      exact ⟨by rw [HTl.out]; rfl, (tW.trans' (Tch.of_below' hb)).mono (fun j hj h => by rw [HN.out] at h; have h : w.heap.size ≤ j := h; omega)⟩
end Go.Proofs.YtmaekkhmiafnmaaGreatDoor
namespace Go.Proofs.YtmaekkhmiafnmaaGreatDoor
open Go.RowKit Go Go.Lib Go.Sort
theorem prCh_two (a b : Nat × ByteArray) (l : List (Nat × ByteArray)) : prCh (a :: b :: l) = ⟨#[32, 119, 104, 101, 110, 32]⟩ ++ a.2 ++ ⟨#[32, 116, 104, 101, 110, 32]⟩ ++ b.2 ++ prCh l := rfl
theorem printChoice_any (ps : List (Nat × ByteArray)) (ao : Option Addr) (c : Nat) (w : World) (hp : PPt w ao ps) (hsz : (prCh ps).size ≤ 100000000) (hl : ps.length ≤ 1000000) (hc : ps.length ≤ c) (h2 : 2 ≤ ps.length) :
    Calls Tryz.prog 25 #[.slice ao ps.length c] w fun x w' => x = .returned (.string (⟨#[99, 97, 115, 101]⟩ ++ prCh ps ++ ⟨#[32, 101, 110, 100]⟩)) ∧ Tch (fun _ => False) w w' := by
  obtain ⟨g, i, rfl, _⟩ := hp.some (by omega)
  obtain ⟨T, hT⟩ : ∃ T, T = ⟨#[99, 97, 115, 101]⟩ ++ prCh ps := ⟨_, rfl⟩
  have hTs : T.size ≤ 100000004 := by rw [hT, ByteArray.size_append]; show 4 + _ ≤ _; omega
  rw [← hT]
  obtain ⟨n, hn⟩ : ∃ n, n = ps.length := ⟨_, rfl⟩
  rw [← hn] at hl hc h2 ⊢
  have HP : Hid (PPt w (some ⟨g, i, none⟩) ps) := hp
  have Hn : Hid _ := hn
  have HJ : Hid (n ≤ c ∧ (n ≠ 0 → some (⟨g, i, none⟩ : Addr) = some ⟨g, i + 0, none⟩) ∧ T = ⟨#[99, 97, 115, 101]⟩ ++ prCh (ps.drop 0)) := ⟨hc, fun _ => rfl, hT⟩
  have HZ : Hid (T.size ≤ 100000004) := hTs
  clear hp hn hT hc hTs
  go_enter Tryz.func25, Tryz.ntmps25
  go_wp2_with fail
  go_loopw [0, 3] (fun sv ov wr => ∃ (k m c' : Nat) (so : Option Addr) (s : ByteArray), sv = .slice so m c' ∧ ov = .string s ∧ k + m = n ∧ Hid (m ≤ c' ∧ (m ≠ 0 → so = some ⟨g, i + k, none⟩) ∧ T = s ++ prCh (ps.drop k)) ∧ Hid (Tch (fun _ => False) w wr)) (fun sv _ _ => match sv with | .slice _ m _ => m | _ => 0)
  case atStart => exact ⟨0, n, c, some ⟨g, i, none⟩, _, rfl, rfl, by omega, HJ, Tch.refl _ _⟩
  case round =>
    obtain ⟨k, m, c', so, s, rfl, rfl, hkm, HK, HT⟩ := hrel
    by_cases hm : 1 < m
    · obtain ⟨m, rfl⟩ : ∃ m', m = m' + 2 := ⟨m - 2, by omega⟩
      have hmI : (1 : Int) < ((m + 2 : Nat) : Int) := by omega
      have hso := HK.out.2.1 (by omega)
      subst hso
      have hkl : k + 1 < ps.length := by have := Hn.out; omega
      obtain ⟨a, ha⟩ : ∃ a, a = ps[k] := ⟨_, rfl⟩
      obtain ⟨b, hb⟩ : ∃ b, b = ps[k + 1] := ⟨_, rfl⟩
      obtain ⟨d, hd⟩ := HP.out.at (k := k) (x := a) (by rw [ha]; exact List.getElem?_eq_getElem (by omega))
      obtain ⟨d1, hd1⟩ := HP.out.at (k := k + 1) (x := b) (by rw [hb]; exact List.getElem?_eq_getElem hkl)
      have hdrop : ps.drop k = a :: b :: ps.drop (k + 2) := by
        rw [List.drop_eq_getElem_cons (show k < ps.length by omega), List.drop_eq_getElem_cons hkl, ← ha, ← hb]
      have hTT : T = s ++ (⟨#[32, 119, 104, 101, 110, 32]⟩ ++ a.2 ++ ⟨#[32, 116, 104, 101, 110, 32]⟩ ++ b.2) ++ prCh (ps.drop (k + 2)) := by
        rw [HK.out.2.2, hdrop, prCh_two]
        exact ByteArray.append_assoc.symm
      have hsz2 : s.size + (6 + a.2.size + 6 + b.2.size) ≤ T.size := by
        have h := congrArg ByteArray.size hTT
        simp only [ByteArray.size_append] at h
        have e1 : (⟨#[32, 119, 104, 101, 110, 32]⟩ : ByteArray).size = 6 := rfl
        have e2 : (⟨#[32, 116, 104, 101, 110, 32]⟩ : ByteArray).size = 6 := rfl
        omega
      have hz := HZ.out
      have r1 : ¬ 9223372036854775807 < 6 + a.2.size := by omega
      have r2 : ¬ 9223372036854775807 < 6 + a.2.size + 6 := by omega
      have r3 : ¬ 9223372036854775807 < 6 + a.2.size + 6 + b.2.size := by omega
      have r4 : ¬ 9223372036854775807 < s.size + (6 + a.2.size + 6 + b.2.size) := by omega
      have HTT : Hid _ := hTT
      obtain ⟨la, ta⟩ := a
      obtain ⟨lb, tb⟩ := b
      simp only at r1 r2 r3 r4 HTT hd hd1
      have q0 := (hd wr (HT.out.mono (fun _ _ h => h.elim))).1
      have q1 := (hd1 wr (HT.out.mono (fun _ _ h => h.elim))).1
      rw [show i + (k + 1) = i + k + 1 by omega] at q1
      have k0 := cell_regrown q0
      have k1 := cell_regrown q1
      have e1 := fun (d' : Nat) (os : Array Obj) => regrown_calls (w := wr) (fun W t => (hd W ((HT.out.trans' t).mono (fun _ _ h => h.elim))).2.pr) d' os
      have e2 := fun (d' : Nat) (os : Array Obj) => regrown_calls (w := wr) (fun W t => (hd1 W ((HT.out.trans' t).mono (fun _ _ h => h.elim))).2.pr) d' os
      simp only at e1 e2
      clear hd hd1 ha hb hdrop hTT hsz2 q0 q1 hkl
      have hm0 : (0 : Int) < (m : Int) + 2 := by omega
      have hm1 : (1 : Int) < (m : Int) + 2 := by omega
      go_wp2_with fail
      have hm0 : (0 : Int) < (m : Int) + 2 := by omega
      have hm1 : (1 : Int) < (m : Int) + 2 := by omega
      refine wp_region_quiet_below (by kernel_rfl) (by kernel_rfl) ?_
      repeat (quiet_step (fail))
      quiet_step ((go_at_call 12; exact e1 _ _))
      repeat (quiet_step (fail))
      quiet_step ((go_at_call 12; exact e2 _ _))
      repeat (quiet_step (fail))
      refine wpQuiet_nil ?_
      rintro w2 ⟨p, rfl⟩
      have T2 := Tch.regrown wr p.d p.os
      clear k0 k1 e1 e2
      have i1 : (2 : Int) ≤ (m : Int) + 2 := by omega
      have i2 : (m : Int) + 2 ≤ (c' : Int) := by have := HK.out.1; omega
      have i3 : (m : Int) + 2 - 2 = (m : Int) := by omega
      have hcm := HK.out.1
      by_cases hc2 : c' = 2
      · subst hc2
        obtain rfl : m = 0 := by omega
        go_wp2_with fail
        exact ⟨⟨k + 2, 0, 0, _, _, rfl, rfl, by omega, ⟨Nat.le_refl _, fun h => absurd rfl h, HTT.out⟩, HT.out.trans' T2⟩, by show 0 < 0 + 2; omega⟩
      · go_wp2_with fail
        exact ⟨⟨k + 2, m, c' - 2, some ⟨g, i + k + 2, none⟩, _, rfl, rfl, by omega, ⟨by omega, fun _ => by rw [Nat.add_assoc], HTT.out⟩, HT.out.trans' T2⟩, by show m < m + 2; omega⟩
    · have hm1 : m = 0 ∨ m = 1 := by omega
      have hz := HZ.out
      rcases hm1 with rfl | rfl
      · have hE : T = s := by
          rw [HK.out.2.2, List.drop_of_length_le (by have := Hn.out; omega)]
          show s ++ ⟨#[]⟩ = s
          exact ByteArray.append_empty
        have r1 : ¬ 9223372036854775807 < s.size + 4 := by rw [← hE]; omega
        have HE : Hid _ := hE
        clear hE
        go_wp2_with fail
        go_ret
        exact ⟨by rw [HE.out]; rfl, HT.out⟩
      · have hso := HK.out.2.1 (by omega)
        subst hso
        have hkl : k < ps.length := by have := Hn.out; omega
        obtain ⟨a, ha⟩ : ∃ a, a = ps[k] := ⟨_, rfl⟩
        obtain ⟨d, hd⟩ := HP.out.at (k := k) (x := a) (by rw [ha]; exact List.getElem?_eq_getElem hkl)
        have hE : T = s ++ (⟨#[32, 101, 108, 115, 101, 32]⟩ ++ a.2) := by
          rw [HK.out.2.2, List.drop_eq_getElem_cons hkl, List.drop_of_length_le (show ps.length ≤ k + 1 by have := Hn.out; omega), ← ha]
          rfl
        have hsz2 : s.size + (6 + a.2.size) = T.size := by
          have h := congrArg ByteArray.size hE
          simp only [ByteArray.size_append] at h
          have e1 : (⟨#[32, 101, 108, 115, 101, 32]⟩ : ByteArray).size = 6 := rfl
          omega
        have r1 : ¬ 9223372036854775807 < 6 + a.2.size := by omega
        have r2 : ¬ 9223372036854775807 < s.size + (6 + a.2.size) := by omega
        have r3 : ¬ 9223372036854775807 < s.size + (6 + a.2.size) + 4 := by omega
        have HE : Hid _ := hE
        obtain ⟨q0, q⟩ := hd wr (HT.out.mono (fun _ _ h => h.elim))
        have qp := q.pr
        clear hd ha hE hsz2 hkl q
        obtain ⟨la, ta⟩ := a
        simp only at r1 r2 r3 HE qp
        go_wp2_with (go_at_call 12; refine qp.mono ?_; rintro y w2 ⟨rfl, t2⟩)
        go_ret
        exact ⟨by rw [HE.out]; rfl, HT.out.trans' t2⟩
end Go.Proofs.YtmaekkhmiafnmaaGreatDoor
