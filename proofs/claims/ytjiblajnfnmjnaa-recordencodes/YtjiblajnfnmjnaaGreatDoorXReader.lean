import Derived.Test.YtjiblajnfnmjnaaGreatDoorDP1
import Derived.Test.YtjiblajnfnmjnaaGreatDoorVForm
import Derived.Test.YtjiblajnfnmjnaaGreatDoorWriter
import Derived.Deep.RegionWith
import Derived.Test.YtjiblajnfnmjnaaGreatDoorVLift
set_option maxHeartbeats 16000000
set_option maxRecDepth 100000
namespace Go.Proofs.YtjiblajnfnmjnaaGreatDoor.C
open Go.RowKit Go Go.Sort
theorem bl_col (x : Col) : bl (colB x) = bl x.nm ++ (32 :: (bl (kindB x.k) ++ (if x.nl then [32, 110, 117, 108, 108] else []))) := by
  unfold colB
  rw [bl_app, bl_app, bl_app]
  cases x.nl <;> simp [spB, nullW, bl]
theorem rtableOf6 (t : Tbl) (ao : Option Addr) (c : Nat) (w : World) (h : SL w ao (ccl t.cols)) (hr : RT t) : Calls Tryz.prog 51 #[tA t.id t.ver t.nm (.slice ao t.cols.length c) t.key] w fun x w' => x = .returned (.string (tabB t)) ∧ Tch (fun _ => False) w w' := by
  have i1 := hr.id
  have i2 := hr.ver
  have i3 := nm_size hr.nm
  have i4 := hr.len
  have i5 := hr.key
  obtain ⟨n, hn⟩ : ∃ n, n = t.cols.length := ⟨_, rfl⟩
  rw [← hn] at i4 i5 ⊢
  have HN : Hid (n = t.cols.length) := hn
  have HRT : Hid (RT t) := hr
  have HSL : Hid (∀ W, Tch (fun _ => False) w W → SL W ao (ccl t.cols)) := fun W tw => h.no tw
  obtain ⟨w0, hw0⟩ : ∃ w0, w0 = w.alloc (.cells #[.int .i64 t.id, .int .i64 t.ver, .string t.nm, .slice ao n c, .int .i64 t.key] 29) := ⟨_, rfl⟩
  have T0 : Tch (fun _ => False) w w0 := by rw [hw0]; exact Tch.alloc _ _ _
  have z0 : w0.heap.size = w.heap.size + 1 := by rw [hw0, World.size_alloc]
  obtain ⟨w1, hw1⟩ : ∃ w1, w1 = w0.alloc (.cells #[.string ⟨#[]⟩, .string ⟨#[105, 110, 116]⟩, .string ⟨#[116, 101, 120, 116]⟩, .string ⟨#[98, 111, 111, 108]⟩] 9) := ⟨_, rfl⟩
  have T1 : Tch (fun _ => False) w0 w1 := by rw [hw1]; exact Tch.alloc _ _ _
  have q1 : w1.heap[w.heap.size + 1]? = some (.cells #[.string ⟨#[]⟩, .string ⟨#[105, 110, 116]⟩, .string ⟨#[116, 101, 120, 116]⟩, .string ⟨#[98, 111, 111, 108]⟩] 9 (0, 0)) := by rw [hw1, ← z0]; exact heap_new w0 _
  have HB : Hid (∀ W, Tch (fun _ => False) w1 W → (W.cell? ⟨w.heap.size, 0, none⟩ = some (.int .i64 t.id) ∧ W.cell? ⟨w.heap.size, 1, none⟩ = some (.int .i64 t.ver) ∧ W.cell? ⟨w.heap.size, 2, none⟩ = some (.string t.nm) ∧ W.cell? ⟨w.heap.size, 3, none⟩ = some (.slice ao n c) ∧ W.cell? ⟨w.heap.size, 4, none⟩ = some (.int .i64 t.key)) ∧ Tch (fun _ => False) w W) := fun W tw => by
    have t2 : Tch (fun _ => False) w0 W := T1.trans' tw
    refine ⟨?_, T0.trans' t2⟩
    rw [hw0] at t2; exact box5 t2
  have HKD : Hid (∀ W, Tch (fun _ => False) w1 W → ∀ kk : Nat, 1 ≤ kk → kk ≤ 3 → W.cell? ⟨w.heap.size + 1, kk, none⟩ = some (.string (kindB (kk : Int)))) := fun W tw kk h1 h2 => by
    have hb := (tw.block _ (blk_lt q1) (fun h => h)).trans q1
    rw [blk_cell hb]
    rcases (by omega : kk = 1 ∨ kk = 2 ∨ kk = 3) with rfl | rfl | rfl <;> rfl
  have HD1 : Hid (∀ W, Calls Tryz.prog 50 #[.int .i64 t.id] W fun x w' => x = .returned (.string (itoB t.id)) ∧ Tch (fun _ => False) W w') := fun W => told6 t.id (by omega) (by omega) W
  have HD2 : Hid (∀ W, Calls Tryz.prog 50 #[.int .i64 t.ver] W fun x w' => x = .returned (.string (itoB t.ver)) ∧ Tch (fun _ => False) W w') := fun W => told6 t.ver (by omega) (by omega) W
  obtain ⟨D1, hD1⟩ : ∃ D1, D1 = itoB t.id := ⟨_, rfl⟩
  obtain ⟨D2, hD2⟩ : ∃ D2, D2 = itoB t.ver := ⟨_, rfl⟩
  have hkl : t.key.toNat < t.cols.length := by omega
  obtain ⟨KN, hKN⟩ : ∃ KN, KN = t.cols[t.key.toNat].nm := ⟨_, rfl⟩
  have s1 : D1.size ≤ 22 := by rw [hD1]; exact ito_size _ (by omega)
  have s2 : D2.size ≤ 22 := by rw [hD2]; exact ito_size _ (by omega)
  have s4 : KN.size ≤ 16 := by rw [hKN]; exact nm_size (hr.cols _ (List.getElem_mem _)).1
  obtain ⟨HEAD, hHEAD⟩ : ∃ HEAD, HEAD = bl (t.nm ++ ⟨#[32]⟩ ++ D1 ++ ⟨#[46]⟩ ++ D2 ++ ⟨#[32]⟩) := ⟨_, rfl⟩
  have HS0 : Hid (bl (t.nm ++ ⟨#[32]⟩ ++ D1 ++ ⟨#[46]⟩ ++ D2 ++ ⟨#[32, 40]⟩) = HEAD ++ [40] ∧ (t.nm ++ ⟨#[32]⟩ ++ D1 ++ ⟨#[46]⟩ ++ D2 ++ ⟨#[32, 40]⟩).size ≤ 64) := by
    refine ⟨?_, ?_⟩
    · rw [hHEAD, bl_app, bl_app _ ⟨#[32]⟩, List.append_assoc]; rfl
    · simp only [size_app]
      have e32 : (⟨#[32]⟩ : ByteArray).size = 1 := rfl
      have e46 : (⟨#[46]⟩ : ByteArray).size = 1 := rfl
      have e2 : (⟨#[32, 40]⟩ : ByteArray).size = 2 := rfl
      omega
  have HEND : Hid (∀ S, bl S = HEAD ++ (40 :: joinC (t.cols.map colB)) → S ++ ⟨#[41, 32, 107, 101, 121, 32]⟩ ++ KN = tabB t) := fun S hS => by
    apply bl_eq
    unfold tabB
    rw [List.getD_eq_getElem?_getD, List.getElem?_eq_getElem hkl, bl_app, bl_app, hS, hHEAD, bl_app _ (Col.nm _), bl_app _ keyW, bl_app _ (brk _), hKN]
    unfold brk
    rw [bl_app _ ⟨#[41]⟩, bl_app ⟨#[40]⟩, bl_mk]
    rw [hD1, hD2]
    simp [keyW, spB, dotB, bl]
  rw [← hD1] at HD1
  rw [← hD2] at HD2
  have HKC : Hid (∀ W, Tch (fun _ => False) w W → ∃ g o, ao = some ⟨g, o, none⟩ ∧ W.cell? ⟨g, o + t.key.toNat * 3, none⟩ = some (.string KN)) := fun W tw => by
    obtain ⟨g, o, e, ha⟩ := (h.no tw).col hkl
    exact ⟨g, o, e, by rw [hKN]; exact (ha.col _ hkl).1⟩
  obtain ⟨TT, hTT⟩ : ∃ TT, TT = tabB t := ⟨_, rfl⟩
  rw [← hTT] at HEND ⊢
  have HW1 : Hid (w1 = (w.alloc (.cells #[.int .i64 t.id, .int .i64 t.ver, .string t.nm, .slice ao n c, .int .i64 t.key] 29)).alloc (.cells #[.string ⟨#[]⟩, .string ⟨#[105, 110, 116]⟩, .string ⟨#[116, 101, 120, 116]⟩, .string ⟨#[98, 111, 111, 108]⟩] 9)) := by show _ = _; rw [hw1, hw0]
  obtain ⟨⟨b0, b1, b2, b3, b4⟩, -⟩ := HB.out w1 (Tch.refl _ _)
  have k0 := cell_regrown b0
  have k1 := cell_regrown b1
  have k2 := cell_regrown b2
  have c1 := fun (d : Nat) (os : Array Obj) => regrown_calls (w := w1) (fun W _ => HD1.out W) d os
  have c2 := fun (d : Nat) (os : Array Obj) => regrown_calls (w := w1) (fun W _ => HD2.out W) d os
  clear hr h i1 i2 hw0 hw1 T0 T1 z0 hD1 hD2 hKN hTT hn hHEAD q1
  go_enter Tryz.func51, Tryz.ntmps51
  go_wp2_with fail
  rw [← HW1.out]
  refine wp_region_quiet_below (by kernel_rfl) (by kernel_rfl) ?_
  quiet_step (fail)
  quiet_step (fail)
  quiet_step ((rw [if_neg (by omega)]; exact ⟨rfl, rfl⟩))
  quiet_step (fail)
  quiet_step (fail)
  quiet_step ((go_at_call 50; exact c1 _ _))
  quiet_step ((rw [if_neg (by omega)]; exact ⟨rfl, rfl⟩))
  quiet_step ((rw [if_neg (by omega)]; exact ⟨rfl, rfl⟩))
  quiet_step (fail)
  quiet_step (fail)
  quiet_step ((go_at_call 50; exact c2 _ _))
  quiet_step ((rw [if_neg (by omega)]; exact ⟨rfl, rfl⟩))
  quiet_step ((rw [if_neg (by omega)]; exact ⟨rfl, rfl⟩))
  quiet_step (fail)
  refine wpQuiet_nil ?_
  rintro w2 ⟨p, rfl⟩
  have HE : Hid (Tch (fun _ => False) w1 (grow (redrawn w1 p.d) p.os)) := Tch.regrown w1 p.d p.os
  obtain ⟨W2, hW2⟩ : ∃ W2, W2 = grow (redrawn w1 p.d) p.os := ⟨_, rfl⟩
  rw [← hW2] at HE ⊢
  clear hW2 k0 k1 k2 b0 b1 b2 b3 b4 c1 c2 HD1 HD2 s1 s2
  obtain ⟨S0, hS0⟩ : ∃ S0, S0 = t.nm ++ ⟨#[32]⟩ ++ D1 ++ ⟨#[46]⟩ ++ D2 ++ ⟨#[32, 40]⟩ := ⟨_, rfl⟩
  rw [← hS0] at HS0 ⊢
  clear hS0
  go_wp2_with fail
  go_loopw [4, 5] (fun s i wr => ∃ (S : ByteArray) (k : Nat), s = .string S ∧ i = .int .i64 k ∧ k ≤ n ∧ Hid (bl S = HEAD ++ (40 :: joinC ((t.cols.take k).map colB))) ∧ S.size ≤ 64 + 40 * k ∧ Hid (Tch (fun _ => False) w1 wr)) (fun _ i _ => n - (intOf i).toNat)
  case atStart => exact ⟨S0, 0, rfl, rfl, Nat.zero_le _, by show bl S0 = _; rw [HS0.out.1]; simp [joinC, Lib.join_nil], HS0.out.2, HE⟩
  case round =>
    obtain ⟨S, k, rfl, rfl, hk, HS, hsz, HT⟩ := hrel
    clear HS0 HE
    obtain ⟨⟨b0, b1, b2, b3, b4⟩, hTw⟩ := HB.out wr HT.out
    by_cases hlt : (k : Int) < n
    · have hkc : k < t.cols.length := by have := HN.out; omega
      obtain ⟨g, o, rfl, ha⟩ := (HSL.out wr hTw).col hkc
      obtain ⟨a0, a1, a2⟩ := ha.col k hkc
      obtain ⟨x, hx⟩ : ∃ x, x = t.cols[k] := ⟨_, rfl⟩
      rw [← hx] at a0 a1 a2
      have hcx := HRT.out.cols x (by rw [hx]; exact List.getElem_mem hkc)
      have hxs := nm_size hcx.1
      have hkd : x.k = 1 ∨ x.k = 2 ∨ x.k = 3 := by
        have := hcx.2
        unfold kdOk at this
        simp only [Bool.or_eq_true, decide_eq_true_eq] at this
        omega
      obtain ⟨kk, hkk⟩ : ∃ kk : Nat, x.k = (kk : Int) := ⟨x.k.toNat, by omega⟩
      have hk1 : 1 ≤ kk ∧ kk ≤ 3 := by omega
      have d1 := HKD.out wr HT.out kk hk1.1 hk1.2
      obtain ⟨KB, hKB⟩ : ∃ KB, KB = kindB (kk : Int) := ⟨_, rfl⟩
      rw [← hKB] at d1
      have z1 : KB.size ≤ 4 := by rw [hKB]; unfold kindB; (repeat' split) <;> first | exact (by decide : (3 : Nat) ≤ 4) | exact (by decide : (4 : Nat) ≤ 4)
      rw [hkk] at a1
      have hlen : ((t.cols.take k).map colB).length = k := by rw [List.length_map, List.length_take]; omega
      have HJ : Hid (joinC ((t.cols.take (k + 1)).map colB) = joinC ((t.cols.take k).map colB) ++ ((if k = 0 then [] else [44, 32]) ++ (bl x.nm ++ (32 :: (bl KB ++ (if x.nl then [32, 110, 117, 108, 108] else [])))))) := by
        show _ = _
        rw [(List.take_append_getElem hkc).symm, List.map_append, ← hx, List.map_cons, List.map_nil, joinC_snoc, hlen, bl_col, hKB, hkk]
      have hki3 : (kk : Int) < 4 := by omega
      obtain ⟨nl, hnl⟩ : ∃ nl, nl = x.nl := ⟨_, rfl⟩
      rw [← hnl] at a2 HJ
      have HTW : Hid (Tch (fun _ => False) w1 wr) := HT.out
      obtain ⟨S1, hS1⟩ : ∃ S1, S1 = S ++ (if k = 0 then ⟨#[]⟩ else ⟨#[44, 32]⟩ : ByteArray) := ⟨_, rfl⟩
      have HS1 : Hid (bl (S1 ++ x.nm ++ ⟨#[32]⟩ ++ KB ++ (if nl then ⟨#[32, 110, 117, 108, 108]⟩ else ⟨#[]⟩)) = HEAD ++ (40 :: joinC ((t.cols.take (k + 1)).map colB))) := by
        show bl _ = _
        rw [HJ.out, hS1, bl_app, bl_app, bl_app, bl_app, bl_app, HS.out]
        by_cases hk0 : k = 0
        · rw [if_pos hk0, if_pos hk0]; cases nl <;> simp [bl]
        · rw [if_neg hk0, if_neg hk0]; cases nl <;> simp [bl]
      have hz1 : S1.size ≤ 66 + 40 * k := by
        rw [hS1, size_app]
        have : (if k = 0 then ⟨#[]⟩ else ⟨#[44, 32]⟩ : ByteArray).size ≤ 2 := by split <;> first | exact Nat.zero_le 2 | exact Nat.le_refl 2
        omega
      have HS1E : Hid (S1 = S ++ (if k = 0 then ⟨#[]⟩ else ⟨#[44, 32]⟩ : ByteArray)) := hS1
      have HE0 : Hid (∀ a : ByteArray, a ++ ⟨#[]⟩ = a) := fun a => bl_eq (by rw [bl_app]; exact List.append_nil _)
      have HZ : Hid (S1.size + x.nm.size + 1 + KB.size + 5 ≤ 64 + 40 * (k + 1)) := by show _ ≤ _; omega
      clear ha hx hcx hkd hkk hKB HJ HS hnl hS1 hTw hlen b0 b1 b2 b4
      by_cases hk0 : k = 0
      · have hk0' : ¬ 0 < (k : Int) := by omega
        have HSS : Hid (S = S1) := by show _ = _; rw [HS1E.out, if_pos hk0]; exact (HE0.out S).symm
        obtain rfl := HSS.out
        clear hk0 HS1E HSS
        cases nl
        all_goals
          go_wp2_with fail
          go_quiet ((rw [if_neg (by omega)]; exact ⟨rfl, rfl⟩))
          go_wp2_with fail
          go_roundw
          case rel =>
            refine ⟨_, k + 1, rfl, by go_num, by omega, ?_, ?_, (HTW.out.drewN _)⟩
            · have h1 := HS1.out
              simp only [Bool.false_eq_true, if_false, if_true, HE0.out] at h1
              exact h1
            · have h1 := HZ.out
              simp only [size_app]
              have e32 : (⟨#[32]⟩ : ByteArray).size = 1 := rfl
              have e5 : (⟨#[32, 110, 117, 108, 108]⟩ : ByteArray).size = 5 := rfl
              omega
          case measure => simp [intOf]; omega
      · have hk0' : 0 < (k : Int) := by omega
        have HSS : Hid (S ++ ⟨#[44, 32]⟩ = S1) := by show _ = _; rw [HS1E.out, if_neg hk0]
        clear hk0 HS1E
        cases nl
        all_goals
          go_wp2_with fail
          rw [HSS.out]
          go_quiet ((rw [if_neg (by omega)]; exact ⟨rfl, rfl⟩))
          go_wp2_with fail
          go_roundw
          case rel =>
            refine ⟨_, k + 1, rfl, by go_num, by omega, ?_, ?_, (HTW.out.drewN _)⟩
            · have h1 := HS1.out
              simp only [Bool.false_eq_true, if_false, if_true, HE0.out] at h1
              exact h1
            · have h1 := HZ.out
              simp only [size_app]
              have e32 : (⟨#[32]⟩ : ByteArray).size = 1 := rfl
              have e5 : (⟨#[32, 110, 117, 108, 108]⟩ : ByteArray).size = 5 := rfl
              omega
          case measure => simp [intOf]; omega
    · have HF : Hid (S ++ ⟨#[41, 32, 107, 101, 121, 32]⟩ ++ KN = TT) := HEND.out S (by rw [HS.out, List.take_of_length_le]; have := HN.out; omega)
      obtain ⟨g, o, rfl, ka⟩ := HKC.out wr hTw
      obtain ⟨kn, hkn⟩ : ∃ kn : Nat, t.key = (kn : Int) := ⟨t.key.toNat, by omega⟩
      have hkt : t.key.toNat = kn := by omega
      rw [hkt] at ka
      rw [hkn] at b4
      have hki : (kn : Int) < n := by omega
      have hz3 : (S ++ ⟨#[41, 32, 107, 101, 121, 32]⟩).size ≤ 1000 := by rw [size_app]; show S.size + 6 ≤ 1000; omega
      clear HS hkt hkn
      go_wp2_with fail
      go_ret
      exact ⟨by rw [← HF.out]; rfl, hTw⟩
end Go.Proofs.YtjiblajnfnmjnaaGreatDoor.C
namespace Go.Proofs.YtjiblajnfnmjnaaGreatDoor
open Go.RowKit
structure XW (w : World) (b : Nat) (s : ByteArray) (e : Int) : Prop where
  c0 : w.cell? ⟨b, 0, none⟩ = some (.string s)
  c1 : w.cell? ⟨b, 1, none⟩ = some (.int .i64 e)
  f0 : w.frozen? ⟨b, 0, none⟩ = false
  f1 : w.frozen? ⟨b, 1, none⟩ = false
theorem XW.tch {T : Nat → Prop} {w w' : World} {b : Nat} {s : ByteArray} {e : Int} (h : XW w b s e) (t : Tch T w w') (hb : ¬ T b) : XW w' b s e := by
  have hl : b < w.heap.size := cell_lt h.c0
  exact ⟨(t.cell (p := ⟨b, 0, none⟩) hl hb).trans h.c0, (t.cell (p := ⟨b, 1, none⟩) hl hb).trans h.c1, (t.frozen (p := ⟨b, 0, none⟩) hl hb).trans h.f0, (t.frozen (p := ⟨b, 1, none⟩) hl hb).trans h.f1⟩
theorem XW.set0 {w : World} {b : Nat} {s : ByteArray} {e : Int} (h : XW w b s e) (s' : ByteArray) : XW (w.setCell ⟨b, 0, none⟩ (.string s')) b s' e := by
  refine ⟨?_, ?_, by simpa using h.f0, by simpa using h.f1⟩
  · rw [World.cell?_setCell_same (h := h.c0)]
  · rw [World.cell?_setCell_other (h := by simp)]; exact h.c1
theorem XW.set1 {w : World} {b : Nat} {s : ByteArray} {e : Int} (h : XW w b s e) (c : Int) : XW (w.setCell ⟨b, 1, none⟩ (.int .i64 c)) b s c := by
  refine ⟨?_, ?_, by simpa using h.f0, by simpa using h.f1⟩
  · rw [World.cell?_setCell_other (h := by simp)]; exact h.c0
  · rw [World.cell?_setCell_same (h := h.c1)]
theorem xnewWriter_any (w : World) :
    Calls Tryz.prog 132 #[] w fun x w' => x = .returned (.pointer (some ⟨w.heap.size, 0, none⟩)) ∧ XW w' w.heap.size ⟨#[]⟩ 0 ∧ Tch (fun _ => False) w w' ∧ w'.heap.size = w.heap.size + 1 := by
  go_enter Tryz.func132, Tryz.ntmps132
  go_wp2
  go_ret
  exact ⟨rfl, ⟨by simp, by simp, by simp, by simp⟩, Tch.alloc _ _ _, by simp⟩
theorem xwwrong_any (b : Nat) (s : ByteArray) (e c : Int) (w : World) (h : XW w b s e) :
    Calls Tryz.prog 151 #[.pointer (some ⟨b, 0, none⟩), .int .i64 c] w fun x w' => x = .returned (.tuple #[]) ∧ XW w' b s (failE e c) ∧ Tch (fun i => i = b) w w' := by
  have c1 := h.c1; have f1 := h.f1
  by_cases he : e = 0
  · subst he
    have HF : Hid (failE 0 c = c) := rfl
    go_enter Tryz.func151, Tryz.ntmps151
    go_wp2
    go_end0
    rw [HF.out]
    exact ⟨rfl, h.set1 c, Tch.setCell _ _ _ _ rfl⟩
  · have hn : (e == 0) = false := by simpa using he
    have HF : Hid (failE e c = e) := by show _ = _; unfold failE; rw [if_neg he]
    have HW : Hid (XW w b s e) := h
    go_enter Tryz.func151, Tryz.ntmps151
    go_wp2
    go_end0
    rw [HF.out]
    exact ⟨rfl, HW.out, Tch.refl _ _⟩
theorem xwdone_any (b : Nat) (s : ByteArray) (e : Int) (w : World) (h : XW w b s e) :
    Calls Tryz.prog 136 #[.pointer (some ⟨b, 0, none⟩)] w fun x w' => x = .returned (.tuple #[.string (if e = 0 then s else ⟨#[]⟩), .int .i64 e]) ∧ Tch (fun _ => False) w w' := by
  have c0 := h.c0; have c1 := h.c1
  by_cases he : e = 0
  · subst he
    rw [if_pos rfl]
    go_enter Tryz.func136, Tryz.ntmps136
    go_wp2
    first | (go_ret2; exact ⟨rfl, Tch.refl _ _⟩) | (go_quiet (fail); go_wp2; go_ret2; exact ⟨rfl, (Tch.refl _ _).drewN _⟩)
  · have hn : (e != 0) = true := by simpa using he
    rw [if_neg he]
    go_enter Tryz.func136, Tryz.ntmps136
    go_wp2
    first | (go_ret2; exact ⟨rfl, Tch.refl _ _⟩) | (go_quiet (fail); go_wp2; go_ret2; exact ⟨rfl, (Tch.refl _ _).drewN _⟩)
theorem xone_any (n : Nat) (w : World) (h1 : n ≤ 255) :
    Calls Tryz.prog 152 #[.int .i64 n] w fun x w' => x = .returned (.string ⟨#[UInt8.ofNat n]⟩) ∧ Tch (fun _ => False) w w' := by
  have hb : (n : Int) ≤ 255 := by omega
  have hcv : (convert 115 9 (.slice (some ⟨w.heap.size, 0, none⟩) 1 1)).run Tryz.prog (w.alloc (.cells #[.int .u8 (n : Int)] 5)) = .ok (.string ⟨#[UInt8.ofNat n]⟩) (w.alloc (.cells #[.int .u8 (n : Int)] 5)) := by
    have := run_convert_bytes_back (P := Tryz.prog) (w.alloc (.cells #[.int .u8 (n : Int)] 5)) 115 9 5 ⟨w.heap.size, 0, none⟩ 1 [UInt8.ofNat n] Tryz.underlying115 Tryz.underlying5 Tryz.underlying9 (fun j hj => by
      rcases j with _ | j
      · have e : ((UInt8.ofNat n).toNat : Int) = n := by simp; omega
        simp only [List.getElem_cons_zero]
        rw [e]; simp [Addr.add]
      · simp at hj)
    simpa using this
  go_enter Tryz.func152, Tryz.ntmps152
  go_wp2
  go_ret
  exact ⟨rfl, Tch.alloc _ _ _⟩
theorem app_list (a b : List UInt8) : (⟨a.toArray⟩ : ByteArray) ++ ⟨b.toArray⟩ = ⟨(a ++ b).toArray⟩ := by
  apply ByteArray.ext
  simp
theorem size_list (a : List UInt8) : (⟨a.toArray⟩ : ByteArray).size = a.length := by show a.toArray.size = _; simp
theorem xdigits_any (n : Nat) (w : World) (hn : n < 18446744073709551616) :
    Calls Tryz.prog 153 #[.int .u64 n] w fun x w' => x = .returned (.string ⟨(dg n).toArray⟩) ∧ Tch (fun _ => False) w w' := by
  go_enter Tryz.func153, Tryz.ntmps153
  go_wp2
  go_loopw [0, 3] (fun v sv wr => ∃ (m f : Nat) (pre : List UInt8), v = .int .u64 m ∧ sv = .string ⟨pre.toArray⟩ ∧ (m : Int) ≤ 18446744073709551615 ∧ f < 10 ∧ m < 128 ^ (f + 1) ∧ Hid (pre.length + (f + 1) ≤ 10) ∧ Hid (pre ++ dgf (f + 1) m = dg n) ∧ Tch (fun _ => False) w wr) (fun v _ _ => (intOf v).toNat)
  case atStart => exact ⟨n, 9, [], rfl, rfl, by omega, by omega, Nat.lt_of_lt_of_le hn (by decide), by show _ ≤ _; simp, rfl, Tch.refl _ _⟩
  case round =>
    obtain ⟨m, f, pre, rfl, rfl, hmn, hf, hm, HL, HP, hT⟩ := hrel
    obtain ⟨P, hP⟩ : ∃ P : ByteArray, P = ⟨pre.toArray⟩ := ⟨_, rfl⟩
    have hps : P.size ≤ 10 := by rw [hP, size_list]; have := HL.out; omega
    have HPe : Hid (P = ⟨pre.toArray⟩) := hP
    rw [← hP]
    clear hP
    by_cases hlt128 : m < 128
    · have hl : ¬ (128 : Int) ≤ m := by omega
      have HC : Hid (P ++ ⟨#[UInt8.ofNat m]⟩ = ⟨(dg n).toArray⟩) := by
        show _ = _
        rw [HPe.out, ← HP.out, dgf_last hlt128, ← app_list]
      have hmi : (m : Int) ≤ 255 := by omega
      have ho := fun (W : World) => xone_any m W (by omega)
      go_wp2_with fail
      refine (ho _).mono ?_
      rintro x w1 ⟨rfl, t1⟩
      have hsz : P.size + (⟨#[UInt8.ofNat m]⟩ : ByteArray).size ≤ 9223372036854775807 := by show P.size + 1 ≤ _; omega
      have hadd := fun (W : World) => run_string_add_sum (P := Tryz.prog) W P ⟨#[UInt8.ofNat m]⟩ hsz
      go_wp2
      go_ret
      exact ⟨ret_str HC.out, hT.trans' t1⟩
    · have hl : (128 : Int) ≤ m := by omega
      obtain ⟨f, rfl⟩ : ∃ f', f = f' + 1 := by
        rcases f with _ | f
        · simp at hm; omega
        · exact ⟨f, rfl⟩
      have HM : Hid (m / 128 < 128 ^ (f + 1)) := by
        show _ < _
        rw [Nat.pow_succ] at hm
        exact Nat.div_lt_of_lt_mul (by rw [Nat.mul_comm]; exact hm)
      have HA : Hid ((128 : Int) + (m : Int) % 128 = ((m % 128 + 128 : Nat) : Int)) := by show _ = _; omega
      have ho := fun (W : World) => xone_any (m % 128 + 128) W (by omega)
      rw [← HA.out] at ho
      have HP2 : Hid ((pre ++ [UInt8.ofNat (m % 128 + 128)]) ++ dgf (f + 1) (m / 128) = dg n) := by
        show _ = _
        rw [← HP.out, dgf_more hlt128]; simp
      obtain ⟨B, hB⟩ : ∃ B, B = UInt8.ofNat (m % 128 + 128) := ⟨_, rfl⟩
      rw [← hB] at ho HP2
      clear hB HA
      have HC : Hid (P ++ ⟨#[B]⟩ = ⟨(pre ++ [B]).toArray⟩) := by
        show _ = _
        rw [HPe.out, ← app_list]
      go_wp2_with fail
      refine (ho _).mono ?_
      rintro x w1 ⟨rfl, t1⟩
      have hsz : P.size + (⟨#[B]⟩ : ByteArray).size ≤ 9223372036854775807 := by show P.size + 1 ≤ _; omega
      have hadd := fun (W : World) => run_string_add_sum (P := Tryz.prog) W P ⟨#[B]⟩ hsz
      go_wp2
      go_roundw
      case rel => exact ⟨m / 128, f, _, by go_num, by rw [HC.out], by omega, by omega, HM.out, by have := HL.out; show _ ≤ _; simp; omega, HP2, hT.trans' t1⟩
      case measure => simp [intOf]; omega
end Go.Proofs.YtjiblajnfnmjnaaGreatDoor
namespace Go.Proofs.YtjiblajnfnmjnaaGreatDoor
open Go.RowKit Go.Sort
theorem tch_regrown (w : World) (p : Regrown) : Tch (fun _ => False) w (grow (redrawn w p.d) p.os) := Tch.of_below (below_regrown w p.d p.os) (Nat.le_refl _)
theorem Calls.tch_regrown_of {P : Program} {f : FuncId} {args : Array Value} {w : World} {d : Nat} {os : Array Obj} {v : Value}
    (h : Calls P f args (grow (redrawn w d) os) fun e w' => e = .returned v ∧ Tch (fun _ => False) (grow (redrawn w d) os) w') : Calls P f args (grow (redrawn w d) os) fun e w'' => e = .returned v ∧ ∃ p : Regrown, w'' = grow (redrawn w p.d) p.os :=
  Calls.regrown_of (h.mono fun _ _ ⟨he, t⟩ => ⟨he, t.below (Nat.le_refl _) (fun _ _ h => h)⟩)
def xs (s : ByteArray) (L : List UInt8) (C : Int) : ByteArray := if C = 0 then s ++ ⟨L.toArray⟩ else s
theorem xs_ok (s : ByteArray) (L : List UInt8) : xs s L 0 = s ++ ⟨L.toArray⟩ := if_pos rfl
theorem xs_bad (s : ByteArray) (L : List UInt8) {C : Int} (h : C ≠ 0) : xs s L C = s := if_neg h
theorem failE_zero (e : Int) : failE e 0 = e := by unfold failE; split <;> simp_all
theorem XW.stored {W w : World} {b : Nat} {s : ByteArray} {e : Int} (h : XW W b s e) (t : Tch (fun _ => False) w W) (s' : ByteArray) : XW (W.setCell ⟨b, 0, none⟩ (.string s')) b s' e ∧ Tch (fun i => i = b) w (W.setCell ⟨b, 0, none⟩ (.string s')) :=
  ⟨h.set0 s', (t.mono (fun _ _ h => h.elim)).setCellR _ _ rfl⟩
theorem xwint_any (b : Nat) (s : ByteArray) (e n : Int) (w : World) (h : XW w b s e) (h1 : -9223372036854775808 ≤ n) (h2 : n ≤ 9223372036854775807) (hsz : s.size + 10 ≤ 140737488355328) :
    Calls Tryz.prog 134 #[.pointer (some ⟨b, 0, none⟩), .int .i64 n] w fun x w' => x = .returned (.tuple #[]) ∧ XW w' b (s ++ ⟨(dg (fol n)).toArray⟩) e ∧ Tch (fun i => i = b) w w' := by
  have hd := fun (W : World) => xdigits_any (fol n) W (fol_lt n h1 h2)
  obtain ⟨D, hD⟩ : ∃ D : ByteArray, D = ⟨(dg (fol n)).toArray⟩ := ⟨_, rfl⟩
  rw [← hD] at hd ⊢
  have hds : D.size ≤ 10 := by rw [hD, size_list]; exact dgf_len 10 (fol n)
  clear hD
  have n1 : ¬ 9223372036854775807 < s.size + D.size := by omega
  have k0 := cell_regrown h.c0
  have cD : ∀ d os, Calls Tryz.prog 153 #[.int .u64 (fol n)] (grow (redrawn w d) os) fun e w'' => e = .returned (.string D) ∧ ∃ p : Regrown, w'' = grow (redrawn w p.d) p.os := fun d os => Calls.tch_regrown_of (hd _)
  have HX : Hid (∀ p : Regrown, XW (grow (redrawn w p.d) p.os) b s e) := fun p => h.tch (tch_regrown w p) (fun h => h)
  clear h hds hsz hd
  by_cases h0 : 0 ≤ n
  · have HU : Hid (2 * n = (fol n : Nat)) := by show _ = _; unfold fol; rw [if_pos h0]; omega
    have hw1 : IntKind.u64.wrap n = n := by rw [IntKind.wrap_u64]; omega
    have hw2 : IntKind.u64.wrap (2 * n) = (fol n : Nat) := by rw [IntKind.wrap_u64, ← HU.out]; omega
    go_enter Tryz.func134, Tryz.ntmps134
    go_wp2
    refine wp_region_below_tail 12 (by kernel_rfl) (by kernel_rfl) ?_
    simp only [List.take_succ_cons, List.take_zero, List.drop_succ_cons, List.drop_zero]
    repeat (quiet_step ((go_at_call 153; exact cD _ _)))
    refine wpQuiet_nil ?_
    rintro w1 ⟨p, rfl⟩
    have hX1 := HX.out p
    have T1 := tch_regrown w p
    obtain ⟨W, hW⟩ : ∃ W, W = grow (redrawn w p.d) p.os := ⟨_, rfl⟩
    rw [← hW] at hX1 T1 ⊢
    clear hW cD HX k0
    have d0 := hX1.c0; have g0 := hX1.f0
    go_wp2
    first | refine bodyPost_ret (results_none rfl _ _ _) rfl ?_ | go_end0
    exact ⟨rfl, hX1.stored T1 _⟩
  · have HU : Hid (2 * (-(n + 1)) + 1 = (fol n : Nat)) := by show _ = _; unfold fol; rw [if_neg h0]; omega
    have hw0 : IntKind.i64.wrap (n + 1) = n + 1 := by rw [IntKind.wrap_i64]; omega
    have hw9 : IntKind.i64.wrap (-(n + 1)) = -(n + 1) := by rw [IntKind.wrap_i64]; omega
    have hw1 : IntKind.u64.wrap (-(n + 1)) = -(n + 1) := by rw [IntKind.wrap_u64]; omega
    have hw2 : IntKind.u64.wrap (2 * -(n + 1)) = 2 * -(n + 1) := by rw [IntKind.wrap_u64]; omega
    have hw3 : IntKind.u64.wrap (2 * -(n + 1) + 1) = (fol n : Nat) := by rw [IntKind.wrap_u64, ← HU.out]; omega
    go_enter Tryz.func134, Tryz.ntmps134
    go_wp2
    refine wp_region_below_tail 15 (by kernel_rfl) (by kernel_rfl) ?_
    simp only [List.take_succ_cons, List.take_zero, List.drop_succ_cons, List.drop_zero]
    repeat (quiet_step ((go_at_call 153; exact cD _ _)))
    refine wpQuiet_nil ?_
    rintro w1 ⟨p, rfl⟩
    have hX1 := HX.out p
    have T1 := tch_regrown w p
    obtain ⟨W, hW⟩ : ∃ W, W = grow (redrawn w p.d) p.os := ⟨_, rfl⟩
    rw [← hW] at hX1 T1 ⊢
    clear hW cD HX k0
    have d0 := hX1.c0; have g0 := hX1.f0
    go_wp2
    first | refine bodyPost_ret (results_none rfl _ _ _) rfl ?_ | go_end0
    exact ⟨rfl, hX1.stored T1 _⟩
theorem xwtext_any (b : Nat) (s : ByteArray) (e : Int) (t : ByteArray) (most : Int) (w : World) (h : XW w b s e) (hsz : s.size + 10 + t.size ≤ 140737488355328) :
    Calls Tryz.prog 135 #[.pointer (some ⟨b, 0, none⟩), .string t, .int .i64 most] w fun x w' => x = .returned (.tuple #[]) ∧ XW w' b (xs s (textL t) (textC t most)) (failE e (textC t most)) ∧ Tch (fun i => i = b) w w' := by
  by_cases h0 : most < 0
  · have hw := xwwrong_any b s e 1 w h
    have HV : Hid (textC t most = 1) := by show _ = _; unfold textC; rw [if_pos h0]
    rw [HV.out, xs_bad _ _ (by omega)]
    go_enter Tryz.func135, Tryz.ntmps135
    go_wp2_with fail
    refine hw.mono ?_
    rintro x w1 ⟨rfl, h1, t1⟩
    go_wp2
    first | refine bodyPost_ret (results_none rfl _ _ _) rfl ?_ | go_end0
    exact ⟨rfl, h1, t1⟩
  · by_cases h12 : most < t.size
    · have hw := xwwrong_any b s e 12 w h
      have HV : Hid (textC t most = 12) := by show _ = _; unfold textC; rw [if_neg h0, if_pos h12]
      rw [HV.out, xs_bad _ _ (by omega)]
      go_enter Tryz.func135, Tryz.ntmps135
      go_wp2_with fail
      refine hw.mono ?_
      rintro x w1 ⟨rfl, h1, t1⟩
      go_wp2
      first | refine bodyPost_ret (results_none rfl _ _ _) rfl ?_ | go_end0
      exact ⟨rfl, h1, t1⟩
    · have hd := fun (W : World) => xdigits_any t.size W (by omega)
      have HV : Hid (textC t most = 0) := by show _ = _; unfold textC; rw [if_neg h0, if_neg h12]
      rw [HV.out, xs_ok, failE_zero]
      obtain ⟨D, hD⟩ : ∃ D : ByteArray, D = ⟨(dg t.size).toArray⟩ := ⟨_, rfl⟩
      have HE2 : Hid (s ++ ⟨(textL t).toArray⟩ = s ++ D ++ t) := by
        show _ = _
        rw [hD, ByteArray.append_assoc]
        congr 1
      rw [HE2.out]
      rw [← hD] at hd
      have hds : D.size ≤ 10 := by rw [hD, size_list]; exact dgf_len 10 t.size
      clear hD HE2
      have n1 : ¬ 9223372036854775807 < s.size + D.size := by omega
      have n2 : ¬ 9223372036854775807 < s.size + D.size + t.size := by omega
      have hwr : IntKind.u64.wrap (t.size : Int) = t.size := by rw [IntKind.wrap_u64]; omega
      have k0 := cell_regrown h.c0
      have cD : ∀ d os, Calls Tryz.prog 153 #[.int .u64 t.size] (grow (redrawn w d) os) fun e w'' => e = .returned (.string D) ∧ ∃ p : Regrown, w'' = grow (redrawn w p.d) p.os := fun d os => Calls.tch_regrown_of (hd _)
      have HX : Hid (∀ p : Regrown, XW (grow (redrawn w p.d) p.os) b s e) := fun p => h.tch (tch_regrown w p) (fun h => h)
      clear h hds hsz hd
      go_enter Tryz.func135, Tryz.ntmps135
      go_wp2
      refine wp_region_below_tail 14 (by kernel_rfl) (by kernel_rfl) ?_
      simp only [List.take_succ_cons, List.take_zero, List.drop_succ_cons, List.drop_zero]
      repeat (quiet_step ((go_at_call 153; exact cD _ _)))
      refine wpQuiet_nil ?_
      rintro w1 ⟨p, rfl⟩
      have hX1 := HX.out p
      have T1 := tch_regrown w p
      obtain ⟨W, hW⟩ : ∃ W, W = grow (redrawn w p.d) p.os := ⟨_, rfl⟩
      rw [← hW] at hX1 T1 ⊢
      clear hW cD HX k0
      have d0 := hX1.c0; have g0 := hX1.f0
      go_wp2
      first | refine bodyPost_ret (results_none rfl _ _ _) rfl ?_ | go_end0
      exact ⟨rfl, hX1.stored T1 _⟩
end Go.Proofs.YtjiblajnfnmjnaaGreatDoor
namespace Go.Proofs.YtjiblajnfnmjnaaGreatDoor
open Go.RowKit
end Go.Proofs.YtjiblajnfnmjnaaGreatDoor
