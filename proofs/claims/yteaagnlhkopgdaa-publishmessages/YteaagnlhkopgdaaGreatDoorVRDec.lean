import Derived.Test.YteaagnlhkopgdaaGreatDoorDM1
import Derived.Test.YteaagnlhkopgdaaGreatDoorVPrint
import Derived.Test.YteaagnlhkopgdaaGreatDoorVREnc
import Derived.Test.YteaagnlhkopgdaaGreatDoorVAgain
import Derived.Test.YteaagnlhkopgdaaGreatDoorCName
set_option maxHeartbeats 4000000
set_option maxRecDepth 100000
namespace Go.Proofs.YteaagnlhkopgdaaGreatDoor
open Go.RowKit
def kd4 (k : Int) : Int := (if k < 0 then -(k + 1) else k) % 4
def cutS (s : ByteArray) : ByteArray := if 200 < s.size then s.extract 0 200 else s
def rt (v : Val) : Val := if kd4 v.k = 1 then ⟨1, v.n, ⟨#[]⟩⟩ else if kd4 v.k = 2 then ⟨2, 0, cutS v.s⟩ else if kd4 v.k = 3 then ⟨3, v.n % 2, ⟨#[]⟩⟩ else ⟨0, 0, ⟨#[]⟩⟩
end Go.Proofs.YteaagnlhkopgdaaGreatDoor
namespace Go.Proofs.YteaagnlhkopgdaaGreatDoor
open Go.RowKit
def rcl (l : List Val) : List Value := l.flatMap fun v => [.int .i64 v.k, .int .i64 v.n, .string v.s]
theorem rcl_snoc (l : List Val) (v : Val) : rcl (l ++ [v]) = rcl l ++ [.int .i64 v.k, .int .i64 v.n, .string v.s] := by simp [rcl]
theorem rcl_get : ∀ (l : List Val) (j : Nat) (hj : j < l.length), (rcl l)[j * 3]? = some (.int .i64 l[j].k) ∧ (rcl l)[j * 3 + 1]? = some (.int .i64 l[j].n) ∧ (rcl l)[j * 3 + 2]? = some (.string l[j].s)
  | v :: l, 0, _ => ⟨rfl, rfl, rfl⟩
  | v :: l, j + 1, hj => by
    have e : rcl (v :: l) = [.int .i64 v.k, .int .i64 v.n, .string v.s] ++ rcl l := rfl
    have ih := rcl_get l j (by simpa using hj)
    rw [e, show (j + 1) * 3 = 3 + j * 3 by omega]
    rw [List.getElem?_append_right (by simp), List.getElem?_append_right (by simp; omega), List.getElem?_append_right (by simp; omega)]
    simp only [List.length_cons, List.length_nil, List.getElem_cons_succ]
    rw [show 3 + j * 3 - (0 + 1 + 1 + 1) = j * 3 by omega, show 3 + j * 3 + 1 - (0 + 1 + 1 + 1) = j * 3 + 1 by omega, show 3 + j * 3 + 2 - (0 + 1 + 1 + 1) = j * 3 + 2 by omega]
    exact ih
theorem rcl_one (l : List Val) : ∀ u ∈ rcl l, u.oneCell' = true := by
  intro u hu
  simp only [rcl, List.mem_flatMap] at hu
  obtain ⟨v, _, hv⟩ := hu
  simp at hv
  rcases hv with rfl | rfl | rfl <;> rfl
theorem row_tch {S : Nat → Prop} {w w' : World} {base : Nat} {t : TypeId} {sz n : Nat} {v : Value} {xs : List Value} (h : w.ownsRow base t sz v n xs) (tc : Tch S w w') (hS : ∀ i, base ≤ i → i < w.heap.size → ¬ S i) : w'.ownsRow base t sz v n xs := by
  obtain ⟨h1, h2⟩ := h
  refine ⟨h1, ?_⟩
  rcases h2 with h2 | ⟨g, cap, cur, hv, hg, hh, r⟩
  · exact Or.inl h2
  · exact Or.inr ⟨g, cap, cur, hv, hg, by rw [tc.block g (blk_lt hh) (hS g hg (blk_lt hh))]; exact hh, r⟩
theorem row_slice {w : World} {base : Nat} {t : TypeId} {sz n : Nat} {v : Value} {xs : List Value} (h : w.ownsRow base t sz v n xs) : ∃ ao c, v = .slice ao n c := by
  rcases h.2 with ⟨rfl, rfl⟩ | ⟨g, cap, cur, rfl, hg, _⟩
  · exact ⟨_, _, rfl⟩
  · exact ⟨_, _, rfl⟩
theorem row_ge {w : World} {base : Nat} {t : TypeId} {sz n : Nat} {v : Value} {xs : List Value} (h : w.ownsRow base t sz v n xs) {k : Nat} (hk : v.ownBlock = some k) : base ≤ k := by
  rcases h.2 with ⟨rfl, _⟩ | ⟨g, cap, cur, rfl, hg, _⟩
  · cases hk
  · simp [Value.ownBlock] at hk; omega
theorem row_at {w : World} {base : Nat} {ao : Option Addr} {c : Nat} {l : List Val} (h : w.ownsRow base 52 3 (.slice ao l.length c) l.length (rcl l)) (hl : l ≠ []) : ∃ g, ao = some ⟨g, 0, none⟩ ∧ base ≤ g ∧ RowAt w g 0 l := by
  rcases h.2 with ⟨h1, h2⟩ | ⟨g, cap, cur, hv, hg, hh, hc, hm, hs, ht⟩
  · exact absurd (List.length_eq_zero_iff.1 h2) hl
  · simp only [Value.slice.injEq] at hv
    refine ⟨g, hv.1, hg, fun j hj => ?_⟩
    obtain ⟨g0, g1, g2⟩ := rcl_get l j hj
    have key : ∀ i u, i < l.length * 3 → (rcl l)[i]? = some u → w.cell? ⟨g, 0 + i, none⟩ = some u := fun i u hi hu => by
      rw [Nat.zero_add, blk_cell hh, ← Array.getElem?_toList]
      rw [← ht, List.getElem?_take_of_lt hi] at hu
      exact hu
    exact ⟨key _ _ (by omega) g0, by have := key (j * 3 + 1) _ (by omega) g1; simpa [Nat.add_assoc] using this, by have := key (j * 3 + 2) _ (by omega) g2; simpa [Nat.add_assoc] using this⟩
theorem rcl_cells {W : World} {b : Nat} {v : Val} (h0 : W.cell? ⟨b, 0, none⟩ = some (.int .i64 v.k)) (h1 : W.cell? ⟨b, 1, none⟩ = some (.int .i64 v.n)) (h2 : W.cell? ⟨b, 2, none⟩ = some (.string v.s)) : ∀ j u, (rcl [v])[j]? = some u → W.cell? ((⟨b, 0, none⟩ : Addr).add j) = some u := by
  intro j u hu
  rcases j with _ | _ | _ | j
  · cases hu; simpa [Addr.add] using h0
  · cases hu; simpa [Addr.add] using h1
  · cases hu; simpa [Addr.add] using h2
  · simp [rcl] at hu
end Go.Proofs.YteaagnlhkopgdaaGreatDoor
namespace Go.Proofs.YteaagnlhkopgdaaGreatDoor
open Go.RowKit Go.Sort
def RDecOut (S : ByteArray) (w : World) (x : Ending) (w' : World) : Prop := match decR S with
  | none => x = .returned (.tuple #[.slice none 0 0, .int .i64 43])
  | some vs => ∃ ro c, x = .returned (.tuple #[.slice ro vs.length c, .int .i64 0]) ∧ RowOf w' ro vs ∧ ∀ g o, ro = some ⟨g, o, none⟩ → w.heap.size ≤ g
theorem RDecOut.none {S : ByteArray} {w w' : World} {x : Ending} (h : decR S = .none) (hx : x = .returned (.tuple #[.slice .none 0 0, .int .i64 43])) : RDecOut S w x w' := by
  unfold RDecOut; rw [h]; exact hx
theorem rdV_of {S : ByteArray} {a a1 m : Nat} {e e1 : Int} (h : byteR S a e = (m, a1, e1)) : rdV S a e = if m = 0 then ((⟨0, 0, ⟨#[]⟩⟩, true), (a1, e1)) else if m = 1 then ((⟨1, unf (numR 10 1 S a1 e1).1, ⟨#[]⟩⟩, true), (numR 10 1 S a1 e1).2) else if m = 2 then ((⟨2, 0, (textR 200 S a1 e1).1⟩, true), (textR 200 S a1 e1).2) else if m = 3 ∨ m = 4 then ((⟨3, (m : Int) - 3, ⟨#[]⟩⟩, true), (a1, e1)) else ((⟨0, 0, ⟨#[]⟩⟩, false), (a1, e1)) := by
  unfold rdV; rw [h]
theorem decGo_step {S : ByteArray} {n k a a' : Nat} {e e' : Int} {l : List Val} {v : Val} (hk : k < n) (h : rdV S a e = ((v, true), a', e')) : decGo S (n - k) a e l = decGo S (n - (k + 1)) a' e' (l ++ [v]) := by
  rw [show n - k = (n - (k + 1)) + 1 by omega]
  show (if (rdV S a e).1.2 = true then _ else _) = _
  rw [h]; rfl
theorem decGo_stop {S : ByteArray} {n k a a' : Nat} {e e' : Int} {l : List Val} {v : Val} (hk : k < n) (h : rdV S a e = ((v, false), a', e')) : decGo S (n - k) a e l = .none := by
  rw [show n - k = (n - (k + 1)) + 1 by omega]
  show (if (rdV S a e).1.2 = true then _ else _) = _
  rw [h]; rfl
theorem bs_back (S : ByteArray) : (⟨S.data.toList.toArray⟩ : ByteArray) = S := by apply ByteArray.ext; simp
theorem bx_cells {W : World} {B : Nat} {x y z : Value} {t : TypeId} (h : W.heap[B]? = some (.cells #[x, y, z] t (0, 0))) : W.cell? ⟨B, 0, none⟩ = some x ∧ W.cell? ⟨B, 1, none⟩ = some y ∧ W.cell? ⟨B, 2, none⟩ = some z ∧ ∀ j, W.frozen? ⟨B, j, none⟩ = false :=
  ⟨by rw [blk_cell h]; rfl, by rw [blk_cell h]; rfl, by rw [blk_cell h]; rfl, fun j => blk_frozen h j⟩
theorem box_set0 {W : World} {B : Nat} {x y z : Value} {t : TypeId} (h : W.heap[B]? = some (.cells #[x, y, z] t (0, 0))) (v : Value) : (W.setCell ⟨B, 0, none⟩ v).heap[B]? = some (.cells #[v, y, z] t (0, 0)) := by rw [blk_set h]; rfl
theorem box_set1 {W : World} {B : Nat} {x y z : Value} {t : TypeId} (h : W.heap[B]? = some (.cells #[x, y, z] t (0, 0))) (v : Value) : (W.setCell ⟨B, 1, none⟩ v).heap[B]? = some (.cells #[x, v, z] t (0, 0)) := by rw [blk_set h]; rfl
theorem box_set2 {W : World} {B : Nat} {x y z : Value} {t : TypeId} (h : W.heap[B]? = some (.cells #[x, y, z] t (0, 0))) (v : Value) : (W.setCell ⟨B, 2, none⟩ v).heap[B]? = some (.cells #[x, y, v] t (0, 0)) := by rw [blk_set h]; rfl
theorem new_cells (W : World) (v : Val) (M : Nat) (hM : M = W.heap.size) : ∀ j u, (rcl [v])[j]? = some u → (W.alloc (.cells #[.int .i64 v.k, .int .i64 v.n, .string v.s] 52)).cell? ((⟨M, 0, none⟩ : Addr).add j) = some u := by
  subst hM; exact rcl_cells (by simp) (by simp) (by simp)
theorem rdecode_any (S : ByteArray) (w : World) (hS : S.size ≤ 281474976710656) :
    Calls Tryz.prog 67 #[.string S] w fun x w' => RDecOut S w x w' ∧ Tch (fun _ => False) w w' := by
  obtain ⟨i0, hii, hz0, hz1, hz2⟩ := info_parts info_val
  obtain ⟨N, hN⟩ : ∃ N, N = w.heap.size := ⟨_, rfl⟩
  have hm := byteR_lt S 0 0
  have hxn := xnewReader_any S w
  rw [← hN] at hxn
  have HN : Hid (N = w.heap.size) := hN
  clear hN
  go_enter Tryz.func67, Tryz.ntmps67
  go_wp2_with fail
  refine hxn.mono ?_
  rintro x w1 ⟨rfl, h1, t1, z1⟩
  have T1 := no_mono (S := fun i => N ≤ i) t1
  clear hxn t1
  go_wp2_with fail
  refine (xbyte_any _ S 0 0 _ h1 hS).mono ?_
  rintro x w2 ⟨rfl, h2, t2⟩
  have T2 := T1.trans' (eq_mono t2 (Nat.le_refl _))
  clear T1 t2 h1
  obtain ⟨n, a1, e1, hE⟩ : ∃ n a1 e1, byteR S 0 0 = (n, a1, e1) := ⟨_, _, _, rfl⟩
  obtain ⟨D, hD⟩ : ∃ D, D = decGo S n a1 e1 [] := ⟨_, rfl⟩
  have HD : Hid (decR S = if 8 < n then none else D) := by show _ = _; unfold decR; rw [hE, hD]
  have HD0 : Hid (D = decGo S (n - 0) a1 e1 []) := by show _ = _; rw [hD]; rfl
  rw [hE] at h2 hm ⊢
  simp only at h2 hm ⊢
  have hz2' : N + 1 ≤ w2.heap.size := cell_lt h2.c0
  clear hE hD z1
  go_wp2_with fail
  go_loopw [6, 7] (fun v i wr => ∃ (k a : Nat) (e : Int) (l : List Val), i = .int .i64 k ∧ (k ≤ n ∧ k ≤ 9) ∧ (l.length ≤ k ∧ Hid (l.length = k)) ∧ Hid (D = decGo S (n - k) a e l) ∧ wr.ownsRow (N + 1) 52 3 v l.length (rcl l) ∧ XS wr N S a e ∧ N + 1 ≤ wr.heap.size ∧ Tch (fun i => N ≤ i) w wr) (fun _ i _ => 9 - (intOf i).toNat)
  case atStart => exact ⟨0, a1, e1, [], rfl, by omega, ⟨Nat.le_refl _, rfl⟩, HD0, ⟨rfl, Or.inl ⟨rfl, rfl⟩⟩, h2, hz2', T2⟩
  case round =>
    obtain ⟨k, a, e, l, rfl, ⟨hkn, hk9⟩, ⟨hll, HLL⟩, HA, hown, hX, hsz, hT⟩ := hrel
    clear h2 T2 hz2' HD0
    obtain ⟨ao, cp, hv⟩ := row_slice hown
    subst hv
    have HGr : Hid (∀ b, (Value.slice ao l.length cp).ownBlock = some b → N + 1 ≤ b) := fun b hk => row_ge hown hk
    have HO : Hid (∀ W, Tch (fun i => i = N ∨ wr.heap.size ≤ i) wr W → W.ownsRow (N + 1) 52 3 (.slice ao l.length cp) l.length (rcl l)) := fun W t => row_tch hown t (fun i h1 h2 h3 => by omega)
    by_cases hlt : k < n ∧ k < 9
    · have hk1 : (k : Int) < n := by omega
      have hk2 : (k : Int) < 9 := by omega
      have HK : Hid (k < n) := hlt.1
      obtain ⟨wA, hwA⟩ : ∃ wA, wA = wr.alloc (.cells #[.int .i64 0, .int .i64 0, .string ⟨#[]⟩] 52) := ⟨_, rfl⟩
      obtain ⟨B, hB⟩ : ∃ B, B = wr.heap.size := ⟨_, rfl⟩
      have bA : wA.heap[B]? = some (.cells #[.int .i64 0, .int .i64 0, .string ⟨#[]⟩] 52 (0, 0)) := by rw [hwA, hB]; exact heap_new wr _
      have tA : Tch (fun i => i = N ∨ B ≤ i) wr wA := by rw [hwA]; exact Tch.alloc _ _ _
      have XA : XS wA N S a e := hX.tch (T := fun _ => False) (by rw [hwA]; exact Tch.alloc _ _ _) (fun h => h)
      rw [← hB] at HO
      have hNB : N < B := by omega
      have HB : Hid (B = wr.heap.size) := hB
      have HWA : Hid (wA = wr.alloc (.cells #[.int .i64 0, .int .i64 0, .string ⟨#[]⟩] 52)) := hwA
      clear hX hwA hB hown hlt
      go_wp2_with fail
      rw [← HWA.out, ← HB.out]
      refine (xbyte_any _ S a e _ XA hS).mono ?_
      rintro x w3 ⟨rfl, X3, t3⟩
      have T3 : Tch (fun i => i = N ∨ B ≤ i) wr w3 := tA.trans' (t3.mono (fun i _ h => Or.inl h))
      have b3 : w3.heap[B]? = some (.cells #[.int .i64 0, .int .i64 0, .string ⟨#[]⟩] 52 (0, 0)) := (t3.block B (blk_lt bA) (by omega)).trans bA
      clear XA t3 bA tA HWA
      have hm3 := byteR_lt S a e
      obtain ⟨m, a3, e3, hE⟩ : ∃ m a3 e3, byteR S a e = (m, a3, e3) := ⟨_, _, _, rfl⟩
      have HRd : Hid _ := rdV_of hE
      rw [hE] at X3 hm3 ⊢
      simp only at X3 hm3 ⊢
      clear hE
      obtain ⟨q0, q1, q2, q3⟩ := bx_cells b3
      have f0 := q3 0; have f1 := q3 1; have f2 := q3 2
      clear q3
      by_cases m0 : m = 0
      · subst m0
        have HV : Hid (D = decGo S (n - (k + 1)) (a3) (e3) (l ++ [⟨0, 0, ⟨#[]⟩⟩])) := by show _ = _; rw [HA.out]; exact decGo_step HK.out (by rw [HRd.out]; rfl)
        have hszW : N + 1 ≤ (w3).heap.size := cell_lt (X3).c0
        obtain ⟨p0, p1, p2, _⟩ := bx_cells (b3)
        go_wp2_with (at_builtin; refine wpList_append_own _ rfl _ _ 26 rfl (N + 1) 52 i0 (.agg #[.int .i64 0, .int .i64 0, .string ⟨#[]⟩]) 3 32 Tryz.underlying26 hii hz0 hz1 hz2 rfl (by decide) (.slice ao l.length cp) _ _ rfl (HO.out _ (T3.allocR _)) ⟨w3.heap.size, 0, none⟩ 1 1 (rcl [⟨0, 0, ⟨#[]⟩⟩]) rfl rfl (rcl_cells (by simp) (by simp) (by simp)) (rcl_one _) (by unfold maxLen; omega) (by omega) (by simp; omega) ?_; intro v' w9 hown' hgr hnil; obtain ⟨ao', cp', hv'⟩ := row_slice hown'; subst hv'; clear hnil)
        have tG := grown_tch (N := N + 1) hgr HGr.out
        have X9 : XS w9 N S (a3) (e3) := ((X3).tch (T := fun _ => False) (Tch.alloc _ _ _) (fun h => h)).tch tG (by omega)
        have T9 : Tch (fun i => N ≤ i) w w9 := (hT.trans' (((T3).allocR _).mono (fun i _ h => by omega))).trans' (tG.mono (fun i _ h => by omega))
        have hs9 : N + 1 ≤ w9.heap.size := cell_lt X9.c0
        refine ⟨⟨k + 1, _, _, l ++ [⟨0, 0, ⟨#[]⟩⟩], by go_num, by omega, ⟨by simp; omega, by show _ = _; rw [List.length_append, HLL.out]; rfl⟩, HV, ?_, X9, hs9, T9⟩, by simp [intOf]; omega⟩
        rw [rcl_snoc, List.length_append]; exact hown'
      by_cases m1 : m = 1
      · subst m1
        clear m0
        have X4 : XS (w3.setCell ⟨B, 0, none⟩ (.int .i64 1)) N S a3 e3 := X3.tch (Tch.setCell (fun i => i = B) w3 ⟨B, 0, none⟩ _ rfl) (by omega)
        have T4 : Tch (fun i => i = N ∨ B ≤ i) wr (w3.setCell ⟨B, 0, none⟩ (.int .i64 1)) := T3.setCellR _ _ (by show B = N ∨ B ≤ B; omega)
        have b4 := box_set0 b3 (.int .i64 1)
        go_wp2_with fail
        refine (xint_any _ S a3 e3 _ X4 hS).mono ?_
        rintro x w5 ⟨rfl, X5, t5⟩
        have T5 : Tch (fun i => i = N ∨ B ≤ i) wr w5 := T4.trans' (t5.mono (fun i _ h => Or.inl h))
        have b5 := (t5.block B (blk_lt b4) (by omega)).trans b4
        clear X4 T4 b4 t5 X3 T3 b3 q0 q1 q2 f0 f1 f2
        obtain ⟨q0, q1, q2, q3⟩ := bx_cells b5
        have f0 := q3 0; have f1 := q3 1; have f2 := q3 2
        clear q3
        obtain ⟨x5, a5, e5, hE5⟩ : ∃ x5 a5 e5, numR 10 1 S a3 e3 = (x5, a5, e5) := ⟨_, _, _, rfl⟩
        rw [hE5] at X5 HRd ⊢
        simp only at X5 HRd ⊢
        clear hE5
        have HV : Hid (D = decGo S (n - (k + 1)) (a5) (e5) (l ++ [⟨1, unf x5, ⟨#[]⟩⟩])) := by show _ = _; rw [HA.out]; exact decGo_step HK.out (by rw [HRd.out]; rfl)
        have hszW : N + 1 ≤ (w5.setCell ⟨B, 1, none⟩ (.int .i64 (unf x5))).heap.size := cell_lt (X5.tch (Tch.setCell (fun i => i = B) w5 ⟨B, 1, none⟩ _ rfl) (by omega)).c0
        obtain ⟨p0, p1, p2, _⟩ := bx_cells (box_set1 b5 (.int .i64 (unf x5)))
        have XW' : XS (w5.setCell ⟨B, 1, none⟩ (.int .i64 (unf x5))) N S (a5) (e5) := X5.tch (Tch.setCell (fun i => i = B) w5 ⟨B, 1, none⟩ _ rfl) (by omega)
        have TW : Tch (fun i => i = N ∨ B ≤ i) wr (w5.setCell ⟨B, 1, none⟩ (.int .i64 (unf x5))) := T5.setCellR _ _ (by show B = N ∨ B ≤ B; omega)
        go_wp2_with (at_builtin; refine wpList_append_own _ rfl _ _ 26 rfl (N + 1) 52 i0 (.agg #[.int .i64 0, .int .i64 0, .string ⟨#[]⟩]) 3 32 Tryz.underlying26 hii hz0 hz1 hz2 rfl (by decide) (.slice ao l.length cp) _ _ rfl (HO.out _ (TW.allocR _)) _ 1 1 (rcl [⟨1, unf x5, ⟨#[]⟩⟩]) rfl rfl (new_cells _ _ _ (by simp)) (rcl_one _) (by unfold maxLen; omega) (by omega) (by have h9 := hszW; simp only [World.size_setCell] at h9; simp; omega) ?_; intro v' w9 hown' hgr hnil; obtain ⟨ao', cp', hv'⟩ := row_slice hown'; subst hv'; clear hnil)
        have tG := grown_tch (N := N + 1) hgr HGr.out
        have X9 : XS w9 N S (a5) (e5) := ((XW').tch (T := fun _ => False) (Tch.alloc _ _ _) (fun h => h)).tch tG (by omega)
        have T9 : Tch (fun i => N ≤ i) w w9 := (hT.trans' (((TW).allocR _).mono (fun i _ h => by omega))).trans' (tG.mono (fun i _ h => by omega))
        have hs9 : N + 1 ≤ w9.heap.size := cell_lt X9.c0
        refine ⟨⟨k + 1, _, _, l ++ [⟨1, unf x5, ⟨#[]⟩⟩], by go_num, by omega, ⟨by simp; omega, by show _ = _; rw [List.length_append, HLL.out]; rfl⟩, HV, ?_, X9, hs9, T9⟩, by simp [intOf]; omega⟩
        rw [rcl_snoc, List.length_append]; exact hown'
      by_cases m2 : m = 2
      · subst m2
        clear m0 m1
        have X4 : XS (w3.setCell ⟨B, 0, none⟩ (.int .i64 2)) N S a3 e3 := X3.tch (Tch.setCell (fun i => i = B) w3 ⟨B, 0, none⟩ _ rfl) (by omega)
        have T4 : Tch (fun i => i = N ∨ B ≤ i) wr (w3.setCell ⟨B, 0, none⟩ (.int .i64 2)) := T3.setCellR _ _ (by show B = N ∨ B ≤ B; omega)
        have b4 := box_set0 b3 (.int .i64 2)
        go_wp2_with fail
        refine (xtext_any _ S a3 e3 200 _ X4 hS).mono ?_
        rintro x w5 ⟨rfl, X5, t5⟩
        have T5 : Tch (fun i => i = N ∨ B ≤ i) wr w5 := T4.trans' (t5.mono (fun i _ h => Or.inl h))
        have b5 := (t5.block B (blk_lt b4) (by omega)).trans b4
        clear X4 T4 b4 t5 X3 T3 b3 q0 q1 q2 f0 f1 f2
        obtain ⟨q0, q1, q2, q3⟩ := bx_cells b5
        have f0 := q3 0; have f1 := q3 1; have f2 := q3 2
        clear q3
        obtain ⟨x5, a5, e5, hE5⟩ : ∃ x5 a5 e5, textR 200 S a3 e3 = (x5, a5, e5) := ⟨_, _, _, rfl⟩
        rw [hE5] at X5 HRd ⊢
        simp only at X5 HRd ⊢
        clear hE5
        have HV : Hid (D = decGo S (n - (k + 1)) (a5) (e5) (l ++ [⟨2, 0, x5⟩])) := by show _ = _; rw [HA.out]; exact decGo_step HK.out (by rw [HRd.out]; rfl)
        have hszW : N + 1 ≤ (w5.setCell ⟨B, 2, none⟩ (.string x5)).heap.size := cell_lt (X5.tch (Tch.setCell (fun i => i = B) w5 ⟨B, 2, none⟩ _ rfl) (by omega)).c0
        obtain ⟨p0, p1, p2, _⟩ := bx_cells (box_set2 b5 (.string x5))
        have XW' : XS (w5.setCell ⟨B, 2, none⟩ (.string x5)) N S (a5) (e5) := X5.tch (Tch.setCell (fun i => i = B) w5 ⟨B, 2, none⟩ _ rfl) (by omega)
        have TW : Tch (fun i => i = N ∨ B ≤ i) wr (w5.setCell ⟨B, 2, none⟩ (.string x5)) := T5.setCellR _ _ (by show B = N ∨ B ≤ B; omega)
        go_wp2_with (at_builtin; refine wpList_append_own _ rfl _ _ 26 rfl (N + 1) 52 i0 (.agg #[.int .i64 0, .int .i64 0, .string ⟨#[]⟩]) 3 32 Tryz.underlying26 hii hz0 hz1 hz2 rfl (by decide) (.slice ao l.length cp) _ _ rfl (HO.out _ (TW.allocR _)) _ 1 1 (rcl [⟨2, 0, x5⟩]) rfl rfl (new_cells _ _ _ (by simp)) (rcl_one _) (by unfold maxLen; omega) (by omega) (by have h9 := hszW; simp only [World.size_setCell] at h9; simp; omega) ?_; intro v' w9 hown' hgr hnil; obtain ⟨ao', cp', hv'⟩ := row_slice hown'; subst hv'; clear hnil)
        have tG := grown_tch (N := N + 1) hgr HGr.out
        have X9 : XS w9 N S (a5) (e5) := ((XW').tch (T := fun _ => False) (Tch.alloc _ _ _) (fun h => h)).tch tG (by omega)
        have T9 : Tch (fun i => N ≤ i) w w9 := (hT.trans' (((TW).allocR _).mono (fun i _ h => by omega))).trans' (tG.mono (fun i _ h => by omega))
        have hs9 : N + 1 ≤ w9.heap.size := cell_lt X9.c0
        refine ⟨⟨k + 1, _, _, l ++ [⟨2, 0, x5⟩], by go_num, by omega, ⟨by simp; omega, by show _ = _; rw [List.length_append, HLL.out]; rfl⟩, HV, ?_, X9, hs9, T9⟩, by simp [intOf]; omega⟩
        rw [rcl_snoc, List.length_append]; exact hown'
      by_cases m3 : m = 3
      · subst m3
        clear m0 m1 m2 
        have HV : Hid (D = decGo S (n - (k + 1)) (a3) (e3) (l ++ [⟨3, 0, ⟨#[]⟩⟩])) := by show _ = _; rw [HA.out]; exact decGo_step HK.out (by rw [HRd.out]; rfl)
        have hszW : N + 1 ≤ ((w3.setCell ⟨B, 0, none⟩ (.int .i64 3)).setCell ⟨B, 1, none⟩ (.int .i64 0)).heap.size := cell_lt ((X3.tch (Tch.setCell (fun i => i = B) w3 ⟨B, 0, none⟩ _ rfl) (by omega)).tch (Tch.setCell (fun i => i = B) _ ⟨B, 1, none⟩ _ rfl) (by omega)).c0
        obtain ⟨p0, p1, p2, _⟩ := bx_cells (box_set1 (box_set0 b3 (.int .i64 3)) (.int .i64 0))
        have XW' : XS ((w3.setCell ⟨B, 0, none⟩ (.int .i64 3)).setCell ⟨B, 1, none⟩ (.int .i64 0)) N S (a3) (e3) := (X3.tch (Tch.setCell (fun i => i = B) w3 ⟨B, 0, none⟩ _ rfl) (by omega)).tch (Tch.setCell (fun i => i = B) _ ⟨B, 1, none⟩ _ rfl) (by omega)
        have TW : Tch (fun i => i = N ∨ B ≤ i) wr ((w3.setCell ⟨B, 0, none⟩ (.int .i64 3)).setCell ⟨B, 1, none⟩ (.int .i64 0)) := (T3.setCellR _ _ (by show B = N ∨ B ≤ B; omega)).setCellR _ _ (by show B = N ∨ B ≤ B; omega)
        go_wp2_with (at_builtin; refine wpList_append_own _ rfl _ _ 26 rfl (N + 1) 52 i0 (.agg #[.int .i64 0, .int .i64 0, .string ⟨#[]⟩]) 3 32 Tryz.underlying26 hii hz0 hz1 hz2 rfl (by decide) (.slice ao l.length cp) _ _ rfl (HO.out _ (TW.allocR _)) _ 1 1 (rcl [⟨3, 0, ⟨#[]⟩⟩]) rfl rfl (new_cells _ _ _ (by simp)) (rcl_one _) (by unfold maxLen; omega) (by omega) (by have h9 := hszW; simp only [World.size_setCell] at h9; simp; omega) ?_; intro v' w9 hown' hgr hnil; obtain ⟨ao', cp', hv'⟩ := row_slice hown'; subst hv'; clear hnil)
        have tG := grown_tch (N := N + 1) hgr HGr.out
        have X9 : XS w9 N S (a3) (e3) := ((XW').tch (T := fun _ => False) (Tch.alloc _ _ _) (fun h => h)).tch tG (by omega)
        have T9 : Tch (fun i => N ≤ i) w w9 := (hT.trans' (((TW).allocR _).mono (fun i _ h => by omega))).trans' (tG.mono (fun i _ h => by omega))
        have hs9 : N + 1 ≤ w9.heap.size := cell_lt X9.c0
        refine ⟨⟨k + 1, _, _, l ++ [⟨3, 0, ⟨#[]⟩⟩], by go_num, by omega, ⟨by simp; omega, by show _ = _; rw [List.length_append, HLL.out]; rfl⟩, HV, ?_, X9, hs9, T9⟩, by simp [intOf]; omega⟩
        rw [rcl_snoc, List.length_append]; exact hown'
      by_cases m4 : m = 4
      · subst m4
        clear m0 m1 m2 m3
        have HV : Hid (D = decGo S (n - (k + 1)) (a3) (e3) (l ++ [⟨3, 1, ⟨#[]⟩⟩])) := by show _ = _; rw [HA.out]; exact decGo_step HK.out (by rw [HRd.out]; rfl)
        have hszW : N + 1 ≤ ((w3.setCell ⟨B, 0, none⟩ (.int .i64 3)).setCell ⟨B, 1, none⟩ (.int .i64 1)).heap.size := cell_lt ((X3.tch (Tch.setCell (fun i => i = B) w3 ⟨B, 0, none⟩ _ rfl) (by omega)).tch (Tch.setCell (fun i => i = B) _ ⟨B, 1, none⟩ _ rfl) (by omega)).c0
        obtain ⟨p0, p1, p2, _⟩ := bx_cells (box_set1 (box_set0 b3 (.int .i64 3)) (.int .i64 1))
        have XW' : XS ((w3.setCell ⟨B, 0, none⟩ (.int .i64 3)).setCell ⟨B, 1, none⟩ (.int .i64 1)) N S (a3) (e3) := (X3.tch (Tch.setCell (fun i => i = B) w3 ⟨B, 0, none⟩ _ rfl) (by omega)).tch (Tch.setCell (fun i => i = B) _ ⟨B, 1, none⟩ _ rfl) (by omega)
        have TW : Tch (fun i => i = N ∨ B ≤ i) wr ((w3.setCell ⟨B, 0, none⟩ (.int .i64 3)).setCell ⟨B, 1, none⟩ (.int .i64 1)) := (T3.setCellR _ _ (by show B = N ∨ B ≤ B; omega)).setCellR _ _ (by show B = N ∨ B ≤ B; omega)
        go_wp2_with (at_builtin; refine wpList_append_own _ rfl _ _ 26 rfl (N + 1) 52 i0 (.agg #[.int .i64 0, .int .i64 0, .string ⟨#[]⟩]) 3 32 Tryz.underlying26 hii hz0 hz1 hz2 rfl (by decide) (.slice ao l.length cp) _ _ rfl (HO.out _ (TW.allocR _)) _ 1 1 (rcl [⟨3, 1, ⟨#[]⟩⟩]) rfl rfl (new_cells _ _ _ (by simp)) (rcl_one _) (by unfold maxLen; omega) (by omega) (by have h9 := hszW; simp only [World.size_setCell] at h9; simp; omega) ?_; intro v' w9 hown' hgr hnil; obtain ⟨ao', cp', hv'⟩ := row_slice hown'; subst hv'; clear hnil)
        have tG := grown_tch (N := N + 1) hgr HGr.out
        have X9 : XS w9 N S (a3) (e3) := ((XW').tch (T := fun _ => False) (Tch.alloc _ _ _) (fun h => h)).tch tG (by omega)
        have T9 : Tch (fun i => N ≤ i) w w9 := (hT.trans' (((TW).allocR _).mono (fun i _ h => by omega))).trans' (tG.mono (fun i _ h => by omega))
        have hs9 : N + 1 ≤ w9.heap.size := cell_lt X9.c0
        refine ⟨⟨k + 1, _, _, l ++ [⟨3, 1, ⟨#[]⟩⟩], by go_num, by omega, ⟨by simp; omega, by show _ = _; rw [List.length_append, HLL.out]; rfl⟩, HV, ?_, X9, hs9, T9⟩, by simp [intOf]; omega⟩
        rw [rcl_snoc, List.length_append]; exact hown'
      have n0 : ¬ (m : Int) = 0 := by omega
      have n1 : ¬ (m : Int) = 1 := by omega
      have n2 : ¬ (m : Int) = 2 := by omega
      have n3 : ¬ (m : Int) = 3 := by omega
      have n4 : ¬ (m : Int) = 4 := by omega
      have HV : Hid (D = none) := by show _ = _; rw [HA.out]; exact decGo_stop HK.out (by rw [HRd.out, if_neg m0, if_neg m1, if_neg m2, if_neg (by omega)])
      have HV2 : Hid (decR S = none) := by show _ = _; rw [HD.out, HV.out]; simp
      have T9 : Tch (fun i => N ≤ i) w w3 := hT.trans' (T3.mono (fun i _ h => by omega))
      clear m0 m1 m2 m3 m4 T3 hT
      go_wp2_with fail
      go_ret2
      exact ⟨RDecOut.none HV2.out rfl, T9.mono (fun i hi h => by have := HN.out; omega)⟩
    · have HX : Hid (8 < n ∨ k = n) := by show _ ∨ _; omega
      by_cases hk1 : (k : Int) < n
      · have hk2 : ¬ (k : Int) < 9 := by omega
        clear hlt
        go_wp2_with fail
        refine (xdone_any _ S a e _ hX).mono ?_
        rintro x w3 ⟨rfl, t3⟩
        have T3 := hT.trans' (no_mono t3)
        have hO3 := HO.out w3 (no_mono t3)
        clear hT t3 HO hX hown
        obtain ⟨q, hq⟩ : ∃ q, q = doneE e (S.size - a) := ⟨_, rfl⟩
        rw [← hq]
        have HQ : Hid (q = doneE e (S.size - a)) := hq
        clear hq
        by_cases hq0 : q = 0
        · subst hq0
          by_cases h8 : 8 < n
          · have h8' : (8 : Int) < n := by omega
            have HV2 : Hid (decR S = none) := by show _ = _; rw [HD.out, if_pos h8]
            clear hO3
            go_wp2_with fail
            go_ret2
            exact ⟨RDecOut.none HV2.out rfl, T3.mono (fun i hi h => by have := HN.out; omega)⟩
          · exact absurd h8 (by omega)
        · have hq1 : (q != 0) = true := by simpa using hq0
          have HV2 : Hid (decR S = none) := by
            show _ = _
            rw [HD.out]
            by_cases h8 : 8 < n
            · rw [if_pos h8]
            · have hkn : k = n := by have := HX.out; omega
              rw [if_neg h8, HA.out, hkn, Nat.sub_self]
              show (if _ then _ else _) = _
              rw [if_neg (by rw [← HQ.out]; exact hq0)]
          clear hq0 hO3
          go_wp2_with fail
          go_ret2
          exact ⟨RDecOut.none HV2.out rfl, T3.mono (fun i hi h => by have := HN.out; omega)⟩
      · clear hlt
        go_wp2_with fail
        refine (xdone_any _ S a e _ hX).mono ?_
        rintro x w3 ⟨rfl, t3⟩
        have T3 := hT.trans' (no_mono t3)
        have hO3 := HO.out w3 (no_mono t3)
        clear hT t3 HO hX hown
        obtain ⟨q, hq⟩ : ∃ q, q = doneE e (S.size - a) := ⟨_, rfl⟩
        rw [← hq]
        have HQ : Hid (q = doneE e (S.size - a)) := hq
        clear hq
        by_cases hq0 : q = 0
        · subst hq0
          by_cases h8 : 8 < n
          · have h8' : (8 : Int) < n := by omega
            have HV2 : Hid (decR S = none) := by show _ = _; rw [HD.out, if_pos h8]
            clear hO3
            go_wp2_with fail
            go_ret2
            exact ⟨RDecOut.none HV2.out rfl, T3.mono (fun i hi h => by have := HN.out; omega)⟩
          · have h8' : ¬ (8 : Int) < n := by omega
            have hkn : k = n := by have := HX.out; omega
            have HV : Hid (decR S = some l) := by
              show _ = _
              rw [HD.out, if_neg h8, HA.out, hkn, Nat.sub_self]
              show (if _ then _ else _) = _
              rw [if_pos HQ.out.symm]
            obtain ⟨hen, hl8, hri⟩ := dec_enc HV.out
            obtain ⟨g, o, hao, hro⟩ : ∃ g o, (l ≠ [] → ao = some ⟨g, o, none⟩) ∧ RowAt w3 g o l := by
              by_cases hl0 : l = []
              · subst hl0; exact ⟨0, 0, fun h => absurd rfl h, fun j hj => by simp at hj⟩
              · obtain ⟨g, h1, _, h3⟩ := row_at hO3 hl0
                exact ⟨g, 0, fun _ => h1, h3⟩
            have HRo : Hid (∀ W, Tch (fun _ => False) w3 W → RowOf W ao l) := fun W t hv => ⟨g, o, hao hv, hro.tch t (fun _ h => h)⟩
            have hec := rencode_any l ao g o cp w3 hao hro (fun v hv => (hri v hv).2) (by omega)
            rw [hen] at hec
            simp only [bs_back] at hec
            clear hO3 hen hri hao hro hkn
            go_wp2_with fail
            refine hec.mono ?_
            rintro x w4 ⟨rfl, t4⟩
            clear hec
            go_wp2_with fail
            go_ret2
            refine ⟨?_, (T3.trans' (no_mono t4)).mono (fun i hi h => by have := HN.out; omega)⟩
            unfold RDecOut
            rw [HV.out]
            exact ⟨ao, cp, rfl, HRo.out _ t4, fun g o e => by have h1 := HGr.out g (by rw [e]; rfl); have := HN.out; omega⟩
        · have hq1 : (q != 0) = true := by simpa using hq0
          have HV2 : Hid (decR S = none) := by
            show _ = _
            rw [HD.out]
            by_cases h8 : 8 < n
            · rw [if_pos h8]
            · have hkn : k = n := by have := HX.out; omega
              rw [if_neg h8, HA.out, hkn, Nat.sub_self]
              show (if _ then _ else _) = _
              rw [if_neg (by rw [← HQ.out]; exact hq0)]
          clear hq0 hO3
          go_wp2_with fail
          go_ret2
          exact ⟨RDecOut.none HV2.out rfl, T3.mono (fun i hi h => by have := HN.out; omega)⟩
end Go.Proofs.YteaagnlhkopgdaaGreatDoor
