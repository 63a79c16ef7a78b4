import Derived.Test.YteaagnlhkopgdaaGreatDoorBarred
import Derived.Test.YteaagnlhkopgdaaGreatDoorOrdv
import Derived.Test.YteaagnlhkopgdaaGreatDoorCCat
set_option maxHeartbeats 2000000
set_option maxRecDepth 100000
namespace Go.Proofs.YteaagnlhkopgdaaGreatDoor.C
open Go.RowKit
theorem upd_ok (bs l : List UInt8) : upd bs 0 l 0 = (bs ++ l, 0) := by simp [upd]
theorem wvar_ok (b : Nat) (bs : List UInt8) (n : Int) (w : World) (h : WS w b bs 0) (h0 : 0 ≤ n) (hn : n ≤ 9223372036854775807) (hlen : bs.length + 10 ≤ 140737488355328) :
    Calls Tryz.prog 111 #[.pointer (some ⟨b, 0, none⟩), .int .i64 n] w fun x w' => x = .returned (.tuple #[]) ∧ WS w' b (bs ++ dg n.toNat) 0 ∧ Tch (WT b w) w w' := by
  have q := wvar_any b bs 0 n w h hn hlen
  have e : upd bs 0 (varL n) (varC n) = (bs ++ dg n.toNat, 0) := by unfold varC varL; rw [if_neg (by omega)]; exact upd_ok _ _
  rw [e] at q; exact q
theorem wtext_ok (b : Nat) (bs : List UInt8) (s : ByteArray) (most : Int) (w : World) (h : WS w b bs 0) (hs : (s.size : Int) ≤ most) (hlen : bs.length + 10 + s.size ≤ 140737488355328) :
    Calls Tryz.prog 134 #[.pointer (some ⟨b, 0, none⟩), .string s, .int .i64 most] w fun x w' => x = .returned (.tuple #[]) ∧ WS w' b (bs ++ textL s) 0 ∧ Tch (WT b w) w w' := by
  have q := wtext_any b bs 0 s most w h hlen
  have e : upd bs 0 (textL s) (textC s most) = (bs ++ textL s, 0) := by unfold textC; rw [if_neg (by omega), if_neg (by omega)]; exact upd_ok _ _
  rw [e] at q; exact q
theorem wbyte1' (b : Nat) (bs : List UInt8) (n : Int) (z : Nat) (w : World) (h : WS w b bs 0) (hz : w.heap.size = z) (h0 : 0 ≤ n) (h1 : n ≤ 255) (hlen : bs.length + 1 ≤ 140737488355328) :
    Calls Tryz.prog 31 #[.pointer (some ⟨b, 0, none⟩), .slice (some ⟨z, 0, none⟩) 1 1] (w.alloc (.cells #[.int .i64 n] 3)) fun x w' => x = .returned (.tuple #[]) ∧ WS w' b (bs ++ bytesL [n]) 0 ∧ Tch (WT b w) w w' := wbyte1 b bs n z w h hz h0 h1 hlen
theorem wbyte2 (b : Nat) (bs : List UInt8) (n m : Int) (z : Nat) (w : World) (h : WS w b bs 0) (hz : w.heap.size = z) (h0 : 0 ≤ n ∧ n ≤ 255) (h1 : 0 ≤ m ∧ m ≤ 255) (hlen : bs.length + 2 ≤ 140737488355328) :
    Calls Tryz.prog 31 #[.pointer (some ⟨b, 0, none⟩), .slice (some ⟨z, 0, none⟩) 2 2] (w.alloc (.cells #[.int .i64 n, .int .i64 m] 3)) fun x w' => x = .returned (.tuple #[]) ∧ WS w' b (bs ++ bytesL [n, m]) 0 ∧ Tch (WT b w) w w' := by
  subst hz
  have hb := h.lt
  have := wbyte_any b bs 0 [n, m] w.heap.size 2 _ (h.tch (Tch.alloc (fun _ => False) w (.cells #[.int .i64 n, .int .i64 m] 3)) (fun _ _ _ h => h)) (by simpa using hlen) (by omega) ⟨_, _, heap_new w _⟩ (fun j hj => by
    have hj2 : j < 2 := hj
    rcases j with _ | _ | j
    · simp
    · simp
    · omega)
  refine this.mono ?_
  rintro x w' ⟨hx, h2, h3⟩
  have e : upd bs 0 (bytesL [n, m]) (bytesC [n, m]) = (bs ++ bytesL [n, m], 0) := by simp [upd, bytesC, byteOk, h0, h1]
  rw [e] at h2
  exact ⟨hx, h2, wt_alloc h3⟩
theorem wt_keep {b : Nat} {w w' : World} (t : Tch (WT b w) w w') {i : Nat} {cur : Array Value} {T : TypeId} {fr : Nat × Nat} (h : w.heap[i]? = some (.cells cur T fr)) (hT : T ≠ 5) (hi : i ≠ b) : w'.heap[i]? = some (.cells cur T fr) := by
  rw [t.block i (blk_lt h)]
  · exact h
  · rintro (h1 | ⟨_, c, f, h1⟩)
    · exact hi h1
    · rw [h] at h1
      simp at h1
      exact hT h1.2.1
theorem layRow_any (b : Nat) (bs : List UInt8) (vs : List Val) (ao : Option Addr) (c : Nat) (w : World) (h : WS w b bs 0) (hg : HE w) (hr : SL w ao (vcl vs)) (hi : ∀ v ∈ vs, v.i64) (hl : vs.length ≤ 9223372036854775807) (hlen : bs.length + 2000 ≤ 140737488355328) :
    Calls Tryz.prog 145 #[.pointer (some ⟨b, 0, none⟩), .slice ao vs.length c] w fun x w' => x = .returned (.tuple #[]) ∧ WS w' b (bs ++ rowL vs) 0 ∧ Tch (WT b w) w w' := by
  have q := encode_row vs ao c w hg hr hi hl
  have hle := encR_len vs
  have hsz : (⟨(encR vs).1.toArray⟩ : ByteArray).size = (encR vs).1.length := by show (encR vs).1.toArray.size = _; simp
  have q2 : ∀ w1, Tch (fun _ => False) w w1 → Calls Tryz.prog 134 #[.pointer (some ⟨b, 0, none⟩), .string ⟨(encR vs).1.toArray⟩, .int .i64 1700] w1 fun x w' => x = .returned (.tuple #[]) ∧ WS w' b (bs ++ rowL vs) 0 ∧ Tch (WT b w1) w1 w' := fun w1 t =>
    wtext_ok b bs ⟨(encR vs).1.toArray⟩ 1700 w1 (h.tch t (fun _ _ _ h => h)) (by rw [hsz]; omega) (by rw [hsz]; omega)
  obtain ⟨E, hE⟩ : ∃ E, E = (encR vs).2 := ⟨_, rfl⟩
  obtain ⟨s, hs⟩ : ∃ s : ByteArray, s = ⟨(encR vs).1.toArray⟩ := ⟨_, rfl⟩
  rw [← hE, ← hs] at q
  rw [← hs] at q2
  have HQ2 : Hid _ := q2
  obtain ⟨n, hn⟩ : ∃ n, n = vs.length := ⟨_, rfl⟩
  rw [← hn] at q ⊢
  clear hn hE hs q2 hsz hle hlen hl hi hr hg h
  go_enter Tryz.func145, Tryz.ntmps145
  go_wp2_with (go_at_call 147; refine q.mono ?_; rintro x w1 ⟨rfl, t1⟩)
  refine (HQ2.out w1 t1).mono ?_
  rintro x w2 ⟨rfl, h2, t2⟩
  go_wp2_with fail
  go_end0
  exact ⟨rfl, h2, wt_new t1 t2⟩
theorem colL_len {c : Col} (h : nmOk c.nm = true) : (colL c).length ≤ 30 := by
  have h1 := nm_size h
  have h2 := fol_dg_len c.nm.size
  have h3 : c.nm.data.toList.length = c.nm.size := by simp
  have h4 : (bytesL [c.k, nb c.nl]).length = 2 := rfl
  unfold colL textL
  simp only [List.length_append]
  omega
theorem colsL_len : ∀ {l : List Col}, (∀ c ∈ l, nmOk c.nm = true ∧ kdOk c.k = true) → (colsL l).length ≤ l.length * 30
  | [], _ => by simp [colsL]
  | c :: l, h => by
    have e : colsL (c :: l) = colL c ++ colsL l := List.flatMap_cons
    have h1 := colL_len (h c (by simp)).1
    have h2 := colsL_len (l := l) (fun x hx => h x (by simp [hx]))
    rw [e, List.length_append, List.length_cons]; omega
theorem colsL_succ (l : List Col) (k : Nat) (hk : k < l.length) : colsL (l.take (k + 1)) = colsL (l.take k) ++ colL l[k] := by
  have h : l.take (k + 1) = l.take k ++ [l[k]] := (List.take_append_getElem hk).symm
  unfold colsL
  rw [h, List.flatMap_append, List.flatMap_cons, List.flatMap_nil, List.append_nil]
end Go.Proofs.YteaagnlhkopgdaaGreatDoor.C
namespace Go.Proofs.YteaagnlhkopgdaaGreatDoor.C
open Go.RowKit
theorem ccl_snoc (l : List Col) (x : Col) : ccl (l ++ [x]) = ccl l ++ [.string x.nm, .int .i64 x.k, .bool x.nl] := f3_append ..
theorem isPosition_any (n : Int) (w : World) : Calls Tryz.prog 110 #[.int .i64 n] w fun x w' => x = .returned (.bool (decide (rtP n))) ∧ w' = w := by
  go_enter Tryz.func110, Tryz.ntmps110
  go_wp2
  all_goals (go_ret; refine ⟨vret_bool (bd ?_), rfl⟩; unfold rtP; simp; omega)
theorem wname_ok (b : Nat) (bs : List UInt8) (s : ByteArray) (w : World) (h : WS w b bs 0) (hs : s.size ≤ 16) (hlen : bs.length + 10 + s.size ≤ 140737488355328) :
    Calls Tryz.prog 127 #[.pointer (some ⟨b, 0, none⟩), .string s] w fun x w' => x = .returned (.tuple #[]) ∧ WS w' b (bs ++ textL s) 0 ∧ Tch (WT b w) w w' := by
  have q := wtext_ok b bs s 16 w h (by omega) hlen
  clear h hs hlen
  go_enter Tryz.func127, Tryz.ntmps127
  go_wp2_with fail
  refine q.mono ?_
  rintro x w1 ⟨rfl, h1, t1⟩
  go_wp2_with fail
  go_end0
  exact ⟨rfl, h1, t1⟩
theorem rname_any (b : Nat) (S : ByteArray) (a : Nat) (e : Int) (w : World) (h : RD w b S a e) (hS : S.size ≤ 281474976710656) :
    Calls Tryz.prog 129 #[.pointer (some ⟨b, 0, none⟩)] w fun x w' => x = .returned (.string (textR 16 S a e).1) ∧ RD w' b S (textR 16 S a e).2.1 (textR 16 S a e).2.2 ∧ Tch (fun i => i = b) w w' := by
  have q := rtext_any b S a e 16 w h hS
  clear h
  go_enter Tryz.func129, Tryz.ntmps129
  go_wp2_with fail
  refine q.mono ?_
  rintro x w1 ⟨rfl, h1, t1⟩
  go_wp2_with fail
  go_ret
  exact ⟨rfl, h1, t1⟩
end Go.Proofs.YteaagnlhkopgdaaGreatDoor.C
namespace Go.Proofs.YteaagnlhkopgdaaGreatDoor.C
open Go.RowKit
theorem SL.ge {b : Nat} {w w' : World} {ao : Option Addr} {cs : List Value} (h : SL w ao cs) (t : Tch (fun i => b ≤ i) w w') (hb : ∀ g o, ao = some ⟨g, o, none⟩ → g < b) : SL w' ao cs := h.tch t (fun g o e hs => by have := hb g o e; omega)
theorem blk5 {W : World} {g : Nat} {a b c d e : Value} {T : TypeId} {fr : Nat × Nat} (h : W.heap[g]? = some (.cells #[a, b, c, d, e] T fr)) : W.cell? ⟨g, 0, none⟩ = some a ∧ W.cell? ⟨g, 1, none⟩ = some b ∧ W.cell? ⟨g, 2, none⟩ = some c ∧ W.cell? ⟨g, 3, none⟩ = some d ∧ W.cell? ⟨g, 4, none⟩ = some e :=
  ⟨blk_cell h 0, blk_cell h 1, blk_cell h 2, blk_cell h 3, blk_cell h 4⟩
theorem blk3 {W : World} {g : Nat} {a b c : Value} {T : TypeId} {fr : Nat × Nat} (h : W.heap[g]? = some (.cells #[a, b, c] T fr)) : W.cell? ⟨g, 0, none⟩ = some a ∧ W.cell? ⟨g, 1, none⟩ = some b ∧ W.cell? ⟨g, 2, none⟩ = some c :=
  ⟨blk_cell h 0, blk_cell h 1, blk_cell h 2⟩
theorem layTable_any (b : Nat) (bs : List UInt8) (t : Tbl) (ao : Option Addr) (c : Nat) (w : World) (h : WS w b bs 0) (ht : RT t) (hr : SL w ao (ccl t.cols)) (hb : ∀ g o, ao = some ⟨g, o, none⟩ → g < b) (hlen : bs.length + 1000 ≤ 140737488355328) :
    Calls Tryz.prog 121 #[.pointer (some ⟨b, 0, none⟩), tA t.id t.ver t.nm (.slice ao t.cols.length c) t.key] w fun x w' => x = .returned (.tuple #[]) ∧ WS w' b (bs ++ tabL t) 0 ∧ Tch (WT b w) w w' := by
  have i1 := ht.id
  have i2 := ht.ver
  have i3 := nm_size ht.nm
  have i4 := ht.len
  have i5 := ht.key
  have HC : Hid (∀ c ∈ t.cols, nmOk c.nm = true ∧ kdOk c.k = true) := ht.cols
  obtain ⟨n, hn⟩ : ∃ n, n = t.cols.length := ⟨_, rfl⟩
  have hlt := h.lt
  obtain ⟨w0, hw0⟩ : ∃ w0, w0 = w.alloc (.cells #[.int .i64 t.id, .int .i64 t.ver, .string t.nm, .slice ao n c, .int .i64 t.key] 24) := ⟨_, rfl⟩
  have t0 : Tch (fun _ => False) w w0 := by rw [hw0]; exact Tch.alloc _ _ _
  have b0 : w0.heap[w.heap.size]? = some (.cells #[.int .i64 t.id, .int .i64 t.ver, .string t.nm, .slice ao n c, .int .i64 t.key] 24 (0, 0)) := by rw [hw0]; exact heap_new w _
  have HK : Hid (∀ W, Tch (WT b w0) w0 W → W.heap[w.heap.size]? = some (.cells #[.int .i64 t.id, .int .i64 t.ver, .string t.nm, .slice ao n c, .int .i64 t.key] 24 (0, 0)) ∧ SL W ao (ccl t.cols)) := fun W T =>
    ⟨wt_keep T b0 (by decide) (by omega), (hr.no t0).ge (wt_le T) hb⟩
  have h0 : WS w0 b bs 0 := h.tch t0 (fun _ _ _ h => h)
  have HT0 : Hid (Tch (fun _ => False) w w0) := t0
  have HW0 : Hid (w0 = w.alloc (.cells #[.int .i64 t.id, .int .i64 t.ver, .string t.nm, .slice ao n c, .int .i64 t.key] 24)) := hw0
  have HNN : Hid (n = t.cols.length) := hn
  obtain ⟨e0, e1, e2, e3, e4⟩ := blk5 b0
  rw [← hn] at i4 i5 ⊢
  clear h hr hb ht t0 b0 hn hw0
  go_enter Tryz.func121, Tryz.ntmps121
  go_wp2_with fail
  have q0 := wvar_ok b bs t.id w0 h0 (by omega) (by omega) (by omega)
  rw [HW0.out] at q0
  refine q0.mono ?_
  rintro x w1 ⟨rfl, h1, t1⟩
  rw [← HW0.out] at t1
  clear q0
  have l1 := fol_dg_len t.id.toNat
  obtain ⟨b1, -⟩ := HK.out _ t1
  obtain ⟨f0, f1, f2, f3, f4⟩ := blk5 b1
  clear e0 e1 e2 e3 e4 h0 b1 HW0
  go_wp2_with fail
  refine (wvar_ok b _ t.ver w1 h1 (by omega) (by omega) (by rw [List.length_append]; omega)).mono ?_
  rintro x w2 ⟨rfl, h2, t2⟩
  have l2 := fol_dg_len t.ver.toNat
  have T2 := wt_trans t1 t2
  obtain ⟨b1, -⟩ := HK.out _ T2
  clear f0 f1 f2 f3 f4 h1 t1 t2
  obtain ⟨f0, f1, f2, f3, f4⟩ := blk5 b1
  clear b1
  go_wp2_with fail
  refine (wname_ok b _ t.nm w2 h2 (by omega) (by rw [List.length_append, List.length_append]; omega)).mono ?_
  rintro x w3 ⟨rfl, h3, t3⟩
  have l3 : (textL t.nm).length ≤ 26 := by
    have h2 := fol_dg_len t.nm.size
    have h3 : t.nm.data.toList.length = t.nm.size := by simp
    unfold textL; rw [List.length_append]; omega
  have T3 := wt_trans T2 t3
  obtain ⟨b1, -⟩ := HK.out _ T3
  clear f0 f1 f2 f3 f4 h2 T2 t3
  obtain ⟨f0, f1, f2, f3, f4⟩ := blk5 b1
  clear b1
  go_wp2_with fail
  refine (wbyte1' b _ n _ w3 h3 (by simp) (by omega) (by omega) (by simp only [List.length_append]; omega)).mono ?_
  rintro x w4 ⟨rfl, h4, t4⟩
  have T4 := wt_trans T3 t4
  obtain ⟨b1, -⟩ := HK.out _ T4
  clear f0 f1 f2 f3 f4 h3 T3 t4
  obtain ⟨f0, f1, f2, f3, f4⟩ := blk5 b1
  clear b1
  obtain ⟨B, hB⟩ : ∃ B, B = bs ++ dg t.id.toNat ++ dg t.ver.toNat ++ textL t.nm ++ bytesL [(n : Int)] := ⟨_, rfl⟩
  have lB : B.length ≤ bs.length + 47 := by
    have : (bytesL [(n : Int)]).length = 1 := rfl
    rw [hB]; simp only [List.length_append]; omega
  rw [← hB] at h4
  have HB : Hid (B = bs ++ dg t.id.toNat ++ dg t.ver.toNat ++ textL t.nm ++ bytesL [(n : Int)]) := hB
  clear hB l1 l2 l3
  go_wp2_with fail
  go_loopw [27] (fun i wr => ∃ k : Nat, i = .int .i64 k ∧ k ≤ n ∧ WS wr b (B ++ colsL (t.cols.take k)) 0 ∧ Tch (WT b w0) w0 wr) (fun i _ => n - (intOf i).toNat)
  case atStart => exact ⟨0, rfl, Nat.zero_le _, by simpa [colsL] using h4, T4⟩
  case round =>
    obtain ⟨k, rfl, hk, hW, hT⟩ := hrel
    clear h4 T4 f0 f1 f2 f3 f4
    have HCt : Hid (∀ c ∈ t.cols.take k, nmOk c.nm = true ∧ kdOk c.k = true) := fun c hc => HC.out c (List.mem_of_mem_take hc)
    have lc := colsL_len HCt.out
    have lk : (t.cols.take k).length ≤ 8 := by rw [List.length_take]; omega
    obtain ⟨b1, hs⟩ := HK.out _ hT
    have hwl := hW.lt
    by_cases hkn : k < n
    · have hkn' : (k : Int) < n := by omega
      have hkc : k < t.cols.length := by have := HNN.out; omega
      obtain ⟨g, o, rfl, ha⟩ := hs.col hkc
      obtain ⟨c0, c1, c2⟩ := ha.col k hkc
      obtain ⟨cl, hcl⟩ : ∃ cl, cl = t.cols[k] := ⟨_, rfl⟩
      have hcm := HC.out cl (by rw [hcl]; exact List.getElem_mem hkc)
      have hnk := nm_size hcm.1
      have hkd := kd_rng hcm.2
      have hnb := nb_rng cl.nl
      have HS : Hid (colsL (t.cols.take (k + 1)) = colsL (t.cols.take k) ++ colL cl) := by show _ = _; rw [hcl]; exact colsL_succ _ _ hkc
      rw [← hcl] at c0 c1 c2
      clear hcl ha hs b1
      obtain ⟨wb, hwb⟩ : ∃ wb, wb = wr.alloc (.cells #[.string cl.nm, .int .i64 cl.k, .bool cl.nl] 54) := ⟨_, rfl⟩
      have tb : Tch (fun _ => False) wr wb := by rw [hwb]; exact Tch.alloc _ _ _
      have bb : wb.heap[wr.heap.size]? = some (.cells #[.string cl.nm, .int .i64 cl.k, .bool cl.nl] 54 (0, 0)) := by rw [hwb]; exact heap_new wr _
      have hWb := hW.tch tb (fun _ _ _ h => h)
      have HWB : Hid (wb = wr.alloc (.cells #[.string cl.nm, .int .i64 cl.k, .bool cl.nl] 54)) := hwb
      have HTB : Hid (Tch (WT b w0) w0 wb) := wt_trans hT (wt_new tb (Tch.refl _ _))
      obtain ⟨g0, g1, g2⟩ := blk3 bb
      clear hwb tb hW hT
      go_wp2_with fail
      have q5 := wname_ok b _ cl.nm wb hWb (by omega) (by rw [List.length_append]; omega)
      rw [HWB.out] at q5
      refine q5.mono ?_
      rintro x w5 ⟨rfl, h5, t5⟩
      rw [← HWB.out] at t5
      clear q5
      have l5 : (textL cl.nm).length ≤ 26 := by
        have h2 := fol_dg_len cl.nm.size
        have h3 : cl.nm.data.toList.length = cl.nm.size := by simp
        unfold textL; rw [List.length_append]; omega
      have bb5 := wt_keep t5 bb (by decide) (by omega)
      have HT5 : Hid (Tch (WT b w0) w0 w5) := wt_trans HTB.out t5
      clear g0 g1 g2 c0 c1 c2 hWb bb t5 HTB HWB
      obtain ⟨g0, g1, g2⟩ := blk3 bb5
      clear bb5
      have qn := nullByte_any cl.nl
      obtain ⟨C, hC⟩ : ∃ C : List Value → World → Prop, C = fun st W => match st with
        | [] => Tch (fun _ => False) w5 W
        | [y] => ∃ W0, Tch (fun _ => False) w5 W0 ∧ y = .slice (some ⟨W0.heap.size, 0, none⟩) 2 2 ∧ W = W0.alloc (.cells #[.int .i64 cl.k, .int .i64 (nb cl.nl)] 3)
        | _ => False := ⟨_, rfl⟩
      have h0' : C [] w5.drew := by rw [hC]; exact (Tch.refl _ _).drew
      have hKc : ∀ s W, C s W → W.cell? ⟨wr.heap.size, 1, none⟩ = some (.int .i64 cl.k) ∧ W.cell? ⟨wr.heap.size, 2, none⟩ = some (.bool cl.nl) := fun s W h => by
        have T : Tch (fun _ => False) w5 W := by
          rw [hC] at h
          match s, h with
          | [], h => exact h
          | [y], h => obtain ⟨W0, h1, _, rfl⟩ := h; exact h1.allocR _
        exact ⟨(T.cell (p := ⟨_, _, none⟩) (cell_lt g1) (fun h => h)).trans g1, (T.cell (p := ⟨_, _, none⟩) (cell_lt g2) (fun h => h)).trans g2⟩
      have h6 : ∀ W, C [] W → C [.slice (some ⟨W.heap.size, 0, none⟩) 2 2] (W.alloc (.cells #[.int .i64 cl.k, .int .i64 (nb cl.nl)] 3)) := fun W h => by
        rw [hC] at h ⊢
        exact ⟨W, h, rfl, rfl⟩
      have hsh : ∀ y W, C [y] W → ∃ g, y = .slice (some ⟨g, 0, none⟩) 2 2 := fun y W h => by
        rw [hC] at h
        obtain ⟨W0, _, e, _⟩ := h
        exact ⟨_, e⟩
      have Hfin : Hid (∀ g W, C [.slice (some ⟨g, 0, none⟩) 2 2] W → ∃ W0, Tch (fun _ => False) w5 W0 ∧ g = W0.heap.size ∧ W = W0.alloc (.cells #[.int .i64 cl.k, .int .i64 (nb cl.nl)] 3)) := fun g W h => by
        rw [hC] at h
        obtain ⟨W0, h1, e, h2⟩ := h
        have e' : g = W0.heap.size := by simpa using e
        exact ⟨W0, h1, e', h2⟩
      clear hC g0 g1 g2
      go_wp2_with fail
      refine wp_region_ordv [6] C 7 [0, 1, 2, 3, 4, 5, 6] (by kernel_rfl) (by kernel_rfl) h0' ?_
      clear h0'
      refine ordv_read rfl (by go_simp) (by rfl) ?_
      apply Exists.intro
      refine ⟨fun s' W hW b K Q hK' => ?_, fun K hK' => ?_⟩
      · obtain ⟨g1, g2⟩ := hKc _ W hW
        go_simp
        exact hK' W hW
      go_simp
      refine hK' _ ?_
      clear hK' K
      refine ordv_read rfl (by go_simp) (by rfl) ?_
      apply Exists.intro
      refine ⟨fun s' W hW b K Q hK' => ?_, fun K hK' => ?_⟩
      · obtain ⟨g1, g2⟩ := hKc _ W hW
        go_simp
        exact hK' W hW
      go_simp
      refine hK' _ ?_
      clear hK' K
      refine ordv_read rfl (by go_simp) (by rfl) ?_
      apply Exists.intro
      refine ⟨fun s' W hW b K Q hK' => ?_, fun K hK' => ?_⟩
      · obtain ⟨g1, g2⟩ := hKc _ W hW
        go_simp
        exact hK' W hW
      go_simp
      refine hK' _ ?_
      clear hK' K
      refine ordv_read rfl (by go_simp) (by rfl) ?_
      apply Exists.intro
      refine ⟨fun s' W hW b K Q hK' => ?_, fun K hK' => ?_⟩
      · obtain ⟨g1, g2⟩ := hKc _ W hW
        go_simp
        exact hK' W hW
      go_simp
      refine hK' _ ?_
      clear hK' K
      refine ordv_read rfl (by go_simp) (by rfl) ?_
      apply Exists.intro
      refine ⟨fun s' W hW b K Q hK' => ?_, fun K hK' => ?_⟩
      · obtain ⟨g1, g2⟩ := hKc _ W hW
        go_simp
        exact hK' W hW
      go_simp
      refine hK' _ ?_
      clear hK' K
      refine ordv_read rfl (by go_simp) (by rfl) ?_
      apply Exists.intro
      refine ⟨fun s' W hW b K Q hK' => ?_, fun K hK' => ?_⟩
      · obtain ⟨g1, g2⟩ := hKc _ W hW
        go_simp
        go_at_call 128
        refine (qn W).mono ?_
        rintro x w6 ⟨rfl, rfl⟩
        exact hK' _ hW
      go_simp
      refine hK' _ ?_
      clear hK' K
      refine ordv_turn rfl (by go_simp) (by rfl) (fun W hW b K Q hK' => ?_) (fun u hu K hK' => ?_)
      · go_simp
        exact hK' _ _ (h6 W hW)
      obtain ⟨g, rfl⟩ : ∃ g, u = .slice (some ⟨g, 0, none⟩) 2 2 := by
        obtain ⟨W', hW'⟩ := hu
        exact hsh _ _ hW'
      go_simp
      refine hK' _ ?_
      clear hK' K
      refine ordv_nil ?_
      intro w6 hw6
      obtain ⟨W0, tW0, rfl, rfl⟩ := Hfin.out _ _ hw6
      clear hw6 h6 hsh hKc hu Hfin
      go_wp2_with fail
      refine (wbyte2 b _ cl.k (nb cl.nl) _ W0 (h5.tch tW0 (fun _ _ _ h => h)) rfl hkd hnb (by simp only [List.length_append]; omega)).mono ?_
      rintro x w7 ⟨rfl, h7, t7⟩
      have T7 : Tch (WT b w0) w0 w7 := wt_trans HT5.out (wt_new tW0 t7)
      clear h5 t7
      go_wp2_with fail
      go_roundw
      case rel =>
        refine ⟨k + 1, by go_num, by omega, ?_, T7⟩
        show WS _ _ _ _
        rw [HS.out]
        unfold colL
        simpa only [List.append_assoc] using h7
      case measure => simp [intOf]; omega
    · have hkn' : ¬ (k : Int) < n := by omega
      have hke : k = n := by omega
      have HTk : Hid (t.cols.take k = t.cols) := by
        show _ = _
        rw [List.take_of_length_le]; have := HNN.out; omega
      obtain ⟨f0, f1, f2, f3, f4⟩ := blk5 b1
      clear hs b1
      go_wp2_with fail
      refine (wbyte1' b _ t.key _ wr hW (by simp) (by omega) (by omega) (by simp only [List.length_append]; omega)).mono ?_
      rintro x w4 ⟨rfl, h4, t4⟩
      have T4 := wt_trans hT t4
      go_wp2_with fail
      go_end0
      refine ⟨rfl, ?_, wt_new HT0.out T4⟩
      rw [HTk.out, HB.out] at h4
      unfold tabL
      rw [← HNN.out]
      simpa only [List.append_assoc] using h4
end Go.Proofs.YteaagnlhkopgdaaGreatDoor.C
namespace Go.Proofs.YteaagnlhkopgdaaGreatDoor.C
open Go.RowKit
theorem textR_sz (m : Int) (S : ByteArray) (a : Nat) (e : Int) : (textR m S a e).1.size ≤ S.size := by
  unfold textR
  split
  · exact Nat.zero_le _
  · split
    · exact Nat.zero_le _
    · rcases hd : dgs 9 127 (S.data.toList.drop a) 0 0 with ⟨n, k, c⟩
      simp only
      split
      · exact Nat.zero_le _
      · split
        · exact Nat.zero_le _
        · split
          · exact Nat.zero_le _
          · rw [ByteArray.size_extract]; omega
theorem vcl_get (vs : List Val) (cur : Array Value) (hs : cur.size = vs.length * 3) (h : ∀ k (hk : k < vs.length), cur[k * 3]? = some (.int .i64 vs[k].k) ∧ cur[k * 3 + 1]? = some (.int .i64 vs[k].n) ∧ cur[k * 3 + 2]? = some (.string vs[k].s)) : cur.toList = vcl vs := by
  apply List.ext_getElem?
  intro j
  by_cases hj : j < vs.length * 3
  · obtain ⟨k, i, hi, rfl⟩ : ∃ k i, i < 3 ∧ j = k * 3 + i := ⟨j / 3, j % 3, by omega, by omega⟩
    have hk : k < vs.length := by omega
    obtain ⟨h0, h1, h2⟩ := h k hk
    obtain ⟨g0, g1, g2⟩ := f3_get (fun v : Val => Value.int .i64 v.k) (fun v => .int .i64 v.n) (fun v => .string v.s) vs k hk
    have e : ∀ j, cur.toList[j]? = cur[j]? := fun j => Array.getElem?_toList
    rw [e]
    unfold vcl
    rcases (by omega : i = 0 ∨ i = 1 ∨ i = 2) with rfl | rfl | rfl
    · exact h0.trans g0.symm
    · exact h1.trans g1.symm
    · exact h2.trans g2.symm
  · rw [List.getElem?_eq_none (by simp; omega), List.getElem?_eq_none (by rw [vcl_len]; omega)]
theorem own_row {W : World} {base R : Nat} {vs : List Val} (h : RowNew W R vs) (hb : base ≤ R) (hl : vs.length ≤ 8) : W.ownsRow base 52 3 (.slice (some ⟨R, 0, none⟩) vs.length vs.length) vs.length (vcl vs) := by
  obtain ⟨ha, cur, hh, hs⟩ := h
  refine ⟨vcl_len vs, Or.inr ⟨R, vs.length, cur, rfl, hb, hh, Nat.le_refl _, ?_, hs, ?_⟩⟩
  · have : maxLen = 9223372036854775807 := rfl
    omega
  · rw [List.take_of_length_le (by simp [hs])]
    refine vcl_get vs cur hs (fun k hk => ?_)
    have := ha k hk
    simp only [Nat.zero_add] at this
    rw [blk_cell hh, blk_cell hh, blk_cell hh] at this
    exact this
theorem tkRow_len (S : ByteArray) (p : Nat × Int) : (tkRow S p).1.length ≤ 8 := by
  unfold tkRow
  simp only
  rcases hd : decR (textR 1700 S p.1 p.2).1 with _ | vs
  · simp
  · exact (dec_enc hd).2.1
theorem takeRow_any (b : Nat) (S : ByteArray) (a : Nat) (e : Int) (w : World) (h : RD w b S a e) (hg : HE w) (hgb : 0 ≠ b) (hS : S.size ≤ 281474976710656) :
    Calls Tryz.prog 146 #[.pointer (some ⟨b, 0, none⟩)] w fun x w' => (∃ v, x = .returned v ∧ w'.ownsRow w.heap.size 52 3 v (tkRow S (a, e)).1.length (vcl (tkRow S (a, e)).1)) ∧ RD w' b S (tkRow S (a, e)).2.1 (tkRow S (a, e)).2.2 ∧ Tch (fun i => i = b) w w' := by
  have q1 := rtext_any b S a e 1700 w h hS
  have hsz := textR_sz 1700 S a e
  have q2 : ∀ w1, Tch (fun i => i = b) w w1 → Calls Tryz.prog 148 #[.string (textR 1700 S a e).1] w1 fun x w' => DecOut (textR 1700 S a e).1 w1 x w' ∧ Tch (fun _ => False) w1 w' := fun w1 t =>
    decode_any (textR 1700 S a e).1 w1 (hg.tch t hgb) (by omega)
  have HQ2 : Hid _ := q2
  have e1 : (tkRow S (a, e)).2 = (textR 1700 S a e).2 := rfl
  have e2 : (tkRow S (a, e)).1 = (decR (textR 1700 S a e).1).getD [] := rfl
  have hl := tkRow_len S (a, e)
  have hb := cell_lt h.st.c0
  rw [e2] at hl
  rw [e1, e2]
  obtain ⟨T, hT⟩ : ∃ T, T = (textR 1700 S a e).1 := ⟨_, rfl⟩
  rw [← hT] at q1 HQ2 hl ⊢
  obtain ⟨A, hA⟩ : ∃ A, A = (textR 1700 S a e).2 := ⟨_, rfl⟩
  rw [← hA] at q1 ⊢
  obtain ⟨V, hV⟩ : ∃ V, V = (decR T).getD [] := ⟨_, rfl⟩
  rw [← hV] at hl ⊢
  have HV : Hid (V = (decR T).getD []) := hV
  clear hA hT e1 e2 hsz q2 h hg hV
  go_enter Tryz.func146, Tryz.ntmps146
  go_wp2_with fail
  refine q1.mono ?_
  rintro x w1 ⟨rfl, h1, t1⟩
  go_wp2_with fail
  refine (HQ2.out w1 t1).mono ?_
  rintro x w2 ⟨h2, t2⟩
  have HR : Hid (RD w2 b S A.1 A.2) := h1.tch t2 (fun h => h)
  have HT : Hid (Tch (fun i => i = b) w w2) := t1.trans t2 (fun _ _ h => h.elim)
  have hz := t1.size
  unfold DecOut at h2
  rcases hd : decR T with _ | vs
  · have hV := HV.out
    rw [hd] at h2 hV
    simp only [Option.getD_none] at h2 hV
    subst h2 hV
    go_wp2_with fail
    go_ret
    exact ⟨⟨_, rfl, rfl, Or.inl ⟨rfl, rfl⟩⟩, HR.out, HT.out⟩
  · have hV := HV.out
    rw [hd] at h2 hV
    simp only [Option.getD_some] at h2 hV
    subst hV
    obtain ⟨R, hR, rfl, hN⟩ := h2
    have HN : Hid _ := own_row hN (Nat.le_trans hz hR) hl
    clear hN hl
    go_wp2_with fail
    go_ret
    exact ⟨⟨_, rfl, HN.out⟩, HR.out, HT.out⟩
theorem RD.no {w w' : World} {b : Nat} {S : ByteArray} {a : Nat} {e : Int} (h : RD w b S a e) (t : Tch (fun _ => False) w w') : RD w' b S a e := Go.Proofs.YteaagnlhkopgdaaGreatDoor.RD.tch h t (fun h => h)
theorem byteR_int (S : ByteArray) (a : Nat) (e : Int) : ((byteR S a e).1 : Int) ≤ 255 := by have := byteR_lt S a e; omega
end Go.Proofs.YteaagnlhkopgdaaGreatDoor.C
namespace Go.Proofs.YteaagnlhkopgdaaGreatDoor.C
open Go.RowKit
def EqC (xs ys : List Col) (w : World) (x : Ending) (w' : World) : Prop := ∃ b : Bool, x = .returned (.bool b) ∧ (b = true ↔ xs = ys) ∧ ∃ m, w' = w.drewN m
theorem equalC_any (xs ys : List Col) (ao bo : Option Addr) (ca cb : Nat) (w : World) (ha : SL w ao (ccl xs)) (hb : SL w bo (ccl ys)) (h1 : xs.length ≤ 9223372036854775807) :
    Calls Tryz.prog 51 #[.slice ao xs.length ca, .slice bo ys.length cb] w fun x w' => EqC xs ys w x w' := by
  by_cases hl : xs.length = ys.length
  · have HA : Hid (∀ m, SL (w.drewN m) ao (ccl xs)) := fun m => ha.no ((Tch.refl _ w).drewN m)
    have HB : Hid (∀ m, SL (w.drewN m) bo (ccl ys)) := fun m => hb.no ((Tch.refl _ w).drewN m)
    have HL : Hid (xs.length = ys.length) := hl
    obtain ⟨n, hn⟩ : ∃ n, n = xs.length := ⟨_, rfl⟩
    have hn2 : n = ys.length := by omega
    rw [← hn, ← hn2]
    have HN : Hid (n = xs.length ∧ n = ys.length) := ⟨hn, hn2⟩
    rw [← hn] at h1
    clear ha hb hl hn hn2
    go_enter Tryz.func51, Tryz.ntmps51
    go_wp2_with fail
    go_loopw [13] (fun i wr => ∃ (k m : Nat), i = .int .i64 k ∧ k ≤ n ∧ Hid (∀ j (h1 : j < xs.length) (h2 : j < ys.length), j < k → xs[j] = ys[j]) ∧ wr = w.drewN m) (fun i _ => n - (intOf i).toNat)
    case atStart => exact ⟨0, 0, rfl, by omega, fun j _ _ h => by omega, rfl⟩
    case round =>
      obtain ⟨k, m, rfl, hk, HE, hwr⟩ := hrel
      by_cases hlt : (k : Int) < n
      · have hA := HA.out m
        have hB := HB.out m
        rw [← hwr] at hA hB
        have hx : k < xs.length := by have := HN.out.1; omega
        have hy : k < ys.length := by have := HN.out.2; omega
        obtain ⟨ga, oa, rfl, hra⟩ := hA.col hx
        obtain ⟨gb, ob, rfl, hrb⟩ := hB.col hy
        obtain ⟨a0, a1, a2⟩ := hra.col k hx
        obtain ⟨b0, b1, b2⟩ := hrb.col k hy
        have HW : Hid (wr = w.drewN m) := hwr
        obtain ⟨u, hu⟩ : ∃ u, u = xs[k] := ⟨_, rfl⟩
        obtain ⟨v, hv⟩ : ∃ v, v = ys[k] := ⟨_, rfl⟩
        rw [← hu] at a0 a1 a2
        rw [← hv] at b0 b1 b2
        have HU : Hid (u = xs[k] ∧ v = ys[k]) := ⟨hu, hv⟩
        clear hA hB hra hrb hwr hu hv
        obtain ⟨d, hd1, hd⟩ := ne_col u v
        have HD : Hid (d = true ↔ u ≠ v) := hd1
        clear hd1
        cases d with
        | true =>
          go_wp2_with fail
          go_quiet (fail)
          go_wp2
          go_ret
          refine ⟨false, rfl, ⟨fun h => by simp at h, fun h => ?_⟩, m + nq, by rw [HW.out, World.drewN_drewN]⟩
          exact absurd (by rw [HU.out.1, HU.out.2]; subst h; rfl) (HD.out.1 (by trivial))
        | false =>
          have HE2 : Hid (∀ j (h1 : j < xs.length) (h2 : j < ys.length), j < k + 1 → xs[j] = ys[j]) := fun j h1 h2 hj => by
            rcases Nat.lt_or_ge j k with h | h
            · exact HE.out j h1 h2 h
            · obtain rfl : j = k := by omega
              rw [← HU.out.1, ← HU.out.2]
              exact Classical.byContradiction fun hne => by have := HD.out.2 hne; simp at this
          go_wp2_with fail
          go_quiet (fail)
          go_wp2
          go_roundw
          case rel => exact ⟨k + 1, m + nq, by go_num, by omega, HE2, by rw [HW.out, World.drewN_drewN]⟩
          case measure => simp [intOf]; omega
      · have HW : Hid (wr = w.drewN m) := hwr
        clear hwr
        go_wp2
        go_ret
        refine ⟨true, rfl, ⟨fun _ => ?_, fun _ => rfl⟩, m, HW.out⟩
        exact List.ext_getElem HL.out (fun j h1 h2 => HE.out j h1 h2 (by have := HN.out.1; omega))
  · have hl' : ((xs.length : Int) != ys.length) = true := by simp; omega
    clear ha hb
    go_enter Tryz.func51, Tryz.ntmps51
    go_wp2
    go_ret
    exact ⟨false, rfl, ⟨fun h => by simp at h, fun h => absurd (by rw [h]) hl⟩, 0, rfl⟩
theorem Tbl.ext' {a b : Tbl} (h : a.id = b.id ∧ a.ver = b.ver ∧ a.nm = b.nm ∧ a.cols = b.cols ∧ a.key = b.key) : a = b := by
  obtain ⟨a1, a2, a3, a4, a5⟩ := a
  obtain ⟨b1, b2, b3, b4, b5⟩ := b
  simp at h
  simp [h]
theorem int_ne {a b : Int} (h : a ≠ b) : (a == b) = false := by simpa using h
theorem int_eq' {a b : Int} (h : a = b) : (a == b) = true := by simpa using h
theorem bs_eq {a b : ByteArray} (h : a = b) : (a.toList == b.toList) = true := by rw [h]; simp
theorem bs_ne {a b : ByteArray} (h : a ≠ b) : (a.toList == b.toList) = false := by
  simp only [beq_eq_false_iff_ne, ne_eq]
  intro e
  rw [ByteArray.toList_eq, ByteArray.toList_eq] at e
  exact h (ByteArray.ext (Array.ext' e))
def EqT (p : Prop) (w : World) (x : Ending) (w' : World) : Prop := ∃ b : Bool, x = .returned (.bool b) ∧ (b = true ↔ p) ∧ Tch (fun _ => False) w w'
theorem eqT_no {p : Prop} {w w' : World} (h : ¬ p) (t : Tch (fun _ => False) w w') : EqT p w (.returned (.bool false)) w' := ⟨false, rfl, ⟨(fun e => by simp at e), (fun e => absurd e h)⟩, t⟩
theorem sameTab_any (a b : Tbl) (ao bo : Option Addr) (ca cb : Nat) (w : World) (ha : SL w ao (ccl a.cols)) (hb : SL w bo (ccl b.cols)) (h1 : a.cols.length ≤ 9223372036854775807) :
    Calls Tryz.prog 28 #[tA a.id a.ver a.nm (.slice ao a.cols.length ca) a.key, tA b.id b.ver b.nm (.slice bo b.cols.length cb) b.key] w fun x w' => EqT (a = b) w x w' := by
  have t0 : ∀ o1 o2, Tch (fun _ => False) w ((w.alloc o1).alloc o2) := fun o1 o2 => (Tch.alloc _ _ _).allocR _
  have HQ : Hid (∀ o1 o2, Calls Tryz.prog 51 #[.slice ao a.cols.length ca, .slice bo b.cols.length cb] ((w.alloc o1).alloc o2) fun x w' => EqC a.cols b.cols ((w.alloc o1).alloc o2) x w') := fun o1 o2 => equalC_any a.cols b.cols ao bo ca cb _ (ha.no (t0 o1 o2)) (hb.no (t0 o1 o2)) h1
  have HT0 : Hid _ := t0
  obtain ⟨n, hn⟩ : ∃ n, n = a.cols.length := ⟨_, rfl⟩
  obtain ⟨m, hm⟩ : ∃ m, m = b.cols.length := ⟨_, rfl⟩
  rw [← hn, ← hm] at HQ ⊢
  clear ha hb t0 h1 hn hm
  by_cases e1 : a.id = b.id
  · have e1' := int_eq' e1
    have E1 : Hid (a.id = b.id) := e1
    clear e1
    by_cases e2 : a.ver = b.ver
    · have e2' := int_eq' e2
      have E2 : Hid (a.ver = b.ver) := e2
      clear e2
      by_cases e3 : a.nm = b.nm
      · have e3' := bs_eq e3
        have E3 : Hid (a.nm = b.nm) := e3
        clear e3
        by_cases e5 : a.key = b.key
        · have e5' := int_eq' e5
          have E5 : Hid (a.key = b.key) := e5
          clear e5
          go_enter Tryz.func28, Tryz.ntmps28
          go_wp2_with fail
          refine (HQ.out _ _).mono ?_
          rintro x w1 ⟨d, rfl, hd, k, rfl⟩
          have HD : Hid (d = true ↔ a.cols = b.cols) := hd
          clear hd
          cases d
          · go_wp2_with fail
            go_ret
            exact eqT_no (fun e => by have := HD.out.2 (by rw [e]); simp at this) ((HT0.out _ _).drewN k)
          · go_wp2_with fail
            go_ret
            exact ⟨true, rfl, ⟨fun _ => Tbl.ext' ⟨E1.out, E2.out, E3.out, HD.out.1 (by trivial), E5.out⟩, fun _ => rfl⟩, (HT0.out _ _).drewN k⟩
        · have e5' := int_ne e5
          go_enter Tryz.func28, Tryz.ntmps28
          go_wp2_with fail
          refine (HQ.out _ _).mono ?_
          rintro x w1 ⟨d, rfl, -, k, rfl⟩
          cases d
          all_goals
            go_wp2_with fail
            go_ret
            exact eqT_no (fun e => e5 (by rw [e])) ((HT0.out _ _).drewN k)
      · have e3' := bs_ne e3
        go_enter Tryz.func28, Tryz.ntmps28
        go_wp2_with fail
        go_ret
        exact eqT_no (fun e => e3 (by rw [e])) (HT0.out _ _)
    · have e2' := int_ne e2
      go_enter Tryz.func28, Tryz.ntmps28
      go_wp2_with fail
      go_ret
      exact eqT_no (fun e => e2 (by rw [e])) (HT0.out _ _)
  · have e1' := int_ne e1
    go_enter Tryz.func28, Tryz.ntmps28
    go_wp2_with fail
    go_ret
    exact eqT_no (fun e => e1 (by rw [e])) (HT0.out _ _)
end Go.Proofs.YteaagnlhkopgdaaGreatDoor.C
