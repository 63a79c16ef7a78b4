/- One step of a Reader and of the document's: texts, by the staged walk. -/
import Derived.Test.YtdicnnlfnfcmeabDoorRStep
import Derived.Test.YtdicnnlfnfcmeabDoorStaged
namespace Go.Proofs.YtdicnnlfnfcmeabDoor
open Go.RowKit

set_option maxHeartbeats 1000000 in
set_option maxRecDepth 100000 in
theorem rstep_4 (br bx : Nat) (S : ByteArray) (a : Nat) (e n : Int) (o : Bool) (s : ByteArray) (l : Value) (w : World) (h : Pair w br bx S a e) (hS : S.size ≤ 281474976710656) (hne : br ≠ bx) (hr0 : br ≠ 0) (hx0 : bx ≠ 0) (hg : HE w) :
    Calls Tryd.prog 13 #[.agg #[.pointer (some ⟨br, 0, none⟩), .pointer (some ⟨bx, 0, none⟩)], .agg #[.bool o, .int .i64 4, .int .i64 n, .string s, l]] w fun x w' => x = .returned (.bool true) ∧ (∃ a' e', Pair w' br bx S a' e') ∧ Tch (fun i => i = br ∨ i = bx) w w' := by
  have hlr : br < w.heap.size := cell_lt h.r.st.c0
  have hlx : bx < w.heap.size := cell_lt h.x.c0
  have hg0 : 0 < w.heap.size := cell_lt hg
  rcases hv : textR n S a e with ⟨v, a', e'⟩
  obtain ⟨C, hCdef⟩ : ∃ C : Nat → World → Prop, C = fun k W => (W.cell? ⟨w.heap.size, 0, none⟩ = some (.pointer (some ⟨br, 0, none⟩)) ∧ W.cell? ⟨w.heap.size, 1, none⟩ = some (.pointer (some ⟨bx, 0, none⟩)) ∧ W.cell? ⟨w.heap.size + 1, 2, none⟩ = some (.int .i64 n)) ∧
      (match k with | 0 => Tch (fun _ => False) w W | 1 => RD W br S a' e' ∧ Tch (fun i => i = br) w W | 2 => Pair W br bx S a' e' ∧ Tch (fun i => i = br ∨ i = bx) w W | _ => False) := ⟨_, rfl⟩
  have hc : ∀ j W, C j W → W.cell? ⟨w.heap.size, 0, none⟩ = some (.pointer (some ⟨br, 0, none⟩)) ∧ W.cell? ⟨w.heap.size, 1, none⟩ = some (.pointer (some ⟨bx, 0, none⟩)) ∧ W.cell? ⟨w.heap.size + 1, 2, none⟩ = some (.int .i64 n) := fun j W hW => by rw [hCdef] at hW; exact hW.1
  have kp : ∀ {T : Nat → Prop} {W W' : World}, (W.cell? ⟨w.heap.size, 0, none⟩ = some (.pointer (some ⟨br, 0, none⟩)) ∧ W.cell? ⟨w.heap.size, 1, none⟩ = some (.pointer (some ⟨bx, 0, none⟩)) ∧ W.cell? ⟨w.heap.size + 1, 2, none⟩ = some (.int .i64 n)) → Tch T W W' → ¬ T w.heap.size → ¬ T (w.heap.size + 1) →
      W'.cell? ⟨w.heap.size, 0, none⟩ = some (.pointer (some ⟨br, 0, none⟩)) ∧ W'.cell? ⟨w.heap.size, 1, none⟩ = some (.pointer (some ⟨bx, 0, none⟩)) ∧ W'.cell? ⟨w.heap.size + 1, 2, none⟩ = some (.int .i64 n) := fun ⟨c0, c1, c2⟩ t n0 n1 =>
    ⟨(t.cell (p := ⟨w.heap.size, 0, none⟩) (cell_lt c0) n0).trans c0, (t.cell (p := ⟨w.heap.size, 1, none⟩) (cell_lt c1) n0).trans c1, (t.cell (p := ⟨w.heap.size + 1, 2, none⟩) (cell_lt c2) n1).trans c2⟩
  have HR : ∀ W, C 0 W → Calls Tryd.prog 23 #[.pointer (some ⟨br, 0, none⟩), .int .i64 n] W fun x w' => x = .returned (.string v) ∧ C 1 w' := fun W hW => by
    rw [hCdef] at hW ⊢
    have := rtext_any br S a e n W (h.r.tch hW.2 (fun h => h)) hS
    rw [hv] at this
    refine this.mono ?_
    rintro x w' ⟨rfl, h1, t1⟩
    exact ⟨rfl, kp hW.1 t1 (by omega) (by omega), h1, (false_mono hW.2).trans' t1⟩
  have HX : ∀ W, C 1 W → Calls Tryd.prog 36 #[.pointer (some ⟨bx, 0, none⟩), .int .i64 n] W fun x w' => x = .returned (.string v) ∧ C 2 w' := fun W hW => by
    rw [hCdef] at hW ⊢
    have := xtext_any bx S a e n W (h.x.tch hW.2.2 (fun h => hne h.symm)) hS
    rw [hv] at this
    refine this.mono ?_
    rintro x w' ⟨rfl, h1, t1⟩
    exact ⟨rfl, kp hW.1 t1 (by omega) (by omega), ⟨hW.2.1.tch t1 hne, h1⟩, (hW.2.2.mono (fun _ _ => Or.inl)).trans' (t1.mono (fun _ _ => Or.inr))⟩
  have HF : ∀ W, C 2 W → Pair W br bx S a' e' ∧ Tch (fun i => i = br ∨ i = bx) w W := fun W hW => by rw [hCdef] at hW; exact hW.2
  have H0 : Hid (C 0 (((w.alloc (.cells #[.pointer (some ⟨br, 0, none⟩), .pointer (some ⟨bx, 0, none⟩)] 43)).alloc (.cells #[.bool o, .int .i64 4, .int .i64 n, .string s, l] 32)).drew)) := by
    rw [hCdef]
    exact ⟨⟨by simp, by simp, by simp⟩, (Tch.allocR (Tch.alloc _ _ _) _).drew⟩
  clear hv hCdef kp h
  go_enter Tryd.func13, Tryd.ntmps13
  go_wp2
  refine wp_region_staged [4, 9] C (by kernel_rfl) (by kernel_rfl) (by kernel_rfl) H0.out ?_
  clear H0
  repeat (first
    | (refine stage_read (by go_simp) (by rfl) ?_
       apply Exists.intro
       refine ⟨fun j W hW b K Q hK => ?_, fun K hK => ?_⟩
       obtain ⟨c0, c1, c2⟩ := hc j W hW
       go_simp
       exact hK W hW
       go_simp
       refine hK _ ?_
       clear hK K)
    | (refine stage_turn (by go_simp) (by rfl) ?_
       apply Exists.intro
       refine ⟨fun W hW b K Q hK => ?_, fun K hK => ?_⟩
       go_simp
       first
         | (go_at_call 23; refine (HR W hW).mono ?_; rintro x w' ⟨rfl, h1⟩; exact hK _ h1)
         | (go_at_call 36; refine (HX W hW).mono ?_; rintro x w' ⟨rfl, h1⟩; exact hK _ h1)
       go_simp
       refine hK _ ?_
       clear hK K))
  refine stage_nil ?_
  intro w2 hw2
  obtain ⟨P2, T2⟩ := HF w2 hw2
  obtain ⟨q0, q1, _⟩ := hc 2 w2 hw2
  have G2 : HE w2 := hg.tch T2 (by omega)
  have z2 : w.heap.size < w2.heap.size := cell_lt q0
  clear hw2 HF hc HR HX C hg hne hr0 hx0 hlr hlx hg0
  go_wp2_with fail
  refine (rdone_q br S a' e' _ P2.r G2).mono ?_
  rintro x w3 ⟨rfl, t3⟩
  have P3 := P2.tch t3 (fun h => h) (fun h => h)
  have u0 := (t3.cell (p := ⟨w.heap.size, 0, none⟩) z2 (fun h => h)).trans q0
  have u1 := (t3.cell (p := ⟨w.heap.size, 1, none⟩) z2 (fun h => h)).trans q1
  have z3 := Nat.lt_of_lt_of_le z2 t3.size
  have T3 := T2.trans' (false_mono t3)
  clear q0 q1 z2 P2 G2 T2 t3
  go_wp2_with fail
  refine (xdone_any bx S a' e' _ P3.x).mono ?_
  rintro x w4 ⟨rfl, t4⟩
  have P4 := P3.tch t4 (fun h => h) (fun h => h)
  have v0 := (t4.cell (p := ⟨w.heap.size, 0, none⟩) z3 (fun h => h)).trans u0
  have v1 := (t4.cell (p := ⟨w.heap.size, 1, none⟩) z3 (fun h => h)).trans u1
  have T4 := T3.trans' (false_mono t4)
  clear u0 u1 z3 P3 T3 t4
  have HP : Hid (∀ n, Pair (w4.drewN n) br bx S a' e') := fun n => P4.tch ((Tch.refl (fun _ => False) w4).drewN n) (fun h => h) (fun h => h)
  clear P4
  go_wp2
  go_quiet ((first | (go_at_call 39; exact Calls.quiet_of_same (left_q br S a' e' _ (HP.out _).r)) | (go_at_call 40; exact Calls.quiet_of (xleft_q bx S a' e' _ (HP.out _).x hS))))
  go_wp2
  go_ret
  exact ⟨rfl, ⟨a', e', HP.out _⟩, T4.drewN _⟩

set_option maxHeartbeats 1000000 in
set_option maxRecDepth 100000 in
theorem rstep_5 (br bx : Nat) (S : ByteArray) (a : Nat) (e n : Int) (o : Bool) (s : ByteArray) (l : Value) (w : World) (h : Pair w br bx S a e) (hS : S.size ≤ 281474976710656) (hne : br ≠ bx) (hr0 : br ≠ 0) (hx0 : bx ≠ 0) (hg : HE w) :
    Calls Tryd.prog 13 #[.agg #[.pointer (some ⟨br, 0, none⟩), .pointer (some ⟨bx, 0, none⟩)], .agg #[.bool o, .int .i64 5, .int .i64 n, .string s, l]] w fun x w' => x = .returned (.bool true) ∧ (∃ a' e', Pair w' br bx S a' e') ∧ Tch (fun i => i = br ∨ i = bx) w w' := by
  have hlr : br < w.heap.size := cell_lt h.r.st.c0
  have hlx : bx < w.heap.size := cell_lt h.x.c0
  have hg0 : 0 < w.heap.size := cell_lt hg
  rcases hv : rawR n S a e with ⟨v, a', e'⟩
  obtain ⟨C, hCdef⟩ : ∃ C : Nat → World → Prop, C = fun k W => (W.cell? ⟨w.heap.size, 0, none⟩ = some (.pointer (some ⟨br, 0, none⟩)) ∧ W.cell? ⟨w.heap.size, 1, none⟩ = some (.pointer (some ⟨bx, 0, none⟩)) ∧ W.cell? ⟨w.heap.size + 1, 2, none⟩ = some (.int .i64 n)) ∧
      (match k with | 0 => Tch (fun _ => False) w W | 1 => RD W br S a' e' ∧ Tch (fun i => i = br) w W | 2 => Pair W br bx S a' e' ∧ Tch (fun i => i = br ∨ i = bx) w W | _ => False) := ⟨_, rfl⟩
  have hc : ∀ j W, C j W → W.cell? ⟨w.heap.size, 0, none⟩ = some (.pointer (some ⟨br, 0, none⟩)) ∧ W.cell? ⟨w.heap.size, 1, none⟩ = some (.pointer (some ⟨bx, 0, none⟩)) ∧ W.cell? ⟨w.heap.size + 1, 2, none⟩ = some (.int .i64 n) := fun j W hW => by rw [hCdef] at hW; exact hW.1
  have kp : ∀ {T : Nat → Prop} {W W' : World}, (W.cell? ⟨w.heap.size, 0, none⟩ = some (.pointer (some ⟨br, 0, none⟩)) ∧ W.cell? ⟨w.heap.size, 1, none⟩ = some (.pointer (some ⟨bx, 0, none⟩)) ∧ W.cell? ⟨w.heap.size + 1, 2, none⟩ = some (.int .i64 n)) → Tch T W W' → ¬ T w.heap.size → ¬ T (w.heap.size + 1) →
      W'.cell? ⟨w.heap.size, 0, none⟩ = some (.pointer (some ⟨br, 0, none⟩)) ∧ W'.cell? ⟨w.heap.size, 1, none⟩ = some (.pointer (some ⟨bx, 0, none⟩)) ∧ W'.cell? ⟨w.heap.size + 1, 2, none⟩ = some (.int .i64 n) := fun ⟨c0, c1, c2⟩ t n0 n1 =>
    ⟨(t.cell (p := ⟨w.heap.size, 0, none⟩) (cell_lt c0) n0).trans c0, (t.cell (p := ⟨w.heap.size, 1, none⟩) (cell_lt c1) n0).trans c1, (t.cell (p := ⟨w.heap.size + 1, 2, none⟩) (cell_lt c2) n1).trans c2⟩
  have HR : ∀ W, C 0 W → Calls Tryd.prog 37 #[.pointer (some ⟨br, 0, none⟩), .int .i64 n] W fun x w' => x = .returned (.string v) ∧ C 1 w' := fun W hW => by
    rw [hCdef] at hW ⊢
    have := rraw_any br S a e n W (h.r.tch hW.2 (fun h => h)) hS
    rw [hv] at this
    refine this.mono ?_
    rintro x w' ⟨rfl, h1, t1⟩
    exact ⟨rfl, kp hW.1 t1 (by omega) (by omega), h1, (false_mono hW.2).trans' t1⟩
  have HX : ∀ W, C 1 W → Calls Tryd.prog 38 #[.pointer (some ⟨bx, 0, none⟩), .int .i64 n] W fun x w' => x = .returned (.string v) ∧ C 2 w' := fun W hW => by
    rw [hCdef] at hW ⊢
    have := xraw_any bx S a e n W (h.x.tch hW.2.2 (fun h => hne h.symm)) hS
    rw [hv] at this
    refine this.mono ?_
    rintro x w' ⟨rfl, h1, t1⟩
    exact ⟨rfl, kp hW.1 t1 (by omega) (by omega), ⟨hW.2.1.tch t1 hne, h1⟩, (hW.2.2.mono (fun _ _ => Or.inl)).trans' (t1.mono (fun _ _ => Or.inr))⟩
  have HF : ∀ W, C 2 W → Pair W br bx S a' e' ∧ Tch (fun i => i = br ∨ i = bx) w W := fun W hW => by rw [hCdef] at hW; exact hW.2
  have H0 : Hid (C 0 (((w.alloc (.cells #[.pointer (some ⟨br, 0, none⟩), .pointer (some ⟨bx, 0, none⟩)] 43)).alloc (.cells #[.bool o, .int .i64 5, .int .i64 n, .string s, l] 32)).drew)) := by
    rw [hCdef]
    exact ⟨⟨by simp, by simp, by simp⟩, (Tch.allocR (Tch.alloc _ _ _) _).drew⟩
  clear hv hCdef kp h
  go_enter Tryd.func13, Tryd.ntmps13
  go_wp2
  refine wp_region_staged [4, 9] C (by kernel_rfl) (by kernel_rfl) (by kernel_rfl) H0.out ?_
  clear H0
  repeat (first
    | (refine stage_read (by go_simp) (by rfl) ?_
       apply Exists.intro
       refine ⟨fun j W hW b K Q hK => ?_, fun K hK => ?_⟩
       obtain ⟨c0, c1, c2⟩ := hc j W hW
       go_simp
       exact hK W hW
       go_simp
       refine hK _ ?_
       clear hK K)
    | (refine stage_turn (by go_simp) (by rfl) ?_
       apply Exists.intro
       refine ⟨fun W hW b K Q hK => ?_, fun K hK => ?_⟩
       go_simp
       first
         | (go_at_call 37; refine (HR W hW).mono ?_; rintro x w' ⟨rfl, h1⟩; exact hK _ h1)
         | (go_at_call 38; refine (HX W hW).mono ?_; rintro x w' ⟨rfl, h1⟩; exact hK _ h1)
       go_simp
       refine hK _ ?_
       clear hK K))
  refine stage_nil ?_
  intro w2 hw2
  obtain ⟨P2, T2⟩ := HF w2 hw2
  obtain ⟨q0, q1, _⟩ := hc 2 w2 hw2
  have G2 : HE w2 := hg.tch T2 (by omega)
  have z2 : w.heap.size < w2.heap.size := cell_lt q0
  clear hw2 HF hc HR HX C hg hne hr0 hx0 hlr hlx hg0
  go_wp2_with fail
  refine (rdone_q br S a' e' _ P2.r G2).mono ?_
  rintro x w3 ⟨rfl, t3⟩
  have P3 := P2.tch t3 (fun h => h) (fun h => h)
  have u0 := (t3.cell (p := ⟨w.heap.size, 0, none⟩) z2 (fun h => h)).trans q0
  have u1 := (t3.cell (p := ⟨w.heap.size, 1, none⟩) z2 (fun h => h)).trans q1
  have z3 := Nat.lt_of_lt_of_le z2 t3.size
  have T3 := T2.trans' (false_mono t3)
  clear q0 q1 z2 P2 G2 T2 t3
  go_wp2_with fail
  refine (xdone_any bx S a' e' _ P3.x).mono ?_
  rintro x w4 ⟨rfl, t4⟩
  have P4 := P3.tch t4 (fun h => h) (fun h => h)
  have v0 := (t4.cell (p := ⟨w.heap.size, 0, none⟩) z3 (fun h => h)).trans u0
  have v1 := (t4.cell (p := ⟨w.heap.size, 1, none⟩) z3 (fun h => h)).trans u1
  have T4 := T3.trans' (false_mono t4)
  clear u0 u1 z3 P3 T3 t4
  have HP : Hid (∀ n, Pair (w4.drewN n) br bx S a' e') := fun n => P4.tch ((Tch.refl (fun _ => False) w4).drewN n) (fun h => h) (fun h => h)
  clear P4
  go_wp2
  go_quiet ((first | (go_at_call 39; exact Calls.quiet_of_same (left_q br S a' e' _ (HP.out _).r)) | (go_at_call 40; exact Calls.quiet_of (xleft_q bx S a' e' _ (HP.out _).x hS))))
  go_wp2
  go_ret
  exact ⟨rfl, ⟨a', e', HP.out _⟩, T4.drewN _⟩
end Go.Proofs.YtdicnnlfnfcmeabDoor
