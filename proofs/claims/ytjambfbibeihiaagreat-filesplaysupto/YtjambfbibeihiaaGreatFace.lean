import Derived.Test.YtjambfbibeihiaaGreatCrash
/- Each call of a disk, said of it and of what it leaves alone (F); New, and Crash of nothing. -/
namespace Go.Proofs.YtjambfbibeihiaaGreat
set_option maxRecDepth 100000
open Go.RowKit Go.ChangeMaps

/-- A disk at b, which has none of the blocks F. -/
def DF (w : World) (b : Nat) (d : Dsk) (F : Nat → Prop) : Prop := ∃ σ, DK w b d σ ∧ ∀ i, F i → σ i = none ∧ i < w.heap.size
/-- What was not the disk's is as it was. -/
abbrev Kept (F : Nat → Prop) (w w' : World) : Prop := Tch (fun i => ¬ F i) w w'
theorem DF.stp {w w' : World} {b : Nat} {d' : Dsk} {σ σ' : Nat → Option Nat} {F : Nat → Prop} (hF : ∀ i, F i → σ i = none ∧ i < w.heap.size) (h' : DK w' b d' σ') (s : Stp w σ w' σ') : DF w' b d' F ∧ Kept F w w' :=
  ⟨⟨σ', h', fun i hi => ⟨(s.ext i (hF i hi).2).trans (hF i hi).1, Nat.lt_of_lt_of_le (hF i hi).2 s.tch.size⟩⟩, s.tch.mono (fun i _ hs hf => hs (hF i hf).1)⟩
theorem DF.tch {w w' : World} {b : Nat} {d : Dsk} {F S : Nat → Prop} (h : DF w b d F) (t : Tch S w w') (hS : ∀ i, i < w.heap.size → S i → F i) : DF w' b d F := by
  obtain ⟨σ, h, hF⟩ := h
  exact ⟨σ, h.tch t (fun i hi hs => (hF i (hS i hi hs)).1), fun i hi => ⟨(hF i hi).1, Nat.lt_of_lt_of_le (hF i hi).2 t.size⟩⟩
theorem DF.no {w w' : World} {b : Nat} {d : Dsk} {F : Nat → Prop} (h : DF w b d F) (t : Tch (fun _ => False) w w') : DF w' b d F := h.tch t (fun _ _ h => h.elim)
theorem DF.drewN {w : World} {b : Nat} {d : Dsk} {F : Nat → Prop} (h : DF w b d F) (n : Nat) : DF (w.drewN n) b d F := h.no ((Tch.refl _ w).drewN n)
theorem DF.ne {w : World} {b : Nat} {d : Dsk} {F : Nat → Prop} (h : DF w b d F) : ¬ F b := fun hb => by
  obtain ⟨σ, h, hF⟩ := h
  have := (hF b hb).1
  rw [h.b] at this; cases this
theorem DF.fresh {w w' : World} {b : Nat} {d : Dsk} {F : Nat → Prop} (h : DF w b d F) (t : Tch (fun _ => False) w w') : DF w' b d (fun i => F i ∨ w.heap.size ≤ i ∧ i < w'.heap.size) := by
  obtain ⟨σ, h, hF⟩ := h
  refine ⟨σ, h.no t, fun i hi => ?_⟩
  rcases hi with hi | ⟨h1, h2⟩
  · exact ⟨(hF i hi).1, Nat.lt_of_lt_of_le (hF i hi).2 t.size⟩
  · refine ⟨?_, h2⟩
    cases hs : σ i with
    | none => rfl
    | some a => have := h.lt i (by rw [hs]; exact fun h => by cases h); omega
theorem DF.mono {w : World} {b : Nat} {d : Dsk} {F G : Nat → Prop} (h : DF w b d F) (hG : ∀ i, G i → F i) : DF w b d G := by
  obtain ⟨σ, h, hF⟩ := h
  exact ⟨σ, h, fun i hi => hF i (hG i hi)⟩

section
variable (b : Nat) (d : Dsk) (F : Nat → Prop) (w : World)
theorem create_f (s : ByteArray) (h : DF w b d F) (hn : d.m.length < maxLen) :
    Calls Tryz.prog 12 #[.pointer (some ⟨b, 0, none⟩), .string s] w fun x w' => x = .returned (.int .i64 (d.create s.data.toList).1) ∧ DF w' b (d.create s.data.toList).2 F ∧ Kept F w w' := by
  obtain ⟨σ, h, hF⟩ := h
  exact (create_any b d σ s w h hn).mono fun x w' ⟨hx, σ', h', s'⟩ => ⟨hx, DF.stp hF h' s'⟩
theorem append_f (nm s : ByteArray) (h : DF w b d F) :
    Calls Tryz.prog 14 #[.pointer (some ⟨b, 0, none⟩), .string nm, .string s] w fun x w' => x = .returned (.int .i64 (d.append nm.data.toList s.data.toList).1) ∧ DF w' b (d.append nm.data.toList s.data.toList).2 F ∧ Kept F w w' := by
  obtain ⟨σ, h, hF⟩ := h
  exact (append_any b d σ nm s w h).mono fun x w' ⟨hx, σ', h', s'⟩ => ⟨hx, DF.stp hF h' s'⟩
theorem sync_f (nm : ByteArray) (h : DF w b d F) :
    Calls Tryz.prog 16 #[.pointer (some ⟨b, 0, none⟩), .string nm] w fun x w' => x = .returned (.int .i64 (d.sync nm.data.toList).1) ∧ DF w' b (d.sync nm.data.toList).2 F ∧ Kept F w w' := by
  obtain ⟨σ, h, hF⟩ := h
  exact (sync_any b d σ nm w h).mono fun x w' ⟨hx, σ', h', s'⟩ => ⟨hx, DF.stp hF h' s'⟩
theorem trunc_f (nm : ByteArray) (k : Int) (h : DF w b d F) :
    Calls Tryz.prog 18 #[.pointer (some ⟨b, 0, none⟩), .string nm, .int .i64 k] w fun x w' => x = .returned (.int .i64 (d.trunc nm.data.toList k).1) ∧ DF w' b (d.trunc nm.data.toList k).2 F ∧ Kept F w w' := by
  obtain ⟨σ, h, hF⟩ := h
  exact (trunc_any b d σ nm k w h).mono fun x w' ⟨hx, σ', h', s'⟩ => ⟨hx, DF.stp hF h' s'⟩
theorem remove_f (nm : ByteArray) (h : DF w b d F) :
    Calls Tryz.prog 20 #[.pointer (some ⟨b, 0, none⟩), .string nm] w fun x w' => x = .returned (.int .i64 (d.remove nm.data.toList).1) ∧ DF w' b (d.remove nm.data.toList).2 F ∧ Kept F w w' := by
  obtain ⟨σ, h, hF⟩ := h
  exact (remove_any b d σ nm w h).mono fun x w' ⟨hx, σ', h', s'⟩ => ⟨hx, DF.stp hF h' s'⟩
theorem rename_f (s t : ByteArray) (h : DF w b d F) :
    Calls Tryz.prog 22 #[.pointer (some ⟨b, 0, none⟩), .string s, .string t] w fun x w' => x = .returned (.int .i64 (d.rename s.data.toList t.data.toList).1) ∧ DF w' b (d.rename s.data.toList t.data.toList).2 F ∧ Kept F w w' := by
  obtain ⟨σ, h, hF⟩ := h
  exact (rename_any b d σ s t w h).mono fun x w' ⟨hx, σ', h', s'⟩ => ⟨hx, DF.stp hF h' s'⟩
theorem DK.stp1 {w w' : World} {b : Nat} {d : Dsk} {σ : Nat → Option Nat} (h : DK w b d σ) (t : Tch (fun i => i = b) w w') : Stp w σ w' σ := by
  obtain ⟨mb, gm, h⟩ := h
  exact one_stp h t
theorem arm_f (k : Int) (h : DF w b d F) (hk : k ≤ 9223372036854775807) :
    Calls Tryz.prog 24 #[.pointer (some ⟨b, 0, none⟩), .int .i64 k] w fun x w' => x = .returned (.int .i64 (d.arm k).1) ∧ DF w' b (d.arm k).2 F ∧ Kept F w w' := by
  obtain ⟨σ, h, hF⟩ := h
  exact (schedule_dies b d σ k w h hk).mono fun x w' ⟨hx, h', t⟩ => ⟨hx, DF.stp hF h' (h.stp1 t)⟩
theorem failSync_f (k : Int) (h : DF w b d F) (hk : k ≤ 9223372036854775807) :
    Calls Tryz.prog 26 #[.pointer (some ⟨b, 0, none⟩), .int .i64 k] w fun x w' => x = .returned (.int .i64 (d.failSync k).1) ∧ DF w' b (d.failSync k).2 F ∧ Kept F w w' := by
  obtain ⟨σ, h, hF⟩ := h
  exact (schedule_fails b d σ k w h hk).mono fun x w' ⟨hx, h', t⟩ => ⟨hx, DF.stp hF h' (h.stp1 t)⟩
theorem dead_f (h : DF w b d F) : Calls Tryz.prog 68 #[.pointer (some ⟨b, 0, none⟩)] w fun x w' => x = .returned (.bool d.dead) ∧ w' = w := by
  obtain ⟨σ, h, hF⟩ := h
  exact dead_any b d σ w h
theorem size_f (nm : ByteArray) (h : DF w b d F) : Calls Tryz.prog 65 #[.pointer (some ⟨b, 0, none⟩), .string nm] w fun x w' => x = .returned (.tuple #[.int .i64 (d.size nm.data.toList).1, .int .i64 (d.size nm.data.toList).2]) ∧ w' = w := by
  obtain ⟨σ, h, hF⟩ := h
  exact size_any b d σ nm w h
theorem read_f (nm : ByteArray) (a k : Int) (h : DF w b d F) (hk : k ≤ 9223372036854775807) :
    Calls Tryz.prog 37 #[.pointer (some ⟨b, 0, none⟩), .string nm, .int .i64 a, .int .i64 k] w fun x w' => x = .returned (.tuple #[.string ⟨(d.read nm.data.toList a k).1.toArray⟩, .int .i64 (d.read nm.data.toList a k).2]) ∧ w' = w := by
  obtain ⟨σ, h, hF⟩ := h
  exact read_any b d σ nm a k w h hk
theorem pending_f (nm : ByteArray) (h : DF w b d F) (hs : nm.size ≤ maxLen) :
    Calls Tryz.prog 35 #[.pointer (some ⟨b, 0, none⟩), .string nm] w fun x w' => x = .returned (.int .i64 (d.pending nm.data.toList)) ∧ ∃ k, w' = w.drewN k := by
  obtain ⟨σ, h, hF⟩ := h
  exact pending_any b d σ nm w h hs
theorem free_f (h : DF w b d F) : Calls Tryz.prog 40 #[.pointer (some ⟨b, 0, none⟩)] w fun x w' => x = .returned (.int .i64 ((d.cap : Int) - d.used)) ∧ ∃ n, w' = w.drewN n := by
  obtain ⟨σ, h, hF⟩ := h
  exact free_q b d σ w h
end

/-- keeps of nothing. -/
theorem keeps_nil (b : Nat) (ao : Option Addr) (c : Nat) (w : World) :
    Calls Tryz.prog 75 #[.pointer (some ⟨b, 0, none⟩), .slice ao 0 c] w fun x w1 => ∃ kb nk, ∃ Dk : DataW Unit, x = .returned (.tuple #[.map (some kb), .int .i64 0]) ∧ w1.ownsMap Tryz.prog 9 (plainElem Tryz.prog 3) kb nk Dk ∧ (∀ n : Nm, Dk.atKey (.string n) (.lit (.int .i64 0)) = .lit (.int .i64 ((fun _ => 0 : Nm → Nat) n : Nat))) ∧ w.heap.size ≤ kb ∧ Tch (fun _ => False) w w1 := by
  have hmm := @run_makeMap Tryz.prog
  go_enter Tryz.func75, Tryz.ntmps75
  go_wp2
  refine wp_loop_rounds 1 ?_
  rw [rounds_succ]
  go_wp2
  go_ret2
  exact ⟨w.heap.size, 0, .map [], rfl, World.ownsMap_made _ _ _ _, fun _ => rfl, Nat.le_refl _, Tch.alloc _ _ _⟩

theorem crash_nil_f (b : Nat) (d : Dsk) (F : Nat → Prop) (ao : Option Addr) (c : Nat) (w : World) (h : DF w b d F) :
    Calls Tryz.prog 63 #[.pointer (some ⟨b, 0, none⟩), .slice ao 0 c] w fun x w' => x = .returned (.int .i64 0) ∧ DF w' b (d.torn (fun _ => 0)) F ∧ Kept F w w' := by
  obtain ⟨σ, ⟨mb, gm, h⟩, hF⟩ := h
  exact (crash_of b d σ mb gm _ (fun _ => 0) w h (fun p hp => (h.fs p hp).le) (keeps_nil b ao c w)).mono fun x w' ⟨hx, h', s'⟩ => ⟨hx, DF.stp hF h' s'⟩

/-- A new disk. -/
def newD (c : Nat) : Dsk := ⟨c, [], false, 0, 0⟩
theorem newDW (c : Nat) (w : World) (hc : c ≤ 1000000000) : DW ((w.alloc (.map #[] 0)).alloc (.cells #[.int .i64 c, .int .i64 0, .map (some w.heap.size), .bool false, .int .i64 0, .int .i64 0] 72)) (w.heap.size + 1) (newD c) (fun i => if i = w.heap.size ∨ i = w.heap.size + 1 then some (w.heap.size + 1) else none) w.heap.size [] := by
  have hb := box_one (w.alloc (.map #[] 0)) (.cells #[.int .i64 c, .int .i64 0, .map (some w.heap.size), .bool false, .int .i64 0, .int .i64 0] 72)
  simp only [World.size_alloc] at hb
  refine ⟨?_, by simp, by simp, rfl, ?_, fun p hp => by simp at hp, fun p hp => by simp at hp, ?_, hc, Nat.zero_le _, Nat.zero_le _, fun i hi => ?_⟩
  · rw [hb]
    simp [dcells, newD, Dsk.used, sumL]
  · exact (World.ownsMap_made w _ _ _).alloc _
  · simp [newD, Dsk.used, sumL]
  · simp only [World.size_alloc]
    by_cases e : i = w.heap.size ∨ i = w.heap.size + 1
    · omega
    · simp [e] at hi

set_option maxHeartbeats 1000000 in
set_option maxRecDepth 100000 in
theorem load_nil (c : Nat) (ao : Option Addr) (cp : Nat) (w : World) (h1 : 1 ≤ c) (h2 : c ≤ 1000000000) :
    Calls Tryz.prog 9 #[.int .i64 c, .slice ao 0 cp] w fun x w' => ∃ b, x = .returned (.tuple #[.pointer (some ⟨b, 0, none⟩), .int .i64 0]) ∧ DF w' b (newD c) (fun i => i < w.heap.size) ∧ Tch (fun _ => False) w w' := by
  have hmm := @run_makeMap Tryz.prog
  have h1' : ¬ (c : Int) < 1 := by omega
  have h2' : ¬ (1000000000 : Int) < c := by omega
  have HD : Hid (DF ((w.alloc (.map #[] 0)).alloc (.cells #[.int .i64 c, .int .i64 0, .map (some w.heap.size), .bool false, .int .i64 0, .int .i64 0] 72)) (w.heap.size + 1) (newD c) (fun i => i < w.heap.size)) := by
    refine ⟨_, ⟨_, _, newDW c w h2⟩, fun i hi => ⟨?_, ?_⟩⟩
    · exact if_neg (by omega)
    · simp only [World.size_alloc]; omega
  go_enter Tryz.func9, Tryz.ntmps9
  go_wp2
  refine wp_loop_rounds 1 ?_
  rw [rounds_succ]
  go_wp2
  refine wp_loop_rounds 1 ?_
  rw [rounds_succ]
  go_wp2
  refine wp_loop_rounds 1 ?_
  rw [rounds_succ]
  go_wp2
  go_ret2
  exact ⟨_, rfl, HD.out, box2_no _ _ _⟩

theorem new_any (c : Nat) (w : World) (h1 : 1 ≤ c) (h2 : c ≤ 1000000000) :
    Calls Tryz.prog 32 #[.int .i64 c] w fun x w' => ∃ b, x = .returned (.tuple #[.pointer (some ⟨b, 0, none⟩), .int .i64 0]) ∧ DF w' b (newD c) (fun i => i < w.heap.size) ∧ Tch (fun _ => False) w w' := by
  have hl := load_nil c none 0 w h1 h2
  go_enter Tryz.func32, Tryz.ntmps32
  go_wp2_with (go_at_call 9; refine hl.mono ?_; rintro x w1 ⟨b, rfl, h3, t3⟩)
  go_ret2
  exact ⟨b, rfl, h3, t3⟩
end Go.Proofs.YtjambfbibeihiaaGreat
