import Derived.Test.YtnjiiebjdpipjaaTGoes
/- goes of the law. -/
namespace Go.Proofs.Ytnjiiebjdpipjaa
open Go.RowKit Go Go.Shelf

/-- A function is not nil. -/
theorem feq (fn : Nat) (caps : Array Value) (W : World) : Sem.run Try.prog (binOp .eql 58 (.func (.func fn) #[] caps) .nilFunc) W = .ok (.bool false) W := by
  have e : ∀ d, Sem.run Try.prog (Op.equalIn (d + 1) 58 (.func (.func fn) #[] caps) .nilFunc) W = .ok false W := fun d => by
    unfold Op.equalIn
    simp [go_sem]
  unfold binOp Op.equal
  have e2 := e (Op.maxDepth - 1)
  simp [go_sem]
  show ((Sem.run Try.prog (Op.equalIn (Op.maxDepth - 1 + 1) 58 _ _) W).andThen _) = _
  rw [e2]
  rfl
/-- Four blocks more. -/
theorem four_new (w : World) (o1 o2 o3 o4 : Obj) : (((((w.alloc o1).alloc o2).alloc o3).alloc o4).heap[w.heap.size]? = some o1 ∧ ((((w.alloc o1).alloc o2).alloc o3).alloc o4).heap[w.heap.size + 1]? = some o2 ∧ ((((w.alloc o1).alloc o2).alloc o3).alloc o4).heap[w.heap.size + 2]? = some o3 ∧ ((((w.alloc o1).alloc o2).alloc o3).alloc o4).heap[w.heap.size + 3]? = some o4) := by
  have h2 := alloc_new (w.alloc o1) o2
  have h3 := alloc_new ((w.alloc o1).alloc o2) o3
  have h4 := alloc_new (((w.alloc o1).alloc o2).alloc o3) o4
  simp only [World.size_alloc] at h2 h3 h4
  refine ⟨?_, ?_, ?_, h4⟩
  · rw [Below.heap_alloc _ _ _ (by simp only [World.size_alloc]; omega), Below.heap_alloc _ _ _ (by simp only [World.size_alloc]; omega), Below.heap_alloc _ _ _ (by simp)]; exact alloc_new _ _
  · rw [Below.heap_alloc _ _ _ (by simp only [World.size_alloc]; omega), Below.heap_alloc _ _ _ (by simp)]; exact h2
  · rw [Below.heap_alloc _ _ _ (by simp)]; exact h3
set_option maxHeartbeats 4000000 in
set_option maxRecDepth 100000 in
theorem goes_any (W : World) (b mb bt bs : Nat) (l : List It) (ht : Nat) (F FM : List Nat) (f o : ByteArray) (d : Bool) (most : Int) (hT : TW W b l ht F) (hM : MW W mb l FM) (hl : l.length ≤ 1000000000) (hbt : W.heap[bt]? = some (.cells #[pv b] 23 (0, 0))) (hbs : W.heap[bs]? = some (.cells #[.string f, .string o, .bool d] 90 (0, 0))) :
    Calls Try.prog 25 #[.agg #[pv b, pv mb], .func (.func 72) #[] #[pv bt, pv bs], .string f, .string o, .bool d, .int .i64 most] W fun x w' => x = .returned (.bool true) ∧ Tch (fun _ => False) W w' := by
  obtain ⟨q0, hq0⟩ : ∃ q0, q0 = W.heap.size := ⟨_, rfl⟩
  obtain ⟨w3, hw3⟩ : ∃ w3, w3 = ((W.alloc (.cells #[pv b, pv mb] 53)).alloc (.cells #[.bool d] 4)).alloc (.cells #[.int .i64 most] 3) := ⟨_, rfl⟩
  have t3 : Tch (fun _ => False) W w3 := by rw [hw3]; exact ((Tch.alloc _ _ _).allocR _).allocR _
  have s3 : w3.heap.size = q0 + 3 := by rw [hw3, hq0]; simp
  have k0 : w3.heap[q0]? = some (.cells #[pv b, pv mb] 53 (0, 0)) := by
    rw [hw3, hq0, Below.heap_alloc _ _ _ (by simp; omega), Below.heap_alloc _ _ _ (by simp)]; exact alloc_new _ _
  have k1 : w3.heap[q0 + 1]? = some (.cells #[.bool d] 4 (0, 0)) := by
    have := alloc_new (W.alloc (.cells #[pv b, pv mb] 53)) (.cells #[.bool d] 4)
    rw [World.size_alloc] at this
    rw [hw3, hq0, Below.heap_alloc _ _ _ (by simp)]; exact this
  have k2 : w3.heap[q0 + 2]? = some (.cells #[.int .i64 most] 3 (0, 0)) := by
    have := alloc_new ((W.alloc (.cells #[pv b, pv mb] 53)).alloc (.cells #[.bool d] 4)) (.cells #[.int .i64 most] 3)
    simp only [World.size_alloc] at this
    rw [hw3, hq0]; exact this
  have x1 : w3.cell? ⟨q0, 1, none⟩ = some (pv mb) := by rw [blk_cell k0]; rfl
  have q := part_m w3 mb l FM f o (hM.tch t3 (fun _ _ h => h)) (by omega)
  have hfe := feq 72 #[pv bt, pv bs]
  have Hw3 : Hid _ := hw3
  have Hq0 : Hid (q0 = W.heap.size) := hq0
  have HK : Hid (w3.heap[q0]? = some (.cells #[pv b, pv mb] 53 (0, 0)) ∧ w3.heap[q0 + 1]? = some (.cells #[.bool d] 4 (0, 0)) ∧ w3.heap[q0 + 2]? = some (.cells #[.int .i64 most] 3 (0, 0)) ∧ w3.heap.size = q0 + 3) := ⟨k0, k1, k2, s3⟩
  have HT : Hid (TW W b l ht F ∧ MW W mb l FM ∧ l.length ≤ 1000000000 ∧ W.heap[bt]? = some (.cells #[pv b] 23 (0, 0)) ∧ W.heap[bs]? = some (.cells #[.string f, .string o, .bool d] 90 (0, 0)) ∧ Tch (fun _ => False) W w3) := ⟨hT, hM, hl, hbt, hbs, t3⟩
  rw [hw3] at x1
  clear k0 k1 k2 s3 hT hM hl hbt hbs t3 hw3
  refine (callsIn_wide (n := 9)).1 ?_
  refine callsIn_of_wp_marks Try.func25 rfl trivial ?_ rfl
  simp only [Try.ntmps25, List.size_toArray, List.length_cons, List.length_nil, Nat.reduceAdd, Nat.reduceSub, Array.replicate_succ, Array.replicate_zero, List.push_toArray, List.append_toArray, List.nil_append, List.cons_append]
  refine wpIn_wide.2 ?_
  rw [hq0] at x1
  clear hq0
  go_wp2_with fail
  have hw := Hw3.out
  rw [← hw, ← Hq0.out]
  clear hw Hw3 x1 hfe
  refine q.mono ?_
  clear q
  rintro x w' ⟨⟨a, e, rfl, hP⟩, rfl⟩
  have HP : Hid (PartRel f o l a e) := hP
  clear hP
  go_wp2_with fail
  obtain ⟨W1, hW1⟩ : ∃ W1, W1 = (((w'.alloc (.cells #[.int .i64 (a : Int)] 3)).alloc (.cells #[.int .i64 (e : Int)] 3)).alloc (.cells #[.int .i64 0] 3)).alloc (.cells #[.bool true] 4) := ⟨_, rfl⟩
  rw [← hW1]
  obtain ⟨n3, n4, n5, n6⟩ := four_new w' (.cells #[.int .i64 (a : Int)] 3) (.cells #[.int .i64 (e : Int)] 3) (.cells #[.int .i64 0] 3) (.cells #[.bool true] 4)
  rw [← hW1, HK.out.2.2.2] at n3 n4 n5 n6
  have t1 : Tch (fun _ => False) w' W1 := by rw [hW1]; exact (((Tch.alloc _ _ _).allocR _).allocR _).allocR _
  have tW : Tch (fun _ => False) W W1 := HT.out.2.2.2.2.2.trans' t1
  have keep : ∀ {q : Nat} {ob : Obj}, w'.heap[q]? = some ob → W1.heap[q]? = some ob := fun h => (t1.block _ (blk_lt h) (fun h => h)).trans h
  have Hq : Hid (W1.heap[q0]? = some (.cells #[pv b, pv mb] 53 (0, 0)) ∧ W1.heap[q0 + 1]? = some (.cells #[.bool d] 4 (0, 0)) ∧ W1.heap[q0 + 2]? = some (.cells #[.int .i64 most] 3 (0, 0)) ∧ W1.heap[q0 + 3]? = some (.cells #[.int .i64 a] 3 (0, 0)) ∧ W1.heap[q0 + 4]? = some (.cells #[.int .i64 e] 3 (0, 0)) ∧ W1.heap[q0 + 5]? = some (.cells #[.int .i64 0] 3 (0, 0)) ∧ W1.heap[q0 + 6]? = some (.cells #[.bool true] 4 (0, 0))) := ⟨keep HK.out.1, keep HK.out.2.1, keep HK.out.2.2.1, n3, n4, n5, n6⟩
  have HTW : Hid (TW W1 b l ht F) := HT.out.1.tch tW (fun _ _ h => h)
  have HMW : Hid (MW W1 mb l FM) := HT.out.2.1.tch tW (fun _ _ h => h)
  have hs0 := Hq0.out
  have HF : Hid (q0 + 5 ∉ F ∧ q0 + 5 ∉ FM) := ⟨fun h => by have := HT.out.1.lt _ h; omega, fun h => by have := HT.out.2.1.lt _ h; omega⟩
  have Hbt : Hid (W1.heap[bt]? = some (.cells #[pv b] 23 (0, 0)) ∧ bt ≠ q0 + 5) := ⟨(tW.block _ (blk_lt HT.out.2.2.2.1) (fun h => h)).trans HT.out.2.2.2.1, by have := blk_lt HT.out.2.2.2.1; omega⟩
  have Hbs : Hid (W1.heap[bs]? = some (.cells #[.string f, .string o, .bool d] 90 (0, 0)) ∧ bs ≠ q0 + 5) := ⟨(tW.block _ (blk_lt HT.out.2.2.2.2.1) (fun h => h)).trans HT.out.2.2.2.2.1, by have := blk_lt HT.out.2.2.2.2.1; omega⟩
  have Hl : Hid (l.length ≤ 1000000000) := HT.out.2.2.1
  have HtW : Hid (Tch (fun _ => False) W W1) := tW
  have HsW : Hid (W1.heap.size = q0 + 7) := by rw [hW1]; show _ = _; simp; have := HK.out.2.2.2; omega
  have Hs0 : Hid (q0 = W.heap.size) := hs0
  rw [HK.out.2.2.2]
  clear n3 n4 n5 n6 t1 tW keep hW1 hs0 HK HT Hq0
  refine (wpIn_wide (n := 9)).1 ?_
  refine goes_rng 9 W1 b mb q0 bt bs l ht F FM f o d most a e HTW HMW HP Hl Hq HF Hbt Hbs ⟨rfl, rfl, rfl, rfl, rfl, rfl, rfl, rfl, rfl, rfl⟩ _ ?_
  intro D c x Z W2 hI hD hdm hx
  have keep : ∀ {q : Nat} {ob : Obj}, W1.heap[q]? = some ob → q ≠ q0 + 5 → W2.heap[q]? = some ob := fun h hne => (hI.t.block _ (blk_lt h) (fun e => hne e)).trans h
  obtain ⟨_, _, k2, k3, k4, _, k6⟩ := Hq.out
  have x3 : W2.cell? ⟨q0 + 2, 0, none⟩ = some (.int .i64 most) := by rw [blk_cell (keep k2 (by omega))]; rfl
  have x4 : W2.cell? ⟨q0 + 3, 0, none⟩ = some (.int .i64 a) := by rw [blk_cell (keep k3 (by omega))]; rfl
  have x5 : W2.cell? ⟨q0 + 4, 0, none⟩ = some (.int .i64 e) := by rw [blk_cell (keep k4 (by omega))]; rfl
  have x6 : W2.cell? ⟨q0 + 5, 0, none⟩ = some (.int .i64 c) := by rw [blk_cell hI.n]; rfl
  have x7 : W2.cell? ⟨q0 + 6, 0, none⟩ = some (.bool true) := by rw [blk_cell (keep k6 (by omega))]; rfl
  have Hd : Hid (W2.heap[D]? = some (.deferred (some []))) := hdm
  have HD : Hid (W1.heap.size ≤ D) := hD
  have HI : Hid (Tch (fun k => k = q0 + 5) W1 W2) := hI.t
  obtain ⟨pa, pb, _⟩ := part_sp HP.out
  have hl9 := Hl.out
  have HFin : Hid (∀ {fn : Func} {tmps : Array Value}, fn.results = #[.tmp 12] → tmps.getD 12 undef = .bool true → LeavesInM Fence.wide 9 Try.prog fn tmps (fun x w' => x = .returned (.bool true) ∧ Tch (fun _ => False) W w') [mkD D] .returning W2) := fun {fn} {tmps} h1 h2 => by
    refine leaves_marks [D] _ (fun y hy => by rw [List.mem_singleton.1 hy]; exact Hd.out) (by simp) (fun W' tt => ?_)
    refine ⟨_, results_tmp h1 _ _ _, by rw [← h2], ?_⟩
    have h9 : Tch (fun k => k = q0 + 5 ∨ k ∈ [D]) W1 W' := (HI.out.mono (fun _ _ h => .inl h)).trans' (tt.mono (fun _ _ h => .inr h))
    refine HtW.out.trans h9 (fun i hi h => ?_)
    have := Hs0.out
    rcases h with h | h
    · omega
    · have h' : i = D := List.mem_singleton.1 h
      have := HD.out
      have := HsW.out
      omega
  clear keep k2 k3 k4 k6 hI hdm hD
  rcases hx with ⟨rfl, hc⟩ | ⟨rfl, hc, hcl⟩
  · have hcI : (c : Int) = (e : Int) - a := by omega
    have heI : (e : Int) ≤ 1000000000 := by omega
    have haI : (a : Int) ≤ e := by omega
    have hbq : ((c : Int) == (e : Int) - a) = true := by rw [hcI]; simp
    clear hc hl9 pb
    go_wp2_with fail
    exact HFin.out rfl rfl
  · have heI : (e : Int) ≤ 1000000000 := by omega
    have haI : (a : Int) ≤ e := by omega
    have hcI : (c : Int) ≤ 1000000000 := by omega
    subst hc
    have hbq2 : ((c : Int) == (c : Int)) = true := by simp
    clear hl9 pb hcl
    by_cases hce : (c : Int) = (e : Int) - a
    · have hbq : ((c : Int) == (e : Int) - a) = true := by rw [hce]; simp
      clear hce
      go_wp2_with fail
      exact HFin.out rfl rfl
    · have hbq : ((c : Int) == (e : Int) - a) = false := beq_eq_false_iff_ne.2 hce
      go_wp2_with fail
      exact HFin.out rfl rfl
end Go.Proofs.Ytnjiiebjdpipjaa
