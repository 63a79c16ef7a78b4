import Derived.Test.YtjbehnoococelaaMPl4
/- Clone of rows; filled; mayInsert. -/
namespace Go.Proofs.Ytjbehnoococelaa
open Go.RowKit Go Go.Sort

/-- A row for reading: its cells. -/
structure RdR (w : World) (ao : Option Addr) (n c : Nat) (cs : List Value) : Prop where
  len : cs.length = n * 3
  one : ∀ u ∈ cs, u.oneCell' = true
  sm : n ≤ 1000000
  at' : (ao = none ∧ n = 0 ∧ c = 0) ∨ ∃ g o, ao = some ⟨g, o, none⟩ ∧ g < w.heap.size ∧ ∀ j u, cs[j]? = some u → w.cell? ⟨g, o + j, none⟩ = some u
theorem RdR.tch {S : Nat → Prop} {w w' : World} {ao : Option Addr} {n c : Nat} {cs : List Value} (h : RdR w ao n c cs) (t : Tch S w w') (hS : ∀ a, ao = some a → ¬ S a.block) : RdR w' ao n c cs := by
  refine ⟨h.len, h.one, h.sm, ?_⟩
  rcases h.at' with e | ⟨g, o, rfl, hg, hc⟩
  · exact .inl e
  · exact .inr ⟨g, o, rfl, Nat.lt_of_lt_of_le hg t.size, fun j u hu => (t.cell (p := ⟨g, o + j, none⟩) hg (hS ⟨g, o, none⟩ rfl)).trans (hc j u hu)⟩
theorem RdR.no {w w' : World} {ao : Option Addr} {n c : Nat} {cs : List Value} (h : RdR w ao n c cs) (t : Tch (fun _ => False) w w') : RdR w' ao n c cs := h.tch t (fun _ _ h => h)
theorem RdR.of_own {w : World} {base n : Nat} {ao : Option Addr} {c : Nat} {cs : List Value} (h : w.ownsRow base 92 3 (.slice ao n c) n cs) (h1 : ∀ u ∈ cs, u.oneCell' = true) (hs : n ≤ 1000000) : RdR w ao n c cs := by
  refine ⟨h.1, h1, hs, ?_⟩
  rcases h.2 with ⟨e, h0⟩ | ⟨g, cap, cur, e, _, hg, _⟩
  · cases e; exact .inl ⟨rfl, h0, rfl⟩
  · cases e
    refine .inr ⟨g, 0, rfl, blk_lt hg, fun j u hu => ?_⟩
    have := h.cells (g := g) rfl j u hu
    rw [add_plain] at this
    exact this
theorem info_val : (Try.prog.info? 92).map (fun i => (i.zero, i.size, i.bytes)) = some (some (.agg #[.int .i64 0, .int .i64 0, .string ⟨#[]⟩]), 3, 32) := by kernel_rfl
theorem veq_nil_no (ad : Addr) (n c : Nat) (w : World) : (binOp .eql 48 (.slice (some ad) n c) (.slice none 0 0)).run Try.prog w = .ok (.bool false) w := Lib.run_eql_slice_some_nil w ad n c Try.underlying48
theorem veq_nil_yes (w : World) : (binOp .eql 48 (.slice none 0 0) (.slice none 0 0)).run Try.prog w = .ok (.bool true) w := Lib.run_eql_slice_nil_nil w 0 0 Try.underlying48
set_option maxHeartbeats 1000000 in
set_option maxRecDepth 100000 in
theorem rclone_any (ao : Option Addr) (n c : Nat) (cs : List Value) (w : World) (h : RdR w ao n c cs) :
    Calls Try.prog 40 #[.slice ao n c] w fun x w' => (∃ ro rc, x = .returned (.slice ro n rc) ∧ w'.ownsRow w.heap.size 92 3 (.slice ro n rc) n cs) ∧ Tch (fun _ => False) w w' := by
  obtain ⟨hlen, hone, hsm, hat⟩ := h
  rcases hat with ⟨rfl, rfl, rfl⟩ | ⟨g, o, rfl, hg, hc⟩
  · obtain rfl : cs = [] := List.length_eq_zero_iff.1 hlen
    have he := veq_nil_yes
    go_enter Try.func40, Try.ntmps40
    go_wp2
    go_ret
    exact ⟨⟨_, _, rfl, rfl, Or.inl ⟨rfl, rfl⟩⟩, Tch.refl _ _⟩
  · obtain ⟨i0, hi, hz0, hz1, hz2⟩ := info_parts info_val
    have he := veq_nil_no ⟨g, o, none⟩ n c
    obtain ⟨w0, hw0⟩ : ∃ w0, w0 = w.alloc (.cells #[] 92) := ⟨_, rfl⟩
    have t0 : Tch (fun _ => False) w w0 := by rw [hw0]; exact Tch.alloc _ _ _
    have hown : w0.ownsRow w.heap.size 92 3 (.slice (some ⟨w.heap.size, 0, none⟩) 0 0) 0 [] := ⟨rfl, Or.inr ⟨w.heap.size, 0, #[], rfl, Nat.le_refl _, by rw [hw0]; exact alloc_new _ _, Nat.le_refl _, by unfold maxLen; omega, rfl, rfl⟩⟩
    have Hcl : Hid (∀ j u, cs[j]? = some u → w0.cell? ((⟨g, o, none⟩ : Addr).add j) = some u) := fun j u hu => by rw [add_plain]; exact (t0.cell (p := ⟨g, o + j, none⟩) hg (fun h => h)).trans (hc j u hu)
    have Hown : Hid (w0.ownsRow w.heap.size 92 3 (.slice (some ⟨w.heap.size, 0, none⟩) 0 0) 0 []) := hown
    have Hw0 : Hid _ := hw0
    have Hsz : Hid (w.heap.size ≤ w0.heap.size) := t0.size
    clear hown hw0 hg hc
    go_enter Try.func40, Try.ntmps40
    go_wp2_with (at_builtin; have hw0 := Hw0.out; rw [← hw0]; clear hw0; refine wpList_append_keeps _ rfl _ _ 48 rfl w.heap.size 92 i0 (.agg #[.int .i64 0, .int .i64 0, .string ⟨#[]⟩]) 3 32 Try.underlying48 hi hz0 hz1 hz2 rfl (by decide) (.slice (some ⟨w.heap.size, 0, none⟩) 0 0) 0 [] rfl Hown.out ⟨g, o, none⟩ n c cs rfl hlen Hcl.out hone (by unfold maxLen; omega) (by omega) Hsz.out ?_; intro v1 w1 hown1 hgr1 hat1 _; have HF : Hid (w1.ownsRow w.heap.size 92 3 v1 n cs) := (by have h1 := hown1; rw [Nat.zero_add, List.nil_append] at h1; exact h1); have HT : Hid (Tch (fun _ => False) w w1) := (t0.trans (grown_at (Tch.refl (fun _ => False) w0) hgr1) (fun i hi e => by have := row_ge Hown.out e; omega)); obtain ⟨o1, c1, hv1⟩ := row_slice HF.out; subst hv1)
    go_ret
    exact ⟨⟨_, _, rfl, HF.out⟩, HT.out⟩

theorem res_ver1 {fn : Func} {tmps : Array Value} {W : World} {B k : Nat} {a b c : Value} (hrs : fn.results = #[.cell k 84]) (hk : tmps[k]?.getD undef = .pointer (some ⟨B, 0, none⟩))
    (hb : W.heap[B]? = some (.cells #[a, b, c] 84 (0, 0))) :
    (results fn tmps).run Try.prog W = .ok (.agg #[a, b, c]) W := by
  have c0 : W.cell? ⟨B, 0, none⟩ = some a := by rw [blk_cell hb]; rfl
  have c1 : W.cell? ⟨B, 1, none⟩ = some b := by rw [blk_cell hb]; rfl
  have c2 : W.cell? ⟨B, 2, none⟩ = some c := by rw [blk_cell hb]; rfl
  simp only [results, hrs]
  go_simp
theorem rs_filled : Try.f34.results = #[.cell 4 84] := by kernel_rfl
set_option maxHeartbeats 1000000 in
theorem filled_any (wr : Int) (ao : Option Addr) (n c : Nat) (cs : List Value) (w : World) (h : RdR w ao n c cs) :
    Calls Try.prog 34 #[.int .i64 wr, .slice ao n c] w fun x w' => (∃ ro rc, x = .returned (.agg #[.int .i64 wr, .bool true, .slice ro n rc]) ∧ w'.ownsRow w.heap.size 92 3 (.slice ro n rc) n cs) ∧ Tch (fun _ => False) w w' := by
  obtain ⟨N, hN⟩ : ∃ N, N = w.heap.size := ⟨_, rfl⟩
  obtain ⟨w0, hw0⟩ : ∃ w0, w0 = w.alloc (.cells #[.int .i64 0, .bool false, .slice none 0 0] 84) := ⟨_, rfl⟩
  have t0 : Tch (fun _ => False) w w0 := by rw [hw0]; exact Tch.alloc _ _ _
  have b0 : w0.heap[N]? = some (.cells #[.int .i64 0, .bool false, .slice none 0 0] 84 (0, 0)) := by rw [hw0, hN]; exact alloc_new _ _
  have hs0 : w0.heap.size = N + 1 := by rw [hw0, hN]; simp
  have q := rclone_any ao n c cs w0 (h.no t0)
  have HT0 : Hid _ := t0
  have HB0 : Hid _ := b0
  have HN : Hid (N = w.heap.size ∧ w0.heap.size = N + 1) := ⟨hN, hs0⟩
  have Hw0 : Hid _ := hw0
  clear h t0 b0 hs0 hw0
  go_enter Try.func34, Try.ntmps34
  go_wp2_with fail
  have hw0 := Hw0.out
  rw [← hw0, ← hN]
  clear hw0 Hw0 hN
  refine q.mono ?_
  rintro x w1 ⟨⟨ro, rc, rfl, hr⟩, t1⟩
  clear q
  have b1 : w1.heap[N]? = some (.cells #[.int .i64 0, .bool false, .slice none 0 0] 84 (0, 0)) := by rw [t1.block N (blk_lt HB0.out) (fun h => h)]; exact HB0.out
  have T1 : Hid (Tch (fun _ => False) w w1) := HT0.out.trans' t1
  have c0 : w1.cell? ⟨N, 0, none⟩ = some (.int .i64 0) := by rw [blk_cell b1]; rfl
  have c1 : w1.cell? ⟨N, 1, none⟩ = some (.bool false) := by rw [blk_cell b1]; rfl
  have c2 : w1.cell? ⟨N, 2, none⟩ = some (.slice none 0 0) := by rw [blk_cell b1]; rfl
  have f0 := fun i => blk_frozen b1 i
  have HR : Hid _ := hr
  have HB1 : Hid _ := b1
  clear hr b1 t1
  go_wp2
  refine bodyPost_ret (res_ver1 rs_filled rfl (set3_blk HB1.out)) rfl ?_
  obtain ⟨h1, h2⟩ := HN.out
  refine ⟨⟨ro, rc, rfl, own_low (own_tch HR.out (set3_tch _ _ _ _ _) (fun g hg e => ?_)) (by omega)⟩, tch_new T1.out (by omega) (set3_tch _ _ _ _ _)⟩
  have := row_ge HR.out hg
  omega
theorem mayInsert_any (wr : Int) (th : Bool) (ao : Option Addr) (n c : Nat) (w : World) :
    Calls Try.prog 36 #[.agg #[.int .i64 wr, .bool th, .slice ao n c]] w fun x w' => x = .returned (.int .i64 (if th then 91 else 0)) ∧ Tch (fun _ => False) w w' := by
  cases th
  · go_enter Try.func36, Try.ntmps36
    go_wp2
    go_ret
    exact ⟨rfl, Tch.alloc _ _ _⟩
  · go_enter Try.func36, Try.ntmps36
    go_wp2
    go_ret
    exact ⟨rfl, Tch.alloc _ _ _⟩
end Go.Proofs.Ytjbehnoococelaa
