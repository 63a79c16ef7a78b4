import Derived.Test.YtececlalnkiafaaHPut
import Derived.Test.YtececlalnkiafaaHAt
/- The law's own calls: pick, table. -/
namespace Go.Proofs.Ytececlalnkiafaa
open Go.RowKit Go
set_option maxRecDepth 100000

def pkN (c : Int) (n : Nat) : Nat := ((if c < 0 then -(c + 1) else c) % (n : Int)).toNat
theorem pkN_lt (c : Int) {n : Nat} (h : 0 < n) : pkN c n < n := by
  unfold pkN
  have h1 := Int.emod_nonneg (if c < 0 then -(c + 1) else c) (show (n : Int) ≠ 0 by omega)
  have h2 := Int.emod_lt_of_pos (if c < 0 then -(c + 1) else c) (show (0 : Int) < n by omega)
  omega
theorem pick_any (c : Int) (n : Nat) (w : World) (h1 : -9223372036854775808 ≤ c) (h2 : c ≤ 9223372036854775807) (hn : 0 < n) (hn2 : n ≤ 9223372036854775807) : Calls Try.prog 8 #[.int .i64 c, .int .i64 n] w fun x w' => x = .returned (.int .i64 (pkN c n)) ∧ w' = w := by
  have hn0 : ¬ (n : Int) = 0 := by omega
  have hnb : ((n : Int) == 0) = false := by simp; omega
  by_cases hc : c < 0
  · obtain ⟨d, hd⟩ : ∃ d : Nat, -(c + 1) = d := ⟨(-(c + 1)).toNat, by omega⟩
    obtain ⟨rfl⟩ : c = -(d : Int) - 1 := by omega
    have HE : Hid (((d : Int) % n) = (pkN (-(d : Int) - 1) n : Nat)) := by
      show _ = _
      have e : (if (-(d : Int) - 1) < 0 then -((-(d : Int) - 1) + 1) else (-(d : Int) - 1)) = (d : Int) := by rw [if_pos hc]; omega
      simp only [pkN, e]
      have := Int.emod_nonneg (d : Int) (show (n : Int) ≠ 0 by omega)
      omega
    clear hd
    go_enter Try.func8, Try.ntmps8
    go_wp2
    go_ret
    exact ⟨by rw [← HE.out]; rfl, rfl⟩
  · obtain ⟨d, rfl⟩ : ∃ d : Nat, c = d := ⟨c.toNat, by omega⟩
    have HE : Hid (((d : Int) % n) = (pkN (d : Int) n : Nat)) := by
      show _ = _
      have e : (if (d : Int) < 0 then -((d : Int) + 1) else (d : Int)) = (d : Int) := if_neg (by omega)
      simp only [pkN, e]
      have := Int.emod_nonneg (d : Int) (show (n : Int) ≠ 0 by omega)
      omega
    go_enter Try.func8, Try.ntmps8
    go_wp2
    go_ret
    exact ⟨by rw [← HE.out]; rfl, rfl⟩

def colA : Col := ⟨⟨#[105, 100]⟩, 1, false⟩
def colB : Col := ⟨⟨#[110]⟩, 2, true⟩
/-- The law's table of a number and a version. -/
def tabT (id ver : Int) : Tbl := ⟨id, ver, ⟨#[116]⟩, [colA, colB], 0⟩
theorem tabT_right {id ver : Int} (h1 : 1 ≤ id) (h2 : id ≤ 2147483647) (h3 : 1 ≤ ver) (h4 : ver ≤ 2147483647) : rightE (tabT id ver) = 0 := by
  unfold rightE
  have e1 : numOk (tabT id ver).id = true := by unfold numOk tabT; simp; omega
  have e2 : numOk (tabT id ver).ver = true := by unfold numOk tabT; simp; omega
  rw [e1, e2]
  have e3 : nmOk (tabT id ver).nm = true := by show nmOk ⟨#[116]⟩ = true; decide
  have e4 : colsE (tabT id ver).cols = 0 := by show colsE [colA, colB] = 0; decide
  have e5 : keyOk (tabT id ver).cols (tabT id ver).key = true := by show keyOk [colA, colB] 0 = true; decide
  rw [e3, e4, e5]
  simp
theorem siz_tbl : (Try.prog.info? 36).map (·.size) = some 5 := by kernel_rfl
set_option maxHeartbeats 1000000 in
theorem table_w (id ver : Int) (w : World) : Calls Try.prog 10 #[.int .i64 id, .int .i64 ver] w fun r w' => (∃ ao, r = .returned (tA id ver ⟨#[116]⟩ (.slice (some ao) 2 2) 0) ∧ SL w' (some ao) (ccl (tabT id ver).cols) ∧ w.heap.size ≤ ao.block) ∧ Tch (fun _ => False) w w' := by
  obtain ⟨N, hN⟩ : ∃ N, N = w.heap.size := ⟨_, rfl⟩
  obtain ⟨w1, hw1⟩ : ∃ w1, w1 = w.alloc (.cells #[.int .i64 0, .int .i64 0, .string ⟨#[]⟩, .slice none 0 0, .int .i64 0] 36) := ⟨_, rfl⟩
  obtain ⟨w2, hw2⟩ : ∃ w2, w2 = w1.alloc (.cells #[.string ⟨#[105, 100]⟩, .int .i64 1, .bool false, .string ⟨#[110]⟩, .int .i64 2, .bool true] 80) := ⟨_, rfl⟩
  have z1 : w1.heap.size = N + 1 := by rw [hw1, World.size_alloc, hN]
  have t1 : Tch (fun _ => False) w w1 := by rw [hw1]; exact Tch.alloc _ _ _
  have t2 : Tch (fun _ => False) w1 w2 := by rw [hw2]; exact Tch.alloc _ _ _
  have b1 : w1.heap[N]? = some (.cells #[.int .i64 0, .int .i64 0, .string ⟨#[]⟩, .slice none 0 0, .int .i64 0] 36 (0, 0)) := by rw [hw1, hN]; exact alloc_new _ _
  have b2 := (t2.block N (blk_lt b1) (fun e => e)).trans b1
  have bc : w2.heap[N + 1]? = some (.cells #[.string ⟨#[105, 100]⟩, .int .i64 1, .bool false, .string ⟨#[110]⟩, .int .i64 2, .bool true] 80 (0, 0)) := by rw [hw2, ← z1]; exact alloc_new _ _
  have hrs : Try.f10.results = #[.cell 4 36] := by kernel_rfl
  have HW1 : Hid (w1 = _) := hw1
  have HW2 : Hid (w2 = _) := hw2
  have HN : Hid (N = w.heap.size) := hN
  have HZ1 : Hid (w1.heap.size = N + 1) := z1
  have HB2 : Hid _ := b2
  have HBC : Hid _ := bc
  have HT2 : Hid (Tch (fun _ => False) w w2) := t1.trans' t2
  have y0 : w2.cell? ⟨N, 0, none⟩ = some (.int .i64 0) := blk_cell b2 0
  have y1 : w2.cell? ⟨N, 1, none⟩ = some (.int .i64 0) := blk_cell b2 1
  have y2 : w2.cell? ⟨N, 2, none⟩ = some (.string ⟨#[]⟩) := blk_cell b2 2
  have y3 : w2.cell? ⟨N, 3, none⟩ = some (.slice none 0 0) := blk_cell b2 3
  have y4 : w2.cell? ⟨N, 4, none⟩ = some (.int .i64 0) := blk_cell b2 4
  have yf := blk_frozen b2
  rw [hw2] at y0 y1 y2 y3 y4 yf
  clear hw1 hw2 hN z1 t1 t2 b1 b2 bc
  go_enter Try.func10, Try.ntmps10
  go_upto_region 1 with (fail)
  rw [← HW1.out, ← HN.out]
  go_wp2_with fail
  rw [HZ1.out, ← HW2.out]
  have t5 := tch5 w2 N (.int .i64 id) (.int .i64 ver) (.string ⟨#[116]⟩) (.slice (some ⟨N + 1, 0, none⟩) 2 2) (.int .i64 0)
  refine bodyPost_ret (results_cell_row hrs _ _ N 36 _ (0, 0) _ rfl (set5 HB2.out _ _ _ _ _) Try.underlying36 rfl siz_tbl) rfl ⟨⟨⟨N + 1, 0, none⟩, rfl, fun _ => ⟨N + 1, 0, rfl, fun j u hu => ?_⟩, ?_⟩, HT2.out.trans t5 (fun g hg e => by have := HN.out; have e' : g = N := e; omega)⟩
  · have h1 : w2.cell? ⟨N + 1, 0 + j, none⟩ = some u := by
      rw [Nat.zero_add, blk_cell HBC.out, ← Array.getElem?_toList]
      exact hu
    exact (t5.cell (p := ⟨N + 1, 0 + j, none⟩) (cell_lt h1) (by show ¬ N + 1 = N; omega)).trans h1
  · show _ ≤ N + 1
    have := HN.out
    omega
end Go.Proofs.Ytececlalnkiafaa
