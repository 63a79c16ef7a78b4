import Derived.Test.YtjbehnoococelaaMPl3
/- newest; Clone of rows; filled; mayInsert. -/
namespace Go.Proofs.Ytjbehnoococelaa
open Go.RowKit Go Go.Sort

theorem Holds.tch {w w' : World} {zs : List VV} {p : VV → Bool} {fn : Nat} {first caps : Array Value} (h : Holds w zs p fn first caps) (t : Tch (fun _ => False) w w') : Holds w' zs p fn first caps := ⟨h.enters, fun z W hz tW => h.calls z W hz (t.trans' tW)⟩
theorem VRd.tch {w w' : World} {ao : Option Addr} {zs : List VV} (h : VRd w.heap.size w ao zs) (t : Tch (fun _ => False) w w') : VRd w'.heap.size w' ao zs := by
  rcases h.below (below_tch t (Nat.le_refl _)) with e | ⟨g, e, hg, hc⟩
  · exact .inl e
  · exact .inr ⟨g, e, Nat.lt_of_lt_of_le hg t.size, hc⟩
/-- What newest tells. -/
def NwOut (p : VV → Bool) (zs : List VV) (x : Ending) : Prop :=
  ((∀ z ∈ zs, p z = false) ∧ x = .returned (.tuple #[.agg #[.int .i64 0, .bool false, .slice none 0 0], .bool false])) ∨
  ∃ (k : Nat) (z : VV), zs[k]? = some z ∧ p z = true ∧ (∀ (j : Nat) (u : VV), k < j → zs[j]? = some u → p u = false) ∧ x = .returned (.tuple #[.agg #[.int .i64 z.1.wr, .bool z.1.th, .slice z.2.1 z.1.n z.2.2], .bool true])
theorem res_ver {fn : Func} {tmps : Array Value} {W : World} {B k j : Nat} {E : Bool} {a b c : Value} (hrs : fn.results = #[.cell k 84, .tmp j]) (hk : tmps[k]?.getD undef = .pointer (some ⟨B, 0, none⟩)) (hj : tmps[j]?.getD undef = .bool E)
    (hb : W.heap[B]? = some (.cells #[a, b, c] 84 (0, 0))) :
    (results fn tmps).run Try.prog W = .ok (.tuple #[.agg #[a, b, c], .bool E]) W := by
  have c0 : W.cell? ⟨B, 0, none⟩ = some a := by rw [blk_cell hb]; rfl
  have c1 : W.cell? ⟨B, 1, none⟩ = some b := by rw [blk_cell hb]; rfl
  have c2 : W.cell? ⟨B, 2, none⟩ = some c := by rw [blk_cell hb]; rfl
  simp only [results, hrs]
  go_simp
/-- Three cells written. -/
def set3 (W : World) (N : Nat) (a b c : Value) : World := ((W.setCell ⟨N, 0, none⟩ a).setCell ⟨N, 1, none⟩ b).setCell ⟨N, 2, none⟩ c
theorem set3_blk {W : World} {N : Nat} {a b c x y z : Value} {t : TypeId} (h : W.heap[N]? = some (.cells #[a, b, c] t (0, 0))) : (set3 W N x y z).heap[N]? = some (.cells #[x, y, z] t (0, 0)) := by
  have h1 := blk_set (i := 0) h x
  have h2 := blk_set (i := 1) h1 y
  have h3 := blk_set (i := 2) h2 z
  exact h3
theorem set3_tch (W : World) (N : Nat) (a b c : Value) : Tch (fun i => i = N) W (set3 W N a b c) := ((Tch.setCell (fun i => i = N) W ⟨N, 0, none⟩ a rfl).setCellR ⟨N, 1, none⟩ b rfl).setCellR ⟨N, 2, none⟩ c rfl
/-- What is turned is new. -/
theorem tch_new {w w1 w2 : World} {N : Nat} (h : Tch (fun _ => False) w w1) (hN : w.heap.size ≤ N) (k : Tch (fun i => i = N) w1 w2) : Tch (fun _ => False) w w2 := h.trans k (fun i hi e => by omega)
theorem rs_newest : Try.f39.results = #[.cell 4 84, .tmp 5] := by kernel_rfl

set_option maxHeartbeats 4000000 in
set_option maxRecDepth 100000 in
theorem newest_any (ao : Option Addr) (cap : Nat) (zs : List VV) (hreach : zs.length ≤ 1000000) (w : World) (hc : VRd w.heap.size w ao zs) (p : VV → Bool) (fn : Nat) (first caps : Array Value) (hH : Holds w zs p fn first caps) :
    Calls Try.prog 39 #[.slice ao zs.length cap, .func (.func fn) first caps] w fun x w' => NwOut p zs x ∧ Tch (fun _ => False) w w' := by
  obtain ⟨N, hN⟩ : ∃ N, N = w.heap.size := ⟨_, rfl⟩
  obtain ⟨w0, hw0⟩ : ∃ w0, w0 = w.alloc (.cells #[.int .i64 0, .bool false, .slice none 0 0] 84) := ⟨_, rfl⟩
  have t0 : Tch (fun _ => False) w w0 := by rw [hw0]; exact Tch.alloc _ _ _
  have b0 : w0.heap[N]? = some (.cells #[.int .i64 0, .bool false, .slice none 0 0] 84 (0, 0)) := by rw [hw0, hN]; exact alloc_new _ _
  have q := callsIn_wide.1 (place_in 5 (Nat.le_refl _) ao cap zs hreach w0 (hc.tch t0) p fn first caps (hH.tch t0))
  obtain ⟨ln, hln⟩ : ∃ ln, ln = zs.length := ⟨_, rfl⟩
  have HV : Hid _ := hc.tch t0
  have HR : Hid (ln = zs.length ∧ ln ≤ 1000000) := ⟨hln, by omega⟩
  have HT0 : Hid _ := t0
  have HB0 : Hid _ := b0
  have HN : Hid _ := hN
  rw [← hln] at q ⊢
  have Hw0 : Hid _ := hw0
  clear hH hc hreach hln hw0 t0 b0
  go_enter Try.func39, Try.ntmps39
  go_wp2_with fail
  have hw0 := Hw0.out
  rw [← hw0, ← hN]
  clear hw0 Hw0 hN
  refine q.mono ?_
  rintro x w1 ⟨⟨r, rfl, hp⟩, t1⟩
  clear q
  have b1 : w1.heap[N]? = some (.cells #[.int .i64 0, .bool false, .slice none 0 0] 84 (0, 0)) := by rw [t1.block N (blk_lt HB0.out) (fun h => h)]; exact HB0.out
  have T1 : Hid (Tch (fun _ => False) w w1) := HT0.out.trans' t1
  have c0 : w1.cell? ⟨N, 0, none⟩ = some (.int .i64 0) := by rw [blk_cell b1]; rfl
  have c1 : w1.cell? ⟨N, 1, none⟩ = some (.bool false) := by rw [blk_cell b1]; rfl
  have c2 : w1.cell? ⟨N, 2, none⟩ = some (.slice none 0 0) := by rw [blk_cell b1]; rfl
  have f0 := fun i => blk_frozen b1 i
  rcases hp with ⟨rfl, hno⟩ | ⟨k, z, rfl, hz, hp, hla⟩
  · have HNo : Hid _ := hno
    have HB1 : Hid _ := b1
    clear hno b1 t1
    go_wp2
    refine bodyPost_ret (res_ver rs_newest rfl rfl (set3_blk HB1.out)) rfl ?_
    exact ⟨.inl ⟨HNo.out, rfl⟩, tch_new T1.out (by have := HN.out; omega) (set3_tch _ _ _ _ _)⟩
  · obtain ⟨hn1, hn2⟩ := HR.out
    have hk : k < zs.length := (List.getElem?_eq_some_iff.1 hz).1
    rcases HV.out with ⟨e, _⟩ | ⟨g, rfl, hg, hcs⟩
    · rw [e] at hk; exact absurd hk (Nat.not_lt_zero _)
    obtain ⟨e0, e1, e2⟩ := hcs k z hz
    have e0' : w1.cell? ⟨g, k * 3, none⟩ = some (.int .i64 z.1.wr) := (t1.cell (p := ⟨g, k * 3, none⟩) hg (fun h => h)).trans e0
    have e1' : w1.cell? ⟨g, k * 3 + 1, none⟩ = some (.bool z.1.th) := (t1.cell (p := ⟨g, k * 3 + 1, none⟩) hg (fun h => h)).trans e1
    have e2' : w1.cell? ⟨g, k * 3 + 2, none⟩ = some (.slice z.2.1 z.1.n z.2.2) := (t1.cell (p := ⟨g, k * 3 + 2, none⟩) hg (fun h => h)).trans e2
    have hkl : (k : Int) < (ln : Int) := by omega
    have hk0 : ¬ (k : Int) < 0 := by omega
    have hln : ln ≤ 1000000 := hn2
    have HO : Hid (∃ (k : Nat) (z' : VV), zs[k]? = some z' ∧ p z' = true ∧ (∀ (j : Nat) (u : VV), k < j → zs[j]? = some u → p u = false) ∧ z' = z) := ⟨k, z, hz, hp, hla, rfl⟩
    have HB1 : Hid _ := b1
    clear hn1 hn2 hz hp hla b1 t1 hcs e0 e1 e2 hg hk HV HR
    go_wp2
    refine bodyPost_ret (res_ver rs_newest rfl rfl (set3_blk HB1.out)) rfl ?_
    obtain ⟨k', z', h1, h2, h3, rfl⟩ := HO.out
    exact ⟨.inr ⟨k', z', h1, h2, h3, rfl⟩, tch_new T1.out (by have := HN.out; omega) (set3_tch _ _ _ _ _)⟩
end Go.Proofs.Ytjbehnoococelaa
