/- CatalogRights: the law. -/
import Derived.Test.YtmagodgmhknbkaaCFits
namespace Go.Proofs.Ytmagodgmhknbkaa
open Go.RowKit Go

abbrev zT : List Value := [.int .i64 0, .int .i64 0, .string ⟨#[]⟩, .slice none 0 0, .int .i64 0]
/-- An empty book. -/
abbrev book0 : Array Value := #[.slice none 0 0, .slice none 0 0, .slice none 0 0, .int .i64 0, .int .i64 0, .string ⟨#[]⟩, .slice none 0 0, .int .i64 0, .int .i64 0, .int .i64 0, .string ⟨#[]⟩, .slice none 0 0, .int .i64 0, .slice none 0 0, .slice none 0 0, .slice none 0 0, .slice none 0 0]
theorem own_nil (W : World) (t : TypeId) (sz : Nat) : W.ownsRow 0 t sz (.slice none 0 0) 0 [] := ⟨by simp, Or.inl ⟨rfl, rfl⟩⟩
theorem LS.nil (le : TypeId) (W : World) (F : Nat → Prop) (b : Nat) (mk : Nat → List Value) : LS le W F b mk [] (.slice none 0 0) := ⟨own_nil W le 1, (fun g e => by cases e), (fun j hj => by simp at hj)⟩
theorem BKr.nil {W : World} {b : Nat} (F : Nat → Prop) (hb : W.heap[b]? = some (.cells book0 49 (0, 0))) (hn : ¬ F b) : BKr W F b book0 [] (.slice none 0 0) (.slice none 0 0) (.slice none 0 0) [] :=
  ⟨hb, rfl, rfl, rfl, rfl, rfl, by simp, LS.nil _ _ _ _ _, own_nil _ _ _, own_nil _ _ _, (fun g e => by cases e), (fun g e => by cases e), hn⟩
def cA1 : Col := ⟨⟨#[105, 100]⟩, 1, false⟩
def cA3 : Col := ⟨⟨#[105, 100]⟩, 3, false⟩
theorem right1 : rightE ⟨1, 1, ⟨#[116]⟩, [cA1], 0⟩ = 0 := by decide
theorem right3 : rightE ⟨1, 1, ⟨#[116]⟩, [cA3], 0⟩ = 56 := by decide

set_option maxHeartbeats 4000000 in
set_option maxRecDepth 100000 in
theorem rights_law (t : Tbl) (ao : Option Addr) (c : Nat) (vs : List Val) (ro : Option Addr) (rc : Nat) (w : World)
    (h : SL w ao (ccl t.cols)) (hao : ao = none → c = 0) (hc : t.cols.length ≤ c) (hlen : t.cols.length * 32 ≤ 140737488351232) (hr : SL w ro (vcl vs)) (hro : ro = none → rc = 0) (hvlen : vs.length * 32 ≤ 140737488351232) :
    Calls Try.prog 4 #[tA t.id t.ver t.nm (.slice ao t.cols.length c) t.key, .slice ro vs.length rc] w fun x w' => x = .returned (.bool true) ∧ Tch (fun _ => False) w w' := by
  obtain ⟨N, hN⟩ : ∃ N, N = w.heap.size := ⟨_, rfl⟩
  obtain ⟨w0, hw0⟩ : ∃ w0, w0 = w.alloc (.cells #[.int .i64 t.id, .int .i64 t.ver, .string t.nm, .slice ao t.cols.length c, .int .i64 t.key] 29) := ⟨_, rfl⟩
  have T0 : Tch (fun _ => False) w w0 := by rw [hw0]; exact Tch.alloc _ _ _
  have HB : Hid (∀ (S : Nat → Prop) W, Tch S w0 W → ¬ S N → W.cell? ⟨N, 0, none⟩ = some (.int .i64 t.id) ∧ W.cell? ⟨N, 1, none⟩ = some (.int .i64 t.ver) ∧ W.cell? ⟨N, 2, none⟩ = some (.string t.nm) ∧ W.cell? ⟨N, 3, none⟩ = some (.slice ao t.cols.length c) ∧ W.cell? ⟨N, 4, none⟩ = some (.int .i64 t.key)) := fun S W tw hs => by
    have key : ∀ j v, w0.cell? ⟨N, j, none⟩ = some v → W.cell? ⟨N, j, none⟩ = some v := fun j v hv => (tw.cell (p := ⟨N, j, none⟩) (cell_lt hv) hs).trans hv
    have h1 : Tch (fun _ => False) (w.alloc (.cells #[.int .i64 t.id, .int .i64 t.ver, .string t.nm, .slice ao t.cols.length c, .int .i64 t.key] 29)) w0 := by rw [hw0]; exact Tch.refl _ _
    have h2 := box5 h1
    rw [← hN] at h2
    exact ⟨key 0 _ h2.1, key 1 _ h2.2.1, key 2 _ h2.2.2.1, key 3 _ h2.2.2.2.1, key 4 _ h2.2.2.2.2⟩
  have HSL : Hid (∀ (S : Nat → Prop) W, Tch S w W → (∀ i, i < w.heap.size → ¬ S i) → SL W ao (ccl t.cols) ∧ SL W ro (vcl vs)) := fun S W tW hS => ⟨h.no (tW.mono (fun i hi h => hS i hi h)), hr.no (tW.mono (fun i hi h => hS i hi h))⟩
  have hrlt : vs ≠ [] → ∀ g o, ro = some ⟨g, o, none⟩ → g < w.heap.size := fun hne g o e => by
    obtain ⟨g', o', e', ha⟩ := hr (f3_nil _ _ _ hne)
    rw [e'] at e; injection e with e; injection e with e _; subst e
    exact ha.lt (f3_nil _ _ _ hne)
  have q1 := right_any t ao c w0 (h.no T0) hc (by omega)
  obtain ⟨E, hE⟩ : ∃ E, E = rightE t := ⟨_, rfl⟩
  have q2 := fun W (tW : Tch (fun _ => False) w0 W) => rright_any t ao c W ((h.no T0).no tW)
  rw [← hE] at q1 q2
  have Hw0 : Hid _ := hw0
  have HN : Hid (N = w.heap.size) := hN
  have HT0 : Hid (Tch (fun _ => False) w w0) := T0
  have HNl : Hid (w0.heap.size = N + 1) := by show _ = _; rw [hw0, hN, World.size_alloc]
  have Hrlt : Hid _ := hrlt
  clear h hr hw0 hN T0 hE hrlt
  obtain ⟨b0, b1, b2, b3, b4⟩ := HB.out (fun _ => False) w0 (Tch.refl _ _) (fun h => h)
  go_enter Try.func4, Try.ntmps4
  go_wp2_with fail
  rw [← HN.out]
  have hw0 := Hw0.out
  rw [← hw0]
  clear hw0
  refine q1.mono ?_
  rintro x w1 ⟨rfl, t1⟩
  clear q1 b0 b1 b2 b3 b4
  obtain ⟨b0, b1, b2, b3, b4⟩ := HB.out _ w1 t1 (fun h => h)
  go_wp2_with fail
  refine (q2 w1 t1).mono ?_
  rintro x w2 ⟨rfl, t2⟩
  clear q2 b0 b1 b2 b3 b4
  have V2 : Tch (fun _ => False) w0 w2 := t1.trans' t2
  obtain ⟨B, hB⟩ : ∃ B, B = w2.heap.size := ⟨_, rfl⟩
  obtain ⟨w3, hw3⟩ : ∃ w3, w3 = w2.alloc (.cells book0 49) := ⟨_, rfl⟩
  have t3 : Tch (fun _ => False) w2 w3 := by rw [hw3]; exact Tch.alloc _ _ _
  have hbk : w3.heap[B]? = some (.cells book0 49 (0, 0)) := by rw [hw3, hB]; exact alloc_new _ _
  have V3 : Tch (fun _ => False) w0 w3 := V2.trans' t3
  have HNB : Hid (N < B) := by have := HNl.out; have := V2.size; show N < B; omega
  have HBl : Hid (B < w3.heap.size) := blk_lt hbk
  obtain ⟨b0, b1, b2, b3, b4⟩ := HB.out _ w3 V3 (fun h => h)
  have HV3 : Hid (Tch (fun _ => False) w w3) := HT0.out.trans' V3
  have HwB : Hid (w.heap.size < B) := by have := HN.out; have := HNB.out; show _ < _; omega
  have q4 := fits_book B book0 [] (.slice none 0 0) (.slice none 0 0) (.slice none 0 0) [] t ao c vs ro rc (fun i => i < B) w3 (BKr.nil _ hbk (by omega)) (fun i hi => by have := HBl.out; omega) (by simp) (HSL.out _ w3 HV3.out (fun _ _ h => h)).1 hao hlen (HSL.out _ w3 HV3.out (fun _ _ h => h)).2 hro hvlen (fun hne g o e => by have := Hrlt.out hne g o e; have := HwB.out; omega)
  rw [hw3] at b0 b1 b2 b3 b4
  have Hw3 : Hid _ := hw3
  have HBB : Hid (B = w2.heap.size) := hB
  clear hw3 hB hbk t1 t2 t3 V2
  go_wp2_with fail
  rw [← HBB.out]
  have hw3 := Hw3.out
  rw [← hw3]
  clear hw3
  clear b0 b1 b2 b3 b4
  refine q4.mono ?_
  rintro x w4 ⟨rfl, ⟨cur4, R4, rv4, a4, v4, y4, hB4, hR4, hc4⟩, t4⟩
  clear q4
  have V4 : Tch (fun i => B ≤ i) w0 w4 := (V3.mono (fun _ _ h => h.elim)).trans' (t4.mono (fun i _ h => Nat.le_of_not_lt h))
  obtain ⟨b0, b1, b2, b3, b4⟩ := HB.out _ w4 V4 (by have := HNB.out; omega)
  have HV4 : Hid (Tch (fun i => B ≤ i) w w4) := (HT0.out.mono (fun _ _ h => h.elim)).trans' V4
  have hS4 : ∀ i, i < w.heap.size → ¬ B ≤ i := fun i hi => by have := HwB.out; omega
  have q5 := fits_book B cur4 R4 rv4 a4 v4 y4 t ao c vs ro rc (fun i => i < B) w4 hB4 (fun i hi => by have := HBl.out; have := t4.size; omega) (by rw [hR4]; simp) (HSL.out _ w4 HV4.out hS4).1 hao hlen (HSL.out _ w4 HV4.out hS4).2 hro hvlen (fun hne g o e => by have := Hrlt.out hne g o e; have := HwB.out; omega)
  have Hc4 : Hid _ := hc4
  have HR4 : Hid _ := hR4
  clear hc4 hR4 hB4 hS4
  go_wp2_with fail
  clear b0 b1 b2 b3 b4
  refine q5.mono ?_
  rintro x w5 ⟨rfl, ⟨cur5, R5, rv5, a5, v5, y5, hB5, hR5, hc5⟩, t5⟩
  clear q5
  have q6 := still_any B cur5 [] [] R5 (.slice none 0 0) (.slice none 0 0) rv5 (fun _ => False) (fun _ => False) _ w5 hB5.blk (by rw [hc5 0 (by omega) (by omega), Hc4.out 0 (by omega) (by omega)]; rfl) (by rw [hc5 1 (by omega) (by omega), Hc4.out 1 (by omega) (by omega)]; rfl) hB5.c2 (LS.nil _ _ _ _ _) (LS.nil _ _ _ _ _) hB5.ls (by simp) (by simp) (by rw [hR5, HR4.out]; simp)
  have HV5 : Hid (Tch (fun _ => False) w w5) := HV4.out.trans (T := fun i => ¬ i < B) t5 (fun i _ h => Nat.le_of_not_lt h) |>.mono (fun i hi h => by have := HwB.out; omega)
  clear hB5 hR5 hc5
  go_wp2_with fail
  refine q6.mono ?_
  rintro x w6 ⟨rfl, hw6⟩
  obtain rfl := hw6.symm
  clear q6 hw6
  obtain ⟨w7, hw7⟩ : ∃ w7, w7 = w5.alloc (.cells #[.string ⟨#[105, 100]⟩, .int .i64 1, .bool false] 34) := ⟨_, rfl⟩
  have t7 : Tch (fun _ => False) w5 w7 := by rw [hw7]; exact Tch.alloc _ _ _
  have q7 := right_any ⟨1, 1, ⟨#[116]⟩, [cA1], 0⟩ (some ⟨w5.heap.size, 0, none⟩) 1 w7 (fun _ => ⟨w5.heap.size, 0, rfl, by rw [hw7]; exact blk_at (alloc_new w5 (.cells (ccl [cA1]).toArray 34))⟩) (by simp) (by simp)
  rw [right1] at q7
  have Hw7 : Hid _ := hw7
  clear hw7
  go_wp2_with fail
  have hw7 := Hw7.out
  rw [← hw7]
  clear hw7
  refine q7.mono ?_
  rintro x w8 ⟨rfl, t8⟩
  clear q7
  obtain ⟨w9, hw9⟩ : ∃ w9, w9 = w8.alloc (.cells #[.string ⟨#[105, 100]⟩, .int .i64 3, .bool false] 34) := ⟨_, rfl⟩
  have t9 : Tch (fun _ => False) w8 w9 := by rw [hw9]; exact Tch.alloc _ _ _
  have q9 := right_any ⟨1, 1, ⟨#[116]⟩, [cA3], 0⟩ (some ⟨w8.heap.size, 0, none⟩) 1 w9 (fun _ => ⟨w8.heap.size, 0, rfl, by rw [hw9]; exact blk_at (alloc_new w8 (.cells (ccl [cA3]).toArray 34))⟩) (by simp) (by simp)
  rw [right3] at q9
  have Hw9 : Hid _ := hw9
  clear hw9
  go_wp2_with fail
  have hw9 := Hw9.out
  rw [← hw9]
  clear hw9
  refine q9.mono ?_
  rintro x w10 ⟨rfl, t10⟩
  clear q9
  have HF : Hid (Tch (fun _ => False) w w10) := ((HV5.out.trans' t7).trans' t8).trans' (t9.trans' t10)
  go_wp2
  go_ret
  exact ⟨rfl, HF.out⟩
end Go.Proofs.Ytmagodgmhknbkaa
