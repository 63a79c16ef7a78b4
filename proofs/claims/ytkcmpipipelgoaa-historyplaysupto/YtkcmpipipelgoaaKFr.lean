import Derived.Test.YtkcmpipipelgoaaKGrow
import Derived.Test.YtkcmpipipelgoaaD4
/- Tables that came out, untouched still: owned. -/
namespace Go.Proofs.Ytkcmpipipelgoaa
open Go.RowKit Go
set_option maxRecDepth 100000

/-- A table that came out: it, where its columns lie, where those lie that it must read as, behind how many steps it is. -/
structure Fr where
  t : Tbl
  v : Value
  u : Value
  a : Int
def Fr.cs (f : Fr) : List Value := [.int .i64 f.t.id, .int .i64 f.t.ver, .string f.t.nm, f.v, .int .i64 f.t.key, .int .i64 f.t.id, .int .i64 f.t.ver, .string f.t.nm, f.u, .int .i64 f.t.key, .int .i64 f.a]
def fcl (L : List Fr) : List Value := L.flatMap Fr.cs
theorem fcl_len : ∀ L : List Fr, (fcl L).length = L.length * 11
  | [] => rfl
  | a :: l => by
    have := fcl_len l
    unfold fcl at this ⊢
    simp only [List.flatMap_cons, List.length_append, this, List.length_cons]
    simp [Fr.cs]; omega
theorem fcl_snoc (L : List Fr) (f : Fr) : fcl (L ++ [f]) = fcl L ++ f.cs := by simp [fcl]
theorem fcl_get : ∀ (l : List Fr) (k j : Nat) (n : Fr), l[k]? = some n → j < 11 → (fcl l)[k * 11 + j]? = n.cs[j]?
  | [], k, j, n, hk, _ => by simp at hk
  | a :: l, 0, j, n, hk, hj => by
    unfold fcl
    rw [List.flatMap_cons, Nat.zero_mul, Nat.zero_add, List.getElem?_append_left (by simp [Fr.cs]; omega)]
    simp at hk; rw [hk]
  | a :: l, k + 1, j, n, hk, hj => by
    have := fcl_get l k j n (by simpa using hk) hj
    unfold fcl at this ⊢
    rw [List.flatMap_cons, List.getElem?_append_right (by simp [Fr.cs]; omega)]
    rw [show (k + 1) * 11 + j - a.cs.length = k * 11 + j by simp [Fr.cs]; omega]
    exact this
theorem Fr.one (f : Fr) (hv : ∃ o n c, f.v = .slice o n c) (hu : ∃ o n c, f.u = .slice o n c) : ∀ x ∈ f.cs, x.oneCell' = true := fun x hx => by
  obtain ⟨_, _, _, e1⟩ := hv
  obtain ⟨_, _, _, e2⟩ := hu
  simp only [Fr.cs, e1, e2, List.mem_cons, List.not_mem_nil, or_false] at hx
  rcases hx with rfl | rfl | rfl | rfl | rfl | rfl | rfl | rfl | rfl | rfl | rfl <;> rfl
theorem info_fr : (Try.prog.info? 108).map (fun i => (i.zero, i.size, i.bytes)) = some (some (.agg #[.int .i64 0, .int .i64 0, .string ⟨#[]⟩, .slice none 0 0, .int .i64 0, .int .i64 0, .int .i64 0, .string ⟨#[]⟩, .slice none 0 0, .int .i64 0, .int .i64 0]), 11, 136) := by kernel_rfl
/-- The list grows by one that lies in a block of its own. -/
theorem fr_app {w : World} {base : Nat} {lo : Option Addr} {n lc : Nat} {L : List Fr} (h : w.ownsRow base 108 11 (.slice lo n lc) n (fcl L)) (hn : n = L.length) (f : Fr) (g : Nat) (hg : At w g 0 f.cs) (h1 : ∀ x ∈ f.cs, x.oneCell' = true) (hl : n ≤ 1000000000000) (hb : base ≤ w.heap.size) :
    ∃ o c w', (Builtin.append_ #[57, 57] 57 #[.slice lo n lc, .slice (some ⟨g, 0, none⟩) 1 1]).run Try.prog w = .ok (.slice o (n + 1) c) w'
      ∧ w'.ownsRow base 108 11 (.slice o (n + 1) c) (n + 1) (fcl (L ++ [f])) ∧ Tch (fun g => ob lo = some g) w w' ∧ (ob o = ob lo ∨ ∃ g, ob o = some g ∧ w.heap.size ≤ g ∧ g < w'.heap.size) := by
  obtain ⟨i0, hi0, hz0, hz1, hz2⟩ := info_parts info_fr
  obtain ⟨v7, w7, hr7, hown7, hgr7, _, hat7⟩ := run_append_own_at (P := Try.prog) w base 57 57 108 i0 _ 11 136 Try.underlying57 hi0 hz0 hz1 hz2 rfl (by decide) _ _ _ h ⟨g, 0, none⟩ 1 1 f.cs rfl (fun j u hu => by rw [add_plain]; exact hg j u hu) h1 (by unfold maxLen; omega) (by omega) hb
  obtain ⟨o7, c7, rfl⟩ := row_slice hown7
  refine ⟨o7, c7, w7, hr7, by rw [fcl_snoc]; exact hown7, ?_, ?_⟩
  · have t7 : Tch (fun g => (Value.slice lo n lc).ownBlock = some g) w w7 := Tch.of_grown hgr7 (fun g e => e)
    exact t7.mono (fun g _ e => by rw [ob_eq] at e; exact e)
  · rw [ob_eq, ob_eq] at hat7
    rcases hat7 with e | e
    · exact .inl e
    · exact .inr ⟨_, e, Nat.le_refl _, (hown7.lt _ (by rw [ob_eq]; exact e)).2⟩

set_option maxHeartbeats 2000000 in
theorem owned_any (b : Nat) (cur : Array Value) (lo : Option Addr) (n lc : Nat) (L : List Fr) (t : Tbl) (ao : Option Addr) (c : Nat) (w : World)
    (hb : w.heap[b]? = some (.cells cur 59 (0, 0))) (hs : cur.size = 8) (hc : cur[6]? = some (.slice lo n lc)) (hL : w.ownsRow 0 108 11 (.slice lo n lc) n (fcl L)) (hn : n = L.length) (hl : n ≤ 1000000000000) (hlb : ob lo ≠ some b)
    (hS : SL w ao (ccl t.cols)) (hno : ao = none → t.cols = [] ∧ c = 0) (hln : t.cols.length * 32 ≤ 140737488351232) :
    Calls Try.prog 35 #[.pointer (some ⟨b, 0, none⟩), tA t.id t.ver t.nm (.slice ao t.cols.length c) t.key] w fun x w' => x = .returned (.tuple #[]) ∧ (∃ u o oc, w'.heap[b]? = some (.cells (cur.setIfInBounds 6 (.slice o (n + 1) oc)) 59 (0, 0)) ∧ w'.ownsRow 0 108 11 (.slice o (n + 1) oc) (n + 1) (fcl (L ++ [⟨t, .slice ao t.cols.length c, u, 0⟩])) ∧ w'.ownsRow w.heap.size 80 3 u t.cols.length (ccl t.cols) ∧ (ob o = ob lo ∨ ∃ g, ob o = some g ∧ w.heap.size ≤ g ∧ g < w'.heap.size) ∧ (∀ g, u.ownBlock = some g → ob o ≠ some g)) ∧ Tch (fun i => i = b ∨ ob lo = some i) w w' := by
  obtain ⟨m, hm⟩ : ∃ m, m = t.cols.length := ⟨_, rfl⟩
  obtain ⟨N, hN⟩ : ∃ N, N = w.heap.size := ⟨_, rfl⟩
  obtain ⟨w0, hw0⟩ : ∃ w0, w0 = (w.alloc (.cells #[.int .i64 t.id, .int .i64 t.ver, .string t.nm, .slice ao m c, .int .i64 t.key] 36)).alloc (.cells #[.int .i64 t.id, .int .i64 t.ver, .string t.nm, .slice ao m c, .int .i64 t.key] 36) := ⟨_, rfl⟩
  have t0 : Tch (fun _ => False) w w0 := by rw [hw0]; exact (Tch.alloc _ _ _).allocR _
  have hX : w0.heap[N]? = some (.cells #[.int .i64 t.id, .int .i64 t.ver, .string t.nm, .slice ao m c, .int .i64 t.key] 36 (0, 0)) := by
    rw [hw0, hN]; exact (Tch.alloc (fun _ => False) _ _).block _ (by simp) (fun h => h) |>.trans (alloc_new _ _)
  have hY : w0.heap[N + 1]? = some (.cells #[.int .i64 t.id, .int .i64 t.ver, .string t.nm, .slice ao m c, .int .i64 t.key] 36 (0, 0)) := by
    rw [hw0, hN, ← World.size_alloc]; exact alloc_new _ _
  have hz0 : w0.heap.size = N + 2 := by rw [hw0, hN, World.size_alloc, World.size_alloc]
  obtain ⟨i0, hi0, hy0, hy1, hy2⟩ := info_parts info_col
  have hnil : w0.ownsRow w0.heap.size 80 3 (.slice none 0 0) 0 [] := World.ownsRow_nil _ _ _ _
  obtain ⟨uo, uc, w1, hr1, ho1, t1⟩ : ∃ uo uc w1, (Builtin.append_ #[34, 34] 34 #[.slice none 0 0, .slice ao m c]).run Try.prog w0 = .ok (.slice uo m uc) w1 ∧ w1.ownsRow w0.heap.size 80 3 (.slice uo m uc) m (ccl t.cols) ∧ Tch (fun _ => False) w0 w1 := by
    cases hao : ao with
    | none =>
      obtain ⟨e1, e2⟩ := hno hao
      have e3 : m = 0 := by rw [hm, e1]; rfl
      rw [e3, e2]
      have hr := run_append_owned_none (P := Try.prog) (w := w0) w0.heap.size 34 34 80 i0 3 Try.underlying34 hi0 _ _ _ hnil
      exact ⟨none, 0, w0, hr, by rw [e1]; exact hnil, Tch.refl _ _⟩
    | some p =>
      obtain ⟨v7, w7, hr7, hown7, hgr7, _, hat7⟩ := run_append_own_at (P := Try.prog) w0 w0.heap.size 34 34 80 i0 _ 3 32 Try.underlying34 hi0 hy0 hy1 hy2 rfl (by decide) _ _ _ hnil p m c (ccl t.cols) (by rw [ccl_len, hm]) (fun j u hu => by
        have hne : ccl t.cols ≠ [] := fun e => by rw [e] at hu; simp at hu
        obtain ⟨g, o, e, ha⟩ := (hS.no t0) hne
        rw [hao] at e
        injection e with e
        rw [e, add_plain]
        exact ha j u hu) (ccl_one _) (by unfold maxLen; omega) (by omega) (Nat.le_refl _)
      obtain ⟨o7, c7, rfl⟩ := row_slice hown7
      rw [Nat.zero_add] at hr7 hown7
      exact ⟨o7, c7, w7, hr7, hown7, (Tch.of_grown (S := fun _ => False) hgr7 (fun g e => by cases e))⟩
  obtain ⟨w2, hw2⟩ : ∃ w2, w2 = w1.setCell ⟨N + 1, 3, none⟩ (.slice uo m uc) := ⟨_, rfl⟩
  have t2 : Tch (fun g => g = N + 1) w1 w2 := by rw [hw2]; exact Tch.setCell (fun g => g = N + 1) w1 ⟨N + 1, 3, none⟩ _ rfl
  have hX1 := (t1.block N (blk_lt hX) (fun e => e)).trans hX
  have hY1 := (t1.block (N + 1) (blk_lt hY) (fun e => e)).trans hY
  have hX2 := (t2.block N (blk_lt hX1) (fun e => by have e' : N = N + 1 := e; omega)).trans hX1
  have hY2 : w2.heap[N + 1]? = some (.cells #[.int .i64 t.id, .int .i64 t.ver, .string t.nm, .slice uo m uc, .int .i64 t.key] 36 (0, 0)) := by rw [hw2, blk_set (i := 3) hY1]; rfl
  have tA2 : Tch (fun _ => False) w w2 := (t0.trans' t1).trans t2 (fun g hg e => by have e' : g = N + 1 := e; omega)
  have hb2 := (tA2.block b (blk_lt hb) (fun e => e)).trans hb
  have ho2 : w2.ownsRow w.heap.size 80 3 (.slice uo m uc) m (ccl t.cols) := own_low (own_tch ho1 t2 (fun g e e2 => by have := (ho1.lt g e).1; have e' : g = N + 1 := e2; omega)) t0.size
  have HU : Hid (∀ g, (Value.slice uo m uc).ownBlock = some g → w0.heap.size ≤ g ∧ g < w1.heap.size) := fun g e => ho1.lt g e
  have HX2 : Hid _ := hX2
  have HY2 : Hid _ := hY2
  have HB2 : Hid _ := hb2
  have HO2 : Hid (w2.ownsRow w.heap.size 80 3 (.slice uo m uc) m (ccl t.cols)) := ho2
  have HL2 : Hid (w2.ownsRow 0 108 11 (.slice lo n lc) n (fcl L)) := own_tch hL tA2 (fun _ _ e => e)
  have HT2 : Hid (Tch (fun _ => False) w w2) := tA2
  have HHb : Hid (b < w.heap.size) := blk_lt hb
  have Hlb : Hid (ob lo ≠ some b ∧ ∀ g, ob lo = some g → g < N) := ⟨hlb, fun g e => by have := (hL.lt g (by rw [ob_eq]; exact e)).2; omega⟩
  have Hn : Hid (n = L.length) := hn
  have Hl : Hid (n ≤ 1000000000000) := hl
  have Hc : Hid (cur[6]? = _) := hc
  have Hs : Hid (cur.size = 8) := hs
  have HN : Hid (N = w.heap.size) := hN
  have Hz : Hid (w0.heap.size = N + 2 ∧ w1.heap.size ≤ w2.heap.size) := ⟨hz0, t2.size⟩
  have HW0 : Hid (w0 = _) := hw0
  have HW2 : Hid (w2 = _) := hw2
  have HR1 : Hid _ := hr1
  have x3 : w0.cell? ⟨N, 3, none⟩ = some (.slice ao m c) := blk_cell hX 3
  have y3 : w1.cell? ⟨N + 1, 3, none⟩ = some (.slice ao m c) := blk_cell hY1 3
  have yf := blk_frozen hY1
  rw [← hm]
  clear hw0 t0 hX hY hz0 hi0 hy0 hy1 hy2 hnil hr1 ho1 t1 hw2 t2 hX1 hY1 hX2 hY2 tA2 hb2 ho2 hb hs hc hL hn hl hlb hS hno hln hm hN
  go_enter Try.func35, Try.ntmps35
  go_upto_region 2 with (fail)
  rw [← HW0.out, ← HN.out]
  go_upto_region 3 with (at_builtin; refine wpList_app _ rfl _ _ 34 rfl rfl _ _ rfl rfl HR1.out ?_)
  rw [← HW2.out]
  clear x3 y3 yf
  obtain ⟨K0, hK0⟩ : ∃ K0 : World → Prop, K0 = fun W => Tch (fun g => ob lo = some g) w2 W := ⟨_, rfl⟩
  obtain ⟨St, hSt⟩ : ∃ St : List Value → World → Prop, St = fun s W => match s with
    | [] => Tch (fun _ => False) w2 W
    | [z] => Tch (fun _ => False) w2 W ∧ ∃ g, z = .slice (some ⟨g, 0, none⟩) 1 1 ∧ At W g 0 (⟨t, .slice ao m c, .slice uo m uc, 0⟩ : Fr).cs
    | [_, u] => ∃ o oc, u = .slice o (n + 1) oc ∧ W.ownsRow 0 108 11 (.slice o (n + 1) oc) (n + 1) (fcl (L ++ [⟨t, .slice ao m c, .slice uo m uc, 0⟩])) ∧ (ob o = ob lo ∨ ∃ g, ob o = some g ∧ w2.heap.size ≤ g ∧ g < W.heap.size)
    | _ => False := ⟨_, rfl⟩
  obtain ⟨C, hC⟩ : ∃ C : List Value → World → Prop, C = fun s W => K0 W ∧ St s W := ⟨_, rfl⟩
  have hK : ∀ s W, C s W → W.cell? ⟨b, 6, none⟩ = some (.slice lo n lc) ∧ (W.cell? ⟨N, 0, none⟩ = some (.int .i64 t.id) ∧ W.cell? ⟨N, 1, none⟩ = some (.int .i64 t.ver) ∧ W.cell? ⟨N, 2, none⟩ = some (.string t.nm) ∧ W.cell? ⟨N, 3, none⟩ = some (.slice ao m c) ∧ W.cell? ⟨N, 4, none⟩ = some (.int .i64 t.key)) ∧ (W.cell? ⟨N + 1, 0, none⟩ = some (.int .i64 t.id) ∧ W.cell? ⟨N + 1, 1, none⟩ = some (.int .i64 t.ver) ∧ W.cell? ⟨N + 1, 2, none⟩ = some (.string t.nm) ∧ W.cell? ⟨N + 1, 3, none⟩ = some (.slice uo m uc) ∧ W.cell? ⟨N + 1, 4, none⟩ = some (.int .i64 t.key)) ∧ (∀ i, W.frozen? ⟨b, i, none⟩ = false) ∧ W.heap[b]? = some (.cells cur 59 (0, 0)) := fun s W hW => by
    rw [hC] at hW
    have tW := hW.1
    rw [hK0] at tW
    have h1 := (tW.block N (blk_lt HX2.out) (fun e => by have := Hlb.out.2 N e; omega)).trans HX2.out
    have h2 := (tW.block (N + 1) (blk_lt HY2.out) (fun e => by have := Hlb.out.2 (N + 1) e; omega)).trans HY2.out
    have h3 := (tW.block b (blk_lt HB2.out) Hlb.out.1).trans HB2.out
    exact ⟨by rw [blk_cell h3]; exact Hc.out, ⟨blk_cell h1 0, blk_cell h1 1, blk_cell h1 2, blk_cell h1 3, blk_cell h1 4⟩, ⟨blk_cell h2 0, blk_cell h2 1, blk_cell h2 2, blk_cell h2 3, blk_cell h2 4⟩, blk_frozen h3, h3⟩
  have h7 : ∀ W, C [] W → C [.slice (some ⟨W.heap.size, 0, none⟩) 1 1] (W.alloc (.cells #[.int .i64 t.id, .int .i64 t.ver, .string t.nm, .slice ao m c, .int .i64 t.key, .int .i64 t.id, .int .i64 t.ver, .string t.nm, .slice uo m uc, .int .i64 t.key, .int .i64 0] 108)) := fun W hW => by
    rw [hC, hSt, hK0] at hW
    rw [hC, hSt, hK0]
    have tW : Tch (fun _ => False) w2 W := hW.2
    exact ⟨(tW.mono (fun _ _ e => e.elim)).allocR _, tW.allocR _, W.heap.size, rfl, blk_at' (alloc_new W (.cells (⟨t, .slice ao m c, .slice uo m uc, 0⟩ : Fr).cs.toArray 108))⟩
  have h8 : ∀ g W, C [.slice (some ⟨g, 0, none⟩) 1 1] W → ∃ o oc w', (Builtin.append_ #[57, 57] 57 #[.slice lo n lc, .slice (some ⟨g, 0, none⟩) 1 1]).run Try.prog W = .ok (.slice o (n + 1) oc) w' ∧ C [.slice (some ⟨g, 0, none⟩) 1 1, .slice o (n + 1) oc] w' := fun g W hW => by
    rw [hC, hSt, hK0] at hW
    obtain ⟨h1, tW, g', e2, hg⟩ := hW
    have e2' : g = g' := by simpa using e2
    subst e2'
    obtain ⟨o, oc, w', hr, ho, t', hat⟩ := fr_app (own_tch HL2.out tW (fun _ _ e => e)) Hn.out ⟨t, .slice ao m c, .slice uo m uc, 0⟩ g hg (Fr.one _ ⟨_, _, _, rfl⟩ ⟨_, _, _, rfl⟩) Hl.out (Nat.zero_le _)
    refine ⟨o, oc, w', hr, ?_⟩
    rw [hC, hSt, hK0]
    refine ⟨(tW.mono (fun _ _ e => e.elim)).trans' t', o, oc, rfl, ho, ?_⟩
    rcases hat with e | ⟨g', e1, e2, e3⟩
    · exact .inl e
    · exact .inr ⟨g', e1, Nat.le_trans tW.size e2, e3⟩
  have h0' : C [] w2.drew := by
    rw [hC, hSt, hK0]; exact ⟨(Tch.refl _ _).drew, (Tch.refl _ _).drew⟩
  have hsh1 : ∀ z W, C [z] W → ∃ g, z = .slice (some ⟨g, 0, none⟩) 1 1 := fun z W hW => by
    rw [hC, hSt, hK0] at hW
    obtain ⟨_, _, g, rfl, _⟩ := hW
    exact ⟨g, rfl⟩
  have hsh2 : ∀ z u W, C [z, u] W → ∃ o oc, u = .slice o (n + 1) oc := fun z u W hW => by
    rw [hC, hSt, hK0] at hW
    obtain ⟨_, o, oc, rfl, _⟩ := hW
    exact ⟨o, oc, rfl⟩
  have HF9 : Hid (∀ z o oc W, C [z, .slice o (n + 1) oc] W → ∃ u, (W.setCell ⟨b, 6, none⟩ (.slice o (n + 1) oc)).heap[b]? = some (.cells (cur.setIfInBounds 6 (.slice o (n + 1) oc)) 59 (0, 0)) ∧ (W.setCell ⟨b, 6, none⟩ (.slice o (n + 1) oc)).ownsRow 0 108 11 (.slice o (n + 1) oc) (n + 1) (fcl (L ++ [⟨t, .slice ao m c, u, 0⟩])) ∧ (W.setCell ⟨b, 6, none⟩ (.slice o (n + 1) oc)).ownsRow w.heap.size 80 3 u m (ccl t.cols) ∧ (ob o = ob lo ∨ ∃ g, ob o = some g ∧ w.heap.size ≤ g ∧ g < (W.setCell ⟨b, 6, none⟩ (.slice o (n + 1) oc)).heap.size) ∧ (∀ g, u.ownBlock = some g → ob o ≠ some g) ∧ Tch (fun i => i = b ∨ ob lo = some i) w (W.setCell ⟨b, 6, none⟩ (.slice o (n + 1) oc))) := fun z o oc W hW => by
    have hb9 := (hK _ W hW).2.2.2.2
    rw [hC, hSt, hK0] at hW
    obtain ⟨h1, o', oc', e, ho, hat⟩ := hW
    have e' : o = o' ∧ oc = oc' := by simpa using e
    obtain ⟨rfl, rfl⟩ := e'
    have hob : ob o ≠ some b := fun e => by
      rcases hat with e1 | ⟨g, e1, e2, _⟩
      · exact Hlb.out.1 (e1 ▸ e)
      · rw [e1] at e; injection e with e; have := blk_lt HB2.out; omega
    have t9 : Tch (fun g => g = b) W (W.setCell ⟨b, 6, none⟩ (.slice o (n + 1) oc)) := Tch.setCell (fun g => g = b) W ⟨b, 6, none⟩ _ rfl
    have hul : ∀ g, (Value.slice uo m uc).ownBlock = some g → N + 2 ≤ g ∧ g < w2.heap.size := fun g e => by have := HU.out g e; have := Hz.out; omega
    have htW : Tch (fun i => i = b ∨ ob lo = some i) w W := (HT2.out.mono (fun _ _ e => e.elim)).trans' (h1.mono (fun _ _ e => .inr e))
    refine ⟨.slice uo m uc, blk_set hb9 _, own_tch ho t9 (fun g e e2 => ?_), own_tch (own_tch HO2.out h1 (fun g e e2 => ?_)) t9 (fun g e e2 => ?_), ?_, fun g e e2 => ?_, htW.setCellR ⟨b, 6, none⟩ _ (.inl rfl)⟩
    · rw [ob_eq] at e; have e3 : g = b := e2; rw [e3] at e; exact hob e
    · have := Hlb.out.2 g e2; have := hul g e; omega
    · have e3 : g = b := e2
      have := hul g e
      rw [e3] at this
      have := HHb.out
      have := HN.out
      omega
    · rcases hat with e1 | ⟨g, e1, e2, e3⟩
      · exact .inl e1
      · exact .inr ⟨g, e1, Nat.le_trans HT2.out.size e2, Nat.lt_of_lt_of_le e3 t9.size⟩
    · have h3 := hul g e
      rcases hat with e1 | ⟨g', e1, e4, _⟩
      · have := Hlb.out.2 g (e1 ▸ e2); omega
      · rw [e1] at e2; injection e2 with e2; omega
  clear hC hSt hK0
  go_wp2_with fail
  refine wp_region_ordv [8, 9] C 10 [0, 1, 2, 3, 4, 5, 6, 7, 8, 9] (by kernel_rfl) (by kernel_rfl) h0' ?_
  clear h0'
  refine ordv_read rfl (by go_simp) (by rfl) ?_
  apply Exists.intro
  refine ⟨fun s' W hW b K Q hK' => ?_, fun K hK' => ?_⟩
  · obtain ⟨q0, ⟨x0, x1, x2, x3, x4⟩, ⟨y0, y1, y2, y3, y4⟩, _⟩ := hK _ W hW
    go_simp
    exact hK' W hW
  go_simp
  refine hK' _ ?_
  clear hK' K
  refine ordv_read rfl (by go_simp) (by rfl) ?_
  apply Exists.intro
  refine ⟨fun s' W hW b K Q hK' => ?_, fun K hK' => ?_⟩
  · obtain ⟨q0, ⟨x0, x1, x2, x3, x4⟩, ⟨y0, y1, y2, y3, y4⟩, _⟩ := hK _ W hW
    go_simp
    exact hK' W hW
  go_simp
  refine hK' _ ?_
  clear hK' K
  refine ordv_read rfl (by go_simp) (by rfl) ?_
  apply Exists.intro
  refine ⟨fun s' W hW b K Q hK' => ?_, fun K hK' => ?_⟩
  · obtain ⟨q0, ⟨x0, x1, x2, x3, x4⟩, ⟨y0, y1, y2, y3, y4⟩, _⟩ := hK _ W hW
    go_simp
    exact hK' W hW
  go_simp
  refine hK' _ ?_
  clear hK' K
  refine ordv_read rfl (by go_simp) (by rfl) ?_
  apply Exists.intro
  refine ⟨fun s' W hW b K Q hK' => ?_, fun K hK' => ?_⟩
  · obtain ⟨q0, ⟨x0, x1, x2, x3, x4⟩, ⟨y0, y1, y2, y3, y4⟩, _⟩ := hK _ W hW
    go_simp
    exact hK' W hW
  go_simp
  refine hK' _ ?_
  clear hK' K
  refine ordv_read rfl (by go_simp) (by rfl) ?_
  apply Exists.intro
  refine ⟨fun s' W hW b K Q hK' => ?_, fun K hK' => ?_⟩
  · obtain ⟨q0, ⟨x0, x1, x2, x3, x4⟩, ⟨y0, y1, y2, y3, y4⟩, _⟩ := hK _ W hW
    go_simp
    exact hK' W hW
  go_simp
  refine hK' _ ?_
  clear hK' K
  refine ordv_read rfl (by go_simp) (by rfl) ?_
  apply Exists.intro
  refine ⟨fun s' W hW b K Q hK' => ?_, fun K hK' => ?_⟩
  · obtain ⟨q0, ⟨x0, x1, x2, x3, x4⟩, ⟨y0, y1, y2, y3, y4⟩, _⟩ := hK _ W hW
    go_simp
    exact hK' W hW
  go_simp
  refine hK' _ ?_
  clear hK' K
  refine ordv_read rfl (by go_simp) (by rfl) ?_
  apply Exists.intro
  refine ⟨fun s' W hW b K Q hK' => ?_, fun K hK' => ?_⟩
  · obtain ⟨q0, ⟨x0, x1, x2, x3, x4⟩, ⟨y0, y1, y2, y3, y4⟩, _⟩ := hK _ W hW
    go_simp
    exact hK' W hW
  go_simp
  refine hK' _ ?_
  clear hK' K
  refine ordv_read rfl (by go_simp) (by rfl) ?_
  apply Exists.intro
  refine ⟨fun s' W hW b K Q hK' => ?_, fun K hK' => ?_⟩
  · obtain ⟨q0, ⟨x0, x1, x2, x3, x4⟩, ⟨y0, y1, y2, y3, y4⟩, _⟩ := hK _ W hW
    go_simp
    exact hK' W hW
  go_simp
  refine hK' _ ?_
  clear hK' K
  refine ordv_turn rfl (by go_simp) (by rfl) (fun W hW b K Q hK' => ?_) (fun u hu K hK' => ?_)
  · go_simp
    exact hK' _ _ (h7 W hW)
  obtain ⟨g, rfl⟩ : ∃ g, u = .slice (some ⟨g, 0, none⟩) 1 1 := by
    obtain ⟨W', hW'⟩ := hu
    exact hsh1 u W' hW'
  clear hu h7
  go_simp
  refine hK' _ ?_
  clear hK' K
  refine ordv_turn rfl (by go_simp) (by rfl) (fun W hW => ?_) (fun u hu K hK' => ?_)
  · obtain ⟨o, oc, w', hr, h1⟩ := h8 g W hW
    exact yv_append (.tmp 14) (.tmp 18) 57 rfl (.slice lo n lc) (.slice (some ⟨g, 0, none⟩) 1 1) rfl rfl hr h1
  obtain ⟨o, oc, rfl⟩ : ∃ o oc, u = .slice o (n + 1) oc := by
    obtain ⟨W', hW'⟩ := hu
    exact hsh2 _ u W' hW'
  clear hu h8 hsh1 hsh2
  go_simp
  refine hK' _ ?_
  clear hK' K
  refine ordv_nil ?_
  intro w4 hw4
  obtain ⟨c6, _, _, cf, _⟩ := hK _ w4 hw4
  obtain ⟨u, f1, f2, f3, f4, f5, f6⟩ := HF9.out _ _ _ w4 hw4
  have G1 : Hid _ := f1
  have G2 : Hid _ := f2
  have G3 : Hid _ := f3
  have G4 : Hid _ := f4
  have G5 : Hid _ := f5
  have G6 : Hid (Tch (fun i => i = b ∨ ob lo = some i) w (w4.setCell ⟨b, 6, none⟩ (.slice o (n + 1) oc))) := f6
  clear hK hw4 HF9 f1 f2 f3 f4 f5 f6
  go_wp2_with fail
  go_end0
  exact ⟨rfl, ⟨u, o, oc, G1.out, G2.out, G3.out, G4.out, G5.out⟩, G6.out⟩
end Go.Proofs.Ytkcmpipipelgoaa
