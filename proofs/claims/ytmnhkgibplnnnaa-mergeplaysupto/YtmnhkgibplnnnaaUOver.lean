import Derived.Test.YtmnhkgibplnnnaaUOwn
import Derived.Deep.CutBlock
import Derived.Deep.DeepCutAuto
/- A list as a row: over, and what it makes. -/
namespace Go.Proofs.Ytmnhkgibplnnnaa
open Go.RowKit Go

def kc6 (c : Rc) : List Value := [.int .i64 c.l, .int .i64 c.x, .int .i64 c.k, .int .i64 c.t, .slice c.oa c.ol c.oc, .slice c.na c.nl c.nc]
def kcl (u : List Rc) : List Value := u.flatMap kc6
theorem kcl_len (u : List Rc) : (kcl u).length = u.length * 6 := by
  induction u with
  | nil => rfl
  | cons a u ih => show (kc6 a ++ kcl u).length = _; rw [List.length_append, ih, List.length_cons]; show 6 + _ = _; omega
/-- A list of changes for reading. -/
structure RL (D : Rc → List Value × List Value) (M : Nat) (w : World) (ao : Option Addr) (cp : Nat) (u : List Rc) : Prop where
  len : u.length ≤ cp
  cap : cp ≤ 9223372036854775807
  at' : u ≠ [] → ∃ g o, g < M ∧ ao = some ⟨g, o, none⟩ ∧ ∀ j v, (kcl u)[j]? = some v → w.cell? ⟨g, o + j, none⟩ = some v
  rd : ∀ c ∈ u, RdR w c.oa c.ol c.oc (D c).1 ∧ RdR w c.na c.nl c.nc (D c).2 ∧ (∀ a, c.oa = some a → 0 < c.ol → a.block < M) ∧ (∀ a, c.na = some a → 0 < c.nl → a.block < M)
/-- A change's rows, for reading, below M. -/
theorem RL.tch {D : Rc → List Value × List Value} {M : Nat} {S : Nat → Prop} {w w' : World} {ao : Option Addr} {cp : Nat} {u : List Rc} (h : RL D M w ao cp u) (t : Tch S w w') (hS : ∀ g, g < M → ¬ S g) : RL D M w' ao cp u :=
  ⟨h.len, h.cap, fun hu => by
    obtain ⟨g, o, hM, e, hc⟩ := h.at' hu
    exact ⟨g, o, hM, e, fun j v hv => (t.cell (p := ⟨g, o + j, none⟩) (cell_lt (hc j v hv)) (hS g hM)).trans (hc j v hv)⟩, fun c hc => by
    obtain ⟨r1, r2, r3, r4⟩ := h.rd c hc
    exact ⟨r1.tch t (fun a e z => hS _ (r3 a e z)), r2.tch t (fun a e z => hS _ (r4 a e z)), r3, r4⟩⟩
theorem RL.no {D : Rc → List Value × List Value} {M : Nat} {w w' : World} {ao : Option Addr} {cp : Nat} {u : List Rc} (h : RL D M w ao cp u) (t : Tch (fun _ => False) w w') : RL D M w' ao cp u := h.tch t (fun _ _ h => h)
theorem RL.head {D : Rc → List Value × List Value} {M : Nat} {w : World} {ao : Option Addr} {cp : Nat} {c : Rc} {u : List Rc} (h : RL D M w ao cp (c :: u)) : ∃ g o, g < M ∧ ao = some ⟨g, o, none⟩ ∧ w.cell? ⟨g, o, none⟩ = some (.int .i64 c.l) ∧ w.cell? ⟨g, o + 1, none⟩ = some (.int .i64 c.x) ∧ w.cell? ⟨g, o + 2, none⟩ = some (.int .i64 c.k) ∧ w.cell? ⟨g, o + 3, none⟩ = some (.int .i64 c.t) ∧ w.cell? ⟨g, o + 4, none⟩ = some (.slice c.oa c.ol c.oc) ∧ w.cell? ⟨g, o + 5, none⟩ = some (.slice c.na c.nl c.nc) ∧
    ∀ S W, Tch S w W → (∀ g, g < M → ¬ S g) → RL D M W (if cp = 1 then some ⟨g, o, none⟩ else some ⟨g, o + 6, none⟩) (cp - 1) u := by
  obtain ⟨g, o, hM, e, hc⟩ := h.at' (by simp)
  have hl := h.len
  have hcp := h.cap
  simp only [List.length_cons] at hl
  have k : ∀ j v, (kc6 c)[j]? = some v → w.cell? ⟨g, o + j, none⟩ = some v := fun j v hv => by
    refine hc j v ?_
    show (kc6 c ++ kcl u)[j]? = _
    rw [List.getElem?_append_left (List.getElem?_eq_some_iff.1 hv).1]; exact hv
  refine ⟨g, o, hM, e, k 0 _ rfl, k 1 _ rfl, k 2 _ rfl, k 3 _ rfl, k 4 _ rfl, k 5 _ rfl, fun S W hW hS => ⟨by omega, by omega, fun hu => ?_, fun d hd => by
    obtain ⟨r1, r2, r3, r4⟩ := h.rd d (List.mem_cons_of_mem _ hd)
    exact ⟨r1.tch hW (fun a e z => hS _ (r3 a e z)), r2.tch hW (fun a e z => hS _ (r4 a e z)), r3, r4⟩⟩⟩
  have hu0 : 0 < u.length := List.length_pos_iff.2 hu
  refine ⟨g, o + 6, hM, by rw [if_neg (by omega)], fun j v hv => ?_⟩
  have := hc (6 + j) v (by
    show (kc6 c ++ kcl u)[6 + j]? = _
    rw [List.getElem?_append_right (by show 6 ≤ _; omega)]
    rw [show 6 + j - (kc6 c).length = j by show 6 + j - 6 = j; omega]; exact hv)
  rw [Nat.add_assoc]; exact (hW.cell (p := ⟨g, o + (6 + j), none⟩) (cell_lt this) (hS g hM)).trans this
def fV (b : Nat) : Value := .func (.func 28) #[] #[.pointer (some ⟨b, 0, none⟩)]
set_option maxRecDepth 100000 in
theorem over_any (v : Value) (ao : Option Addr) (n c : Nat) (hv : v = .slice ao n c) (w : World) : Calls Try.prog 23 #[v] w fun e w' => e = .returned (fV w.heap.size) ∧ w' = w.alloc (.cells #[v] 28) := by
  subst hv
  have hmf : ∀ (fn : Fn) (first cap : Array Value) (w : World), (Instr.makeFunc fn first cap).run Try.prog w = .ok (.func fn first cap) w := fun _ _ _ _ => rfl
  go_enter Try.func23, Try.ntmps23
  go_wp2
  go_ret
  exact ⟨rfl, rfl⟩
theorem set6 {w : World} {B : Nat} {a b c d e f : Value} {t : TypeId} (h : w.heap[B]? = some (.cells #[a, b, c, d, e, f] t (0, 0))) (a' b' c' d' e' f' : Value) :
    ((((((w.setCell ⟨B, 0, none⟩ a').setCell ⟨B, 1, none⟩ b').setCell ⟨B, 2, none⟩ c').setCell ⟨B, 3, none⟩ d').setCell ⟨B, 4, none⟩ e').setCell ⟨B, 5, none⟩ f').heap[B]? = some (.cells #[a', b', c', d', e', f'] t (0, 0)) := by
  rw [blk_set (blk_set (blk_set (blk_set (blk_set (blk_set h _) _) _) _) _) _]; rfl
theorem tch6 (w : World) (B : Nat) (a' b' c' d' e' f' : Value) : Tch (fun i => i = B) w ((((((w.setCell ⟨B, 0, none⟩ a').setCell ⟨B, 1, none⟩ b').setCell ⟨B, 2, none⟩ c').setCell ⟨B, 3, none⟩ d').setCell ⟨B, 4, none⟩ e').setCell ⟨B, 5, none⟩ f') :=
  (((((Tch.setCell (fun i => i = B) _ _ _ rfl).setCellR _ _ rfl).setCellR _ _ rfl).setCellR _ _ rfl).setCellR _ _ rfl).setCellR _ _ rfl
theorem get6 {w : World} {B : Nat} {a b c d e f : Value} {t : TypeId} {fr : Nat × Nat} (h : w.heap[B]? = some (.cells #[a, b, c, d, e, f] t fr)) :
    w.cell? ⟨B, 0, none⟩ = some a ∧ w.cell? ⟨B, 1, none⟩ = some b ∧ w.cell? ⟨B, 2, none⟩ = some c ∧ w.cell? ⟨B, 3, none⟩ = some d ∧ w.cell? ⟨B, 4, none⟩ = some e ∧ w.cell? ⟨B, 5, none⟩ = some f :=
  ⟨blk_cell h 0, blk_cell h 1, blk_cell h 2, blk_cell h 3, blk_cell h 4, blk_cell h 5⟩
theorem rs_o1 : Try.f28.results = #[.cell 1 27, .tmp 2] := by kernel_rfl
def zV : Value := .agg #[.int .i64 0, .int .i64 0, .int .i64 0, .int .i64 0, .slice none 0 0, .slice none 0 0]
set_option maxHeartbeats 1000000 in
set_option maxRecDepth 100000 in
theorem over1_nil (b : Nat) (ao : Option Addr) (cp : Nat) (w : World) (h : w.heap[b]? = some (.cells #[.slice ao 0 cp] 28 (0, 0))) :
    Calls Try.prog 28 #[.pointer (some ⟨b, 0, none⟩)] w fun e w' => e = .returned (.tuple #[zV, .bool false]) ∧ Tch (fun _ => False) w w' := by
  obtain ⟨w0, hw0⟩ : ∃ w0, w0 = w.alloc (.cells #[.int .i64 0, .int .i64 0, .int .i64 0, .int .i64 0, .slice none 0 0, .slice none 0 0] 27) := ⟨_, rfl⟩
  have t0 : Tch (fun _ => False) w w0 := by rw [hw0]; exact Tch.alloc _ _ _
  have b0 : w0.heap[w.heap.size]? = some (.cells #[.int .i64 0, .int .i64 0, .int .i64 0, .int .i64 0, .slice none 0 0, .slice none 0 0] 27 (0, 0)) := by rw [hw0]; exact alloc_new _ _
  have c0 : w0.cell? ⟨b, 0, none⟩ = some (.slice ao 0 cp) := by rw [blk_cell ((t0.block b (blk_lt h) (fun h => h)).trans h)]; rfl
  obtain ⟨e0, e1, e2, e3, e4, e5⟩ := get6 b0
  have f0 := blk_frozen b0
  have HB : Hid _ := And.intro b0 t0
  have HW : Hid (w0 = _) := hw0
  clear t0 b0 h hw0
  go_enter Try.func28, Try.ntmps28
  iterate 14 (first | go_values | go_skip | go_guarded | go_step | go_upon | go_in | go_back)
  rw [← HW.out]
  go_wp2
  refine bodyPost_ret (res_ch2 rs_o1 rfl rfl (set6 HB.out.1 _ _ _ _ _ _)) rfl ?_
  exact ⟨rfl, HB.out.2.trans (tch6 _ _ _ _ _ _ _ _) (fun i hi e => by omega)⟩
set_option maxHeartbeats 4000000 in
set_option maxRecDepth 100000 in
theorem over1_cons (D : Rc → List Value × List Value) (M : Nat) (b : Nat) (ao : Option Addr) (cp : Nat) (c : Rc) (u : List Rc) (w : World) (h : w.heap[b]? = some (.cells #[.slice ao (u.length + 1) cp] 28 (0, 0))) (hl : RL D M w ao cp (c :: u)) (hMb : M ≤ b) :
    Calls Try.prog 28 #[.pointer (some ⟨b, 0, none⟩)] w fun e w' => e = .returned (.tuple #[rcV c, .bool true]) ∧ Tch (fun i => i = b) w w' ∧ ∃ ao' cp', w'.heap[b]? = some (.cells #[.slice ao' u.length cp'] 28 (0, 0)) ∧ RL D M w' ao' cp' u := by
  obtain ⟨g, o, hgM, rfl, l0, l1, l2, l3, l4, l5, hrl⟩ := hl.head
  have hlen := hl.len
  have hcap := hl.cap
  simp only [List.length_cons] at hlen
  have hgb : g ≠ b := by omega
  obtain ⟨w0, hw0⟩ : ∃ w0, w0 = w.alloc (.cells #[.int .i64 0, .int .i64 0, .int .i64 0, .int .i64 0, .slice none 0 0, .slice none 0 0] 27) := ⟨_, rfl⟩
  obtain ⟨w1, hw1⟩ : ∃ w1, w1 = w0.alloc (.cells #[.int .i64 c.l, .int .i64 c.x, .int .i64 c.k, .int .i64 c.t, .slice c.oa c.ol c.oc, .slice c.na c.nl c.nc] 27) := ⟨_, rfl⟩
  have hz0 : w0.heap.size = w.heap.size + 1 := by rw [hw0, World.size_alloc]
  have t0 : Tch (fun _ => False) w w0 := by rw [hw0]; exact Tch.alloc _ _ _
  have t1 : Tch (fun _ => False) w w1 := by rw [hw1]; exact t0.allocR _
  have b0 : w1.heap[w.heap.size]? = some (.cells #[.int .i64 0, .int .i64 0, .int .i64 0, .int .i64 0, .slice none 0 0, .slice none 0 0] 27 (0, 0)) := by rw [hw1, (Tch.alloc (fun _ => False) w0 _).block _ (by omega) (fun h => h), hw0]; exact alloc_new _ _
  have b1 : w1.heap[w.heap.size + 1]? = some (.cells #[.int .i64 c.l, .int .i64 c.x, .int .i64 c.k, .int .i64 c.t, .slice c.oa c.ol c.oc, .slice c.na c.nl c.nc] 27 (0, 0)) := by rw [hw1, ← hz0]; exact alloc_new _ _
  have hbl := blk_lt h
  have hgl : g < w.heap.size := cell_lt l0
  have c0 : w0.cell? ⟨b, 0, none⟩ = some (.slice (some ⟨g, o, none⟩) (u.length + 1) cp) := by rw [blk_cell ((t0.block b hbl (fun h => h)).trans h)]; rfl
  have m0 := (t0.cell (p := ⟨g, o, none⟩) hgl (fun h => h)).trans l0
  have m1 := (t0.cell (p := ⟨g, o + 1, none⟩) hgl (fun h => h)).trans l1
  have m2 := (t0.cell (p := ⟨g, o + 2, none⟩) hgl (fun h => h)).trans l2
  have m3 := (t0.cell (p := ⟨g, o + 3, none⟩) hgl (fun h => h)).trans l3
  have m4 := (t0.cell (p := ⟨g, o + 4, none⟩) hgl (fun h => h)).trans l4
  have m5 := (t0.cell (p := ⟨g, o + 5, none⟩) hgl (fun h => h)).trans l5
  have hb1 := (t1.block b hbl (fun h => h)).trans h
  obtain ⟨A, hA⟩ : ∃ A : Option Addr, A = if cp = 1 then some ⟨g, o, none⟩ else some ⟨g, o + 6, none⟩ := ⟨_, rfl⟩
  obtain ⟨n, hn⟩ : ∃ n, n = u.length := ⟨_, rfl⟩
  obtain ⟨w2, hw2⟩ : ∃ w2, w2 = w1.setCell ⟨b, 0, none⟩ (.slice A n (cp - 1)) := ⟨_, rfl⟩
  have t2 : Tch (fun i => i = b) w1 w2 := by rw [hw2]; exact Tch.setCell (fun i => i = b) _ _ _ rfl
  have k1 : w1.cell? ⟨b, 0, none⟩ = some (.slice (some ⟨g, o, none⟩) (n + 1) cp) := by rw [blk_cell hb1, hn]; rfl
  have fb1 := blk_frozen hb1 0
  have b02 := (t2.block w.heap.size (blk_lt b0) (by omega)).trans b0
  have b12 := (t2.block (w.heap.size + 1) (blk_lt b1) (by omega)).trans b1
  obtain ⟨e0, e1, e2, e3, e4, e5⟩ := get6 b02
  obtain ⟨d0, d1, d2, d3, d4, d5⟩ := get6 b12
  have f0 := blk_frozen b02
  rw [← hn] at c0
  have HF : Hid (∀ W, Tch (fun i => i = w.heap.size) w2 W → Tch (fun i => i = b) w W ∧ ∃ ao' cp', W.heap[b]? = some (.cells #[.slice ao' u.length cp'] 28 (0, 0)) ∧ RL D M W ao' cp' u) := fun W t => by
    have tt : Tch (fun i => i = b) w W := ((t1.mono (fun _ _ h => h.elim)).trans' t2).trans t (fun i hi e => by omega)
    refine ⟨tt, A, cp - 1, ?_, ?_⟩
    · rw [t.block b (by rw [hw2]; simp [World.setCell]; exact blk_lt hb1) (by omega), hw2, blk_set hb1, ← hn]; rfl
    · rw [hA]; exact hrl _ W tt (fun i hi e => by omega)
  have HW1 : Hid (w1 = _) := hw1
  have HW0 : Hid (w0 = _) := hw0
  have HW2 : Hid (w2 = _) := hw2
  have HB : Hid _ := b02
  have HA : Hid (A = _) := hA
  have hn1 : n + 1 ≤ cp := by omega
  clear h hl l0 l1 l2 l3 l4 l5 hrl hlen hw0 hw1 hw2 t0 t1 t2 b0 b1 b02 b12 hb1 hn hA
  unfold rcV
  go_enter Try.func28, Try.ntmps28
  iterate 14 (first | go_values | go_skip | go_guarded | go_step | go_upon | go_in | go_back)
  rw [← HW0.out]
  go_upto_region 4 with (fail)
  rw [← HW1.out]
  clear m0 m1 m2 m3 m4 m5 c0
  go_upto_region 5 with (fail)
  rw [← HA.out, ← HW2.out]
  clear k1 fb1
  go_wp2
  refine bodyPost_ret (res_ch2 rs_o1 rfl rfl (set6 HB.out _ _ _ _ _ _)) rfl ?_
  exact ⟨rfl, HF.out _ (tch6 _ _ _ _ _ _ _ _)⟩
end Go.Proofs.Ytmnhkgibplnnnaa
