import Derived.Test.YtjiblajnfnmjnaaGreatDoorKP1
import Derived.Test.YtjiblajnfnmjnaaGreatDoorRW2
import Derived.Test.YtjiblajnfnmjnaaGreatDoorCDel
set_option maxHeartbeats 8000000
set_option maxRecDepth 100000
namespace Go.Proofs.YtjiblajnfnmjnaaGreatDoor.C
open Go.RowKit Go Go.Sort
def verbCells : List Value := [.string ⟨#[]⟩, .string ⟨#[98, 101, 103, 105, 110]⟩, .string ⟨#[112, 97, 114, 116]⟩, .string ⟨#[105, 110, 115, 101, 114, 116]⟩, .string ⟨#[117, 112, 100, 97, 116, 101]⟩, .string ⟨#[100, 101, 108, 101, 116, 101]⟩, .string ⟨#[114, 101, 108, 101, 97, 115, 101]⟩, .string ⟨#[98, 97, 99, 107]⟩, .string ⟨#[99, 111, 109, 109, 105, 116]⟩, .string ⟨#[97, 98, 111, 114, 116]⟩, .string ⟨#[112, 114, 101, 112, 97, 114, 101]⟩, .string ⟨#[99, 114, 101, 97, 116, 101]⟩, .string ⟨#[100, 114, 111, 112]⟩, .string ⟨#[119, 105, 100, 101, 110]⟩, .string ⟨#[101, 109, 112, 116, 121]⟩, .string ⟨#[99, 104, 101, 99, 107, 112, 111, 105, 110, 116]⟩]
def HVB (w : World) : Prop := ∀ j u, verbCells[j]? = some u → w.cell? ⟨0, j, none⟩ = some u
theorem HVB.no {w w' : World} (h : HVB w) (t : Tch (fun _ => False) w w') : HVB w' := fun j u hu => (t.cell (p := ⟨_, _, none⟩) (cell_lt (h j u hu)) (fun h => h)).trans (h j u hu)
def tableB : ByteArray := ⟨#[116, 97, 98, 108, 101]⟩
def itoB (n : Int) : ByteArray := ⟨(Lib.itoa n).toArray⟩
theorem words_3 (r : Rc) (s : Sk) (w : World) (f : Val → ByteArray) (hv : HP w) (hx : 0 ≤ r.x ∧ r.x ≤ 2147483648) (ht : 0 ≤ r.t ∧ r.t ≤ 2147483648) (hP : ∀ v ∈ r.n, ∀ W, Tch (fun _ => False) w W → Calls Tryz.prog 115 #[vA v.k v.n v.s] W fun x w' => x = .returned (.string (f v)) ∧ Tch (fun _ => False) W w') (hr : SL w s.no (vcl r.n)) (hl : r.n.length ≤ 8) (hj : (joinC (r.n.map f)).length ≤ 1000000) :
    Calls Tryz.prog 49 #[bV 3 r s] w fun x w' => (∃ g, x = .returned (.slice (some ⟨g, 0, none⟩) 4 4) ∧ ∀ j y, [itoB r.x, tableB, itoB r.t, brk (r.n.map f)][j]? = some y → w'.cell? ⟨g, 0 + j, none⟩ = some (.string y)) ∧ Tch (fun _ => False) w w' := by
  have a1 : ∀ v W, (Instr.typeAssert (.iface 132 v) 71 128 true).run Tryz.prog W = .ok (.tuple #[.agg #[.int .i64 0], .bool false]) W := fun v W => by kernel_rfl
  have a2 : ∀ v W, (Instr.typeAssert (.iface 132 v) 71 130 true).run Tryz.prog W = .ok (.tuple #[.agg #[.int .i64 0, .int .i64 0], .bool false]) W := fun v W => by kernel_rfl
  have a3 : ∀ v W, (Instr.typeAssert (.iface 132 v) 71 132 true).run Tryz.prog W = .ok (.tuple #[v, .bool true]) W := fun v W => by kernel_rfl
  obtain ⟨w0, hw0⟩ : ∃ w0, w0 = w.alloc (.cells #[.int .i64 r.x, .int .i64 r.t, .slice s.no r.n.length s.nc] 132) := ⟨_, rfl⟩
  have t0 : Tch (fun _ => False) w w0 := by rw [hw0]; exact Tch.alloc _ _ _
  have b0 : w0.heap[w.heap.size]? = some (.cells #[.int .i64 r.x, .int .i64 r.t, .slice s.no r.n.length s.nc] 132 (0, 0)) := by rw [hw0]; exact heap_new w _
  have c1 : ∀ d os, Calls Tryz.prog 88 #[.int .i64 r.x] (grow (redrawn w0 d) os) fun e w'' => e = .returned (.string (itoB r.x)) ∧ ∃ p : Regrown, w'' = grow (redrawn w0 p.d) p.os := regrown_calls (fun W t => digits6 r.x (by omega) W (hv.no (t0.trans' t)))
  have c2 : ∀ d os, Calls Tryz.prog 88 #[.int .i64 r.t] (grow (redrawn w0 d) os) fun e w'' => e = .returned (.string (itoB r.t)) ∧ ∃ p : Regrown, w'' = grow (redrawn w0 p.d) p.os := regrown_calls (fun W t => digits6 r.t (by omega) W (hv.no (t0.trans' t)))
  have c3 : ∀ d os, Calls Tryz.prog 89 #[.slice s.no r.n.length s.nc] (grow (redrawn w0 d) os) fun e w'' => e = .returned (.string (brk (r.n.map f))) ∧ ∃ p : Regrown, w'' = grow (redrawn w0 p.d) p.os := regrown_calls (fun W t => printRow_any r.n s.no s.nc W f (fun v hv W' t' => hP v hv W' ((t0.trans' t).trans' t')) (hr.no (t0.trans' t)) hl hj)
  have y0 : w0.cell? ⟨w.heap.size, 0, none⟩ = some (.int .i64 r.x) := blk_cell b0 0
  have y1 : w0.cell? ⟨w.heap.size, 1, none⟩ = some (.int .i64 r.t) := blk_cell b0 1
  have y2 : w0.cell? ⟨w.heap.size, 2, none⟩ = some (.slice s.no r.n.length s.nc) := blk_cell b0 2
  have k0 := cell_regrown y0
  have k1 := cell_regrown y1
  have k2 := cell_regrown y2
  have HT0 : Hid (Tch (fun _ => False) w w0) := t0
  have HW0 : Hid (w0 = w.alloc (.cells #[.int .i64 r.x, .int .i64 r.t, .slice s.no r.n.length s.nc] 132)) := hw0
  obtain ⟨X, hX⟩ : ∃ X, X = itoB r.x := ⟨_, rfl⟩
  obtain ⟨T, hT⟩ : ∃ T, T = itoB r.t := ⟨_, rfl⟩
  obtain ⟨B, hB⟩ : ∃ B, B = brk (r.n.map f) := ⟨_, rfl⟩
  rw [← hX] at c1 ⊢
  rw [← hT] at c2 ⊢
  rw [← hB] at c3 ⊢
  clear hw0 t0 b0 hP hr hl hj hv hX hT hB
  unfold bV
  go_enter Tryz.func49, Tryz.ntmps49
  go_wp2_with fail
  rw [← HW0.out]
  refine wp_region_below_tail 9 (by kernel_rfl) (by kernel_rfl) ?_
  simp only [List.take_succ_cons, List.take_zero, List.drop_succ_cons, List.drop_zero]
  quiet_step (fail)
  quiet_step (fail)
  quiet_step ((go_at_call 88; exact c1 _ _))
  quiet_step (fail)
  quiet_step (fail)
  quiet_step ((go_at_call 88; exact c2 _ _))
  quiet_step (fail)
  quiet_step (fail)
  quiet_step ((go_at_call 89; exact c3 _ _))
  refine wpQuiet_nil ?_
  rintro w1 ⟨p, rfl⟩
  have HE : Hid (Tch (fun _ => False) w (grow (redrawn w0 p.d) p.os)) := HT0.out.trans' (Tch.regrown w0 p.d p.os)
  obtain ⟨W1, hW1⟩ : ∃ W1, W1 = grow (redrawn w0 p.d) p.os := ⟨_, rfl⟩
  rw [← hW1] at HE ⊢
  clear hW1 k0 k1 k2 c1 c2 c3 y0 y1 y2
  go_wp2_with fail
  go_ret
  refine ⟨⟨W1.heap.size, rfl, fun j y hy => ?_⟩, HE.out.allocR _⟩
  have hb := heap_new W1 (.cells #[.string X, .string ⟨#[116, 97, 98, 108, 101]⟩, .string T, .string B] 9)
  rw [Nat.zero_add, blk_cell hb]
  match j, hy with
  | 0, hy => injection hy with hy; subst hy; rfl
  | 1, hy => injection hy with hy; subst hy; rfl
  | 2, hy => injection hy with hy; subst hy; rfl
  | 3, hy => injection hy with hy; subst hy; rfl
  | (j + 4), hy => simp at hy
def insB : ByteArray := ⟨#[105, 110, 115, 101, 114, 116]⟩
def spB : ByteArray := ⟨#[32]⟩
def joinS (xs : List ByteArray) : ByteArray := ⟨(Lib.join (xs.map (·.data.toList)) spB.data.toList).toArray⟩
theorem print_3 (r : Rc) (s : Sk) (F : Nat → Prop) (w : World) (f : Val → ByteArray) (hg : HE w) (hvb : HVB w) (hv : HP w) (h : RW w F r s) (hk : r.k = 3) (hr : rightC 3 r) (hc : cutC 3 r = r) (hP : ∀ v ∈ r.n, ∀ W, Tch (fun _ => False) w W → Calls Tryz.prog 115 #[vA v.k v.n v.s] W fun x w' => x = .returned (.string (f v)) ∧ Tch (fun _ => False) W w') (hl : r.n.length ≤ 8) (hj : (joinC (r.n.map f)).length ≤ 1000000) (hj2 : (joinS [itoB r.x, tableB, itoB r.t, brk (r.n.map f)]).size ≤ 10000000) :
    Calls Tryz.prog 19 #[rV r s] w fun x w' => x = .returned (.string (insB ++ spB ++ joinS [itoB r.x, tableB, itoB r.t, brk (r.n.map f)])) ∧ Tch (fun _ => False) w w' := by
  have g0 : rtN r.x ∧ rtN r.t ∧ rtRow r.n := hr
  obtain ⟨g1, g2, -⟩ := g0
  unfold rtN at g1 g2
  obtain ⟨w0, hw0⟩ : ∃ w0, w0 = w.alloc (.cells #[.int .i64 r.k, .int .i64 r.x, .int .i64 r.p, .int .i64 r.t, .slice s.oo r.o.length s.oc, .slice s.no r.n.length s.nc, .string r.nm, .int .i64 r.org, .int .i64 r.tb.id, .int .i64 r.tb.ver, .string r.tb.nm, .slice s.co r.tb.cols.length s.cc, .int .i64 r.tb.key, .slice s.to s.P.length s.tc] 37) := ⟨_, rfl⟩
  have t0 : Tch (fun _ => False) w w0 := by rw [hw0]; exact Tch.alloc _ _ _
  have b0 : w0.heap[w.heap.size]? = some (.cells #[.int .i64 r.k, .int .i64 r.x, .int .i64 r.p, .int .i64 r.t, .slice s.oo r.o.length s.oc, .slice s.no r.n.length s.nc, .string r.nm, .int .i64 r.org, .int .i64 r.tb.id, .int .i64 r.tb.ver, .string r.tb.nm, .slice s.co r.tb.cols.length s.cc, .int .i64 r.tb.key, .slice s.to s.P.length s.tc] 37 (0, 0)) := by rw [hw0]; exact heap_new w _
  have q1 := rightBody_3 r s F w0 (hg.tch t0 (fun h => h)) (h.no t0) (by rw [hk]; rfl) hr hc
  rw [hw0] at q1
  have HW0 : Hid (w0 = w.alloc (.cells #[.int .i64 r.k, .int .i64 r.x, .int .i64 r.p, .int .i64 r.t, .slice s.oo r.o.length s.oc, .slice s.no r.n.length s.nc, .string r.nm, .int .i64 r.org, .int .i64 r.tb.id, .int .i64 r.tb.ver, .string r.tb.nm, .slice s.co r.tb.cols.length s.cc, .int .i64 r.tb.key, .slice s.to s.P.length s.tc] 37)) := hw0
  have HWO : Hid (∀ W, Tch (fun _ => False) w W → Calls Tryz.prog 49 #[bV 3 r s] W fun x w' => (∃ g, x = .returned (.slice (some ⟨g, 0, none⟩) 4 4) ∧ ∀ j y, [itoB r.x, tableB, itoB r.t, brk (r.n.map f)][j]? = some y → w'.cell? ⟨g, 0 + j, none⟩ = some (.string y)) ∧ Tch (fun _ => False) W w') := fun W t => words_3 r s W f (hv.no t) (by omega) (by omega) (fun v h W' t' => hP v h W' (t.trans' t')) (h.no t).n hl hj
  obtain ⟨xs, hxs⟩ : ∃ xs, xs = [itoB r.x, tableB, itoB r.t, brk (r.n.map f)] := ⟨_, rfl⟩
  have hxl : xs.length = 4 := by rw [hxs]; rfl
  have HJ : Hid (∀ W g, (∀ j y, xs[j]? = some y → W.cell? ⟨g, 0 + j, none⟩ = some (.string y)) → g < W.heap.size → Calls Tryz.prog 48 #[.slice (some ⟨g, 0, none⟩) 4 4, .string ⟨#[32]⟩] W fun e w' => e = .returned (.string (joinS xs)) ∧ Tch (fun _ => False) W w') := fun W g hc hg => by
    have := join6 g 0 4 xs spB W hc hg (by omega) (by omega) (by
      rw [← hxs] at hj2
      have e : (joinS xs).size = (Lib.join (xs.map (·.data.toList)) spB.data.toList).length := by show (_ : Array UInt8).size = _; simp
      omega)
    rw [hxl] at this
    exact this
  rw [← hxs] at HWO hj2 ⊢
  have HVW : Hid (∀ W, Tch (fun _ => False) w W → W.cell? ⟨0, 3, none⟩ = some (.string ⟨#[105, 110, 115, 101, 114, 116]⟩)) := fun W t => hvb.no t 3 _ rfl
  have HX : Hid (∃ y, xs[0]? = some y) := ⟨_, by rw [hxs]; rfl⟩
  generalize hBV : bV 3 r s = BV at q1 HWO
  have hBI : ∃ T v, BV = .iface T v := ⟨_, _, hBV.symm⟩
  obtain ⟨BT, BX, rfl⟩ := hBI
  have HK3 : Hid (r.k = 3) := hk
  have hsz : (joinS xs).size ≤ 10000000 := hj2
  clear h hg hvb hv hr hc hP hl hj hw0 hxs hxl hBV hj2 hk
  go_enter Tryz.func19, Tryz.ntmps19
  go_wp2_with fail
  refine q1.mono ?_
  rintro x w1 ⟨rfl, t1⟩
  rw [← HW0.out] at t1
  have T1 : Tch (fun _ => False) w w1 := t0.trans' t1
  have b1 : w1.heap[w.heap.size]? = some (.cells #[.int .i64 r.k, .int .i64 r.x, .int .i64 r.p, .int .i64 r.t, .slice s.oo r.o.length s.oc, .slice s.no r.n.length s.nc, .string r.nm, .int .i64 r.org, .int .i64 r.tb.id, .int .i64 r.tb.ver, .string r.tb.nm, .slice s.co r.tb.cols.length s.cc, .int .i64 r.tb.key, .slice s.to s.P.length s.tc] 37 (0, 0)) := (t1.block _ (blk_lt b0) (fun h => h)).trans b0
  have z1 : w1.cell? ⟨w.heap.size, 0, none⟩ = some (.int .i64 3) := by rw [← HK3.out]; exact blk_cell b1 0
  have hlt := blk_lt b1
  obtain ⟨C, hC⟩ : ∃ C : List Value → World → Prop, C = fun st W => match st with
    | [] => Tch (fun _ => False) w1 W
    | [y] => (∃ g, y = .slice (some ⟨g, 0, none⟩) 4 4 ∧ (∀ j y, xs[j]? = some y → W.cell? ⟨g, 0 + j, none⟩ = some (.string y)) ∧ g < W.heap.size) ∧ Tch (fun _ => False) w1 W
    | [_, z] => z = .string (joinS xs) ∧ Tch (fun _ => False) w1 W
    | _ => False := ⟨_, rfl⟩
  have h0' : C [] w1.drew := by rw [hC]; exact (Tch.refl _ _).drew
  have hT : ∀ s W, C s W → Tch (fun _ => False) w1 W := fun s W h => by
    rw [hC] at h
    match s, h with
    | [], h => exact h
    | [y], h => exact h.2
    | [_, z], h => exact h.2
  have hK : ∀ s W, C s W → W.cell? ⟨w.heap.size, 0, none⟩ = some (.int .i64 3) ∧ W.cell? ⟨0, 3, none⟩ = some (.string ⟨#[105, 110, 115, 101, 114, 116]⟩) := fun s W h =>
    ⟨((hT s W h).cell (p := ⟨_, _, none⟩) hlt (fun h => h)).trans z1, HVW.out W (T1.trans' (hT s W h))⟩
  have h6 : ∀ W, C [] W → Calls Tryz.prog 49 #[.iface BT BX] W fun x w' => ∃ g, x = .returned (.slice (some ⟨g, 0, none⟩) 4 4) ∧ C [.slice (some ⟨g, 0, none⟩) 4 4] w' := fun W h => by
    have tW := hT _ _ h
    refine (HWO.out W (T1.trans' tW)).mono ?_
    rintro x w' ⟨⟨g, rfl, hc⟩, t⟩
    obtain ⟨y, hy⟩ := HX.out
    refine ⟨g, rfl, ?_⟩
    rw [hC]
    exact ⟨⟨g, rfl, hc, cell_lt (hc 0 y hy)⟩, tW.trans' t⟩
  have h7 : ∀ g W, C [.slice (some ⟨g, 0, none⟩) 4 4] W → Calls Tryz.prog 48 #[.slice (some ⟨g, 0, none⟩) 4 4, .string ⟨#[32]⟩] W fun x w' => x = .returned (.string (joinS xs)) ∧ C [.slice (some ⟨g, 0, none⟩) 4 4, .string (joinS xs)] w' := fun g W h => by
    have tW := hT _ _ h
    rw [hC] at h
    obtain ⟨⟨g', e, hc, hg⟩, _⟩ := h
    have e' : g = g' := by simpa using e
    subst e'
    refine (HJ.out W g hc hg).mono ?_
    rintro x w' ⟨rfl, t⟩
    refine ⟨rfl, ?_⟩
    rw [hC]
    exact ⟨rfl, tW.trans' t⟩
  have hs6 : ∀ y W, C [y] W → ∃ g, y = .slice (some ⟨g, 0, none⟩) 4 4 := fun y W h => by rw [hC] at h; obtain ⟨⟨g, e, _⟩, _⟩ := h; exact ⟨g, e⟩
  have hs7 : ∀ y z W, C [y, z] W → z = .string (joinS xs) := fun y z W h => by rw [hC] at h; exact h.1
  have HTT : Hid _ := hT
  obtain ⟨JS, hJS⟩ : ∃ JS, JS = joinS xs := ⟨_, rfl⟩
  have HJS : Hid (JS = joinS xs) := hJS
  rw [← hJS] at h7 hs7 hsz
  clear hJS
  have HT1 : Hid (Tch (fun _ => False) w w1) := T1
  clear hC hT q1 t1 T1 b0 b1 z1 t0 hlt HWO HJ HVW HX
  go_wp2_with fail
  refine wp_region_ordv [6, 7] C 8 [0, 1, 2, 3, 4, 5, 6, 7] (by kernel_rfl) (by kernel_rfl) h0' ?_
  clear h0'
  refine ordv_read rfl (by go_simp) (by rfl) ?_
  apply Exists.intro
  refine ⟨fun s' W hW b K Q hK' => ?_, fun K hK' => ?_⟩
  · obtain ⟨y0, y1⟩ := hK _ W hW
    go_simp
    exact hK' W hW
  go_simp
  refine hK' _ ?_
  clear hK' K
  refine ordv_read rfl (by go_simp) (by rfl) ?_
  apply Exists.intro
  refine ⟨fun s' W hW b K Q hK' => ?_, fun K hK' => ?_⟩
  · obtain ⟨y0, y1⟩ := hK _ W hW
    go_simp
    exact hK' W hW
  go_simp
  refine hK' _ ?_
  clear hK' K
  refine ordv_read rfl (by go_simp) (by rfl) ?_
  apply Exists.intro
  refine ⟨fun s' W hW b K Q hK' => ?_, fun K hK' => ?_⟩
  · obtain ⟨y0, y1⟩ := hK _ W hW
    go_simp
    exact hK' W hW
  go_simp
  refine hK' _ ?_
  clear hK' K
  refine ordv_read rfl (by go_simp) (by rfl) ?_
  apply Exists.intro
  refine ⟨fun s' W hW b K Q hK' => ?_, fun K hK' => ?_⟩
  · obtain ⟨y0, y1⟩ := hK _ W hW
    go_simp
    exact hK' W hW
  go_simp
  refine hK' _ ?_
  clear hK' K
  refine ordv_read rfl (by go_simp) (by rfl) ?_
  apply Exists.intro
  refine ⟨fun s' W hW b K Q hK' => ?_, fun K hK' => ?_⟩
  · obtain ⟨y0, y1⟩ := hK _ W hW
    go_simp
    exact hK' W hW
  go_simp
  refine hK' _ ?_
  clear hK' K
  refine ordv_read rfl (by go_simp) (by rfl) ?_
  apply Exists.intro
  refine ⟨fun s' W hW b K Q hK' => ?_, fun K hK' => ?_⟩
  · obtain ⟨y0, y1⟩ := hK _ W hW
    go_simp
    exact hK' W hW
  go_simp
  refine hK' _ ?_
  clear hK' K
  refine ordv_turn rfl (by go_simp) (by rfl) (fun W hW b K Q hK' => ?_) (fun u hu K hK' => ?_)
  · go_simp
    refine (h6 W hW).mono ?_
    rintro x w' ⟨g, rfl, h1⟩
    exact hK' _ _ h1
  obtain ⟨g, rfl⟩ : ∃ g, u = .slice (some ⟨g, 0, none⟩) 4 4 := by
    obtain ⟨W', hW'⟩ := hu
    exact hs6 _ W' hW'
  clear hu
  go_simp
  refine hK' _ ?_
  clear hK' K
  refine ordv_turn rfl (by go_simp) (by rfl) (fun W hW b K Q hK' => ?_) (fun u hu K hK' => ?_)
  · go_simp
    refine (h7 g W hW).mono ?_
    rintro x w' ⟨rfl, h1⟩
    exact hK' _ _ h1
  obtain ⟨W', hW'⟩ := hu
  have hu := hs7 _ u W' hW'
  subst hu
  clear hW' W'
  go_simp
  refine hK' _ ?_
  clear hK' K
  refine ordv_nil ?_
  intro w6 hw6
  have T6 := HT1.out.trans' (HTT.out _ _ hw6)
  clear hw6 h6 h7 hs6 hs7 hK HTT
  go_wp2_with fail
  go_ret
  exact ⟨by rw [← HJS.out]; rfl, T6⟩
end Go.Proofs.YtjiblajnfnmjnaaGreatDoor.C
namespace Go.Proofs.YtjiblajnfnmjnaaGreatDoor.C
open Go.RowKit
structure RN (W : World) (base : Nat) (r : Rc) (s : Sk) : Prop where
  o : W.ownsRow base 58 3 (.slice s.oo r.o.length s.oc) r.o.length (vcl r.o)
  n : W.ownsRow base 58 3 (.slice s.no r.n.length s.nc) r.n.length (vcl r.n)
  tb : W.ownsRow base 43 3 (.slice s.co r.tb.cols.length s.cc) r.tb.cols.length (ccl r.tb.cols)
  tbs : TO W base (.slice s.to s.P.length s.tc) s.P
  eq : s.P.map Prod.fst = r.tbs
  on : ∀ g, (Value.slice s.oo r.o.length s.oc).ownBlock = some g → (Value.slice s.no r.n.length s.nc).ownBlock ≠ some g
theorem to_nil (W : World) (base : Nat) : TO W base (.slice none 0 0) [] := ⟨World.ownsRow_nil _ _ _ _, fun i hi => by simp at hi, fun i hi => by simp at hi, fun i j hi => by simp at hi⟩
theorem to_low {W : World} {N N' : Nat} {tv : Value} {P : List (Tbl × Value)} (h : TO W N tv P) (hN : N' ≤ N) : TO W N' tv P := ⟨own_low h.own hN, fun i hi => own_low (h.col i hi) hN, h.sep, h.dis⟩
def TkOut (S : ByteArray) (k : Int) (c : Nat) (p : Nat × Int) (b : Nat) (w : World) (x : Ending) (w' : World) : Prop :=
  (∃ s, x = .returned (bV c (tkC S k c p).1 s) ∧ RN w' w.heap.size (tkC S k c p).1 s) ∧ RD w' b S (tkC S k c p).2.1 (tkC S k c p).2.2 ∧ Tch (fun i => i = b) w w'
theorem take_3 (b : Nat) (S : ByteArray) (k : Int) (a : Nat) (e : Int) (w : World) (h : RD w b S a e) (hg : HE w) (hgb : 1 ≠ b) (hS : S.size ≤ 281474976710656) :
    Calls Tryz.prog 197 #[.agg #[.int .i64 0, .int .i64 0, .slice none 0 0], .pointer (some ⟨b, 0, none⟩)] w fun x w' => TkOut S k 3 (a, e) b w x w' := by
  have hb := cell_lt h.st.c0
  obtain ⟨w0, hw0⟩ : ∃ w0, w0 = w.alloc (.cells #[.int .i64 0, .int .i64 0, .slice none 0 0] 132) := ⟨_, rfl⟩
  have t0 : Tch (fun _ => False) w w0 := by rw [hw0]; exact Tch.alloc _ _ _
  have h0 := RD.no h t0
  have HG : Hid (∀ W, Tch (fun i => i = b) w W → HE W) := fun W t => hg.tch t hgb
  have T0 : Tch (fun i => i = b) w w0 := t0.mono (fun _ _ h => h.elim)
  have HW0 : Hid (w0 = w.alloc (.cells #[.int .i64 0, .int .i64 0, .slice none 0 0] 132)) := hw0
  have z0 := T0.size
  obtain ⟨A1, hA1⟩ : ∃ A, A = numR 9 127 S (a, e).1 (a, e).2 := ⟨_, rfl⟩
  have HA1 : Hid (A1 = numR 9 127 S (a, e).1 (a, e).2) := hA1
  obtain ⟨A2, hA2⟩ : ∃ A, A = numR 9 127 S A1.2.1 A1.2.2 := ⟨_, rfl⟩
  have HA2 : Hid (A2 = numR 9 127 S A1.2.1 A1.2.2) := hA2
  obtain ⟨A3, hA3⟩ : ∃ A, A = tkRow S A2.2 := ⟨_, rfl⟩
  have HA3 : Hid (A3 = tkRow S A2.2) := hA3
  have HT : Hid (tkC S k 3 (a, e) = ({ rc0 k with x := A1.1, t := A2.1, n := A3.1 }, A3.2)) := by
    show _ = _
    rw [hA3, hA2, hA1]
    rfl
  clear hA1 hA2 hA3 h hg t0 hw0
  go_enter Tryz.func197, Tryz.ntmps197
  have q1 := rvar_any b S (a, e).1 (a, e).2 w0 h0 hS
  rw [← HA1.out] at q1
  rw [HW0.out] at q1
  go_wp2_with fail
  refine q1.mono ?_
  rintro x w1 ⟨rfl, h1, t1⟩
  rw [← HW0.out] at t1
  have T1 := T0.trans' t1
  have z1 := T1.size
  clear q1
  have q2 := rvar_any b S A1.2.1 A1.2.2 w1 h1 hS
  rw [← HA2.out] at q2
  go_wp2_with fail
  refine q2.mono ?_
  rintro x w2 ⟨rfl, h2, t2⟩
  have T2 := T1.trans' t2
  have z2 := T2.size
  clear q2
  have q3 := takeRow_any b S A2.2.1 A2.2.2 w2 h2 (HG.out w2 T2) hgb hS
  rw [show (A2.2.1, A2.2.2) = A2.2 from rfl, ← HA3.out] at q3
  go_wp2_with fail
  refine q3.mono ?_
  rintro x w3 ⟨⟨v3, rfl, hv3⟩, h3, t3⟩
  obtain ⟨vo3, vc3, e3⟩ := row_slice hv3
  subst e3
  have T3 := T2.trans' t3
  have z3 := T3.size
  clear q3
  have HV3 : Hid _ := hv3
  clear hv3
  go_wp2_with fail
  go_ret
  unfold TkOut
  rw [HT.out]
  refine ⟨⟨{ sk0 with no := vo3, nc := vc3 }, rfl, World.ownsRow_nil _ _ _ _, own_low HV3.out (by omega), World.ownsRow_nil _ _ _ _, to_nil _ _, rfl, ?_⟩, h3, T3⟩
  exact fun g e1 e2 => by cases e1
end Go.Proofs.YtjiblajnfnmjnaaGreatDoor.C
