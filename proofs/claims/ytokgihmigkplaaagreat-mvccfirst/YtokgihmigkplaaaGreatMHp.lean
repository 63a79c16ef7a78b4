import Derived.Test.YtokgihmigkplaaaGreatMPl2
import Derived.Maps.OwnSet
set_option maxHeartbeats 4000000
set_option maxRecDepth 100000
namespace Go.Proofs.YtokgihmigkplaaaGreat
open Go.RowKit Go Go.Sort
section
variable (hb mb : Nat) (m : Mg) (w : World) (F : Nat → Prop) (hM : MF w mb m F) (c0 : w.cell? ⟨hb, 0, none⟩ = some (.pointer (some ⟨mb, 0, none⟩)))
variable (wr : Int) (h1 : -9223372036854775808 ≤ wr) (h2 : wr ≤ 9223372036854775807) (th : Bool) (ao : Option Addr) (n cap : Nat)
include hM c0 h1 h2
theorem stands_any : Calls Tryz.prog 64 #[.pointer (some ⟨hb, 0, none⟩), .agg #[.int .i64 wr, .bool th, .slice ao n cap]] w fun x w' => x = .returned (.bool ((m.state wr : Int) != 4)) ∧ Tch (fun _ => False) w w' := by
  obtain ⟨w0, hw0⟩ : ∃ w0, w0 = w.alloc (.cells #[.int .i64 wr, .bool th, .slice ao n cap] 79) := ⟨_, rfl⟩
  have t0 : Tch (fun _ => False) w w0 := by rw [hw0]; exact Tch.alloc _ _ _
  have b0 : w0.heap[w.heap.size]? = some (.cells #[.int .i64 wr, .bool th, .slice ao n cap] 79 (0, 0)) := by rw [hw0]; exact alloc_new _ _
  have d0 : w0.cell? ⟨w.heap.size, 0, none⟩ = some (.int .i64 wr) := by rw [blk_cell b0]; rfl
  have e0 : w0.cell? ⟨hb, 0, none⟩ = some (.pointer (some ⟨mb, 0, none⟩)) := by rw [t0.cell (p := ⟨hb, 0, none⟩) (cell_lt c0) (fun h => h)]; exact c0
  have cS : ∀ d os, Calls Tryz.prog 91 #[.pointer (some ⟨mb, 0, none⟩), .int .i64 wr] (grow (redrawn w0 d) os) fun e w'' => e = .returned (.int .i64 (m.state wr)) ∧ ∃ p : Regrown, w'' = grow (redrawn w0 p.d) p.os := fun d os => Calls.tch_regrown_of (state_f mb m _ F (hM.no (t0.trans' (tch_regrown w0 ⟨d, os⟩))) wr h1 h2)
  obtain ⟨st, hst⟩ : ∃ st, st = m.state wr := ⟨_, rfl⟩
  rw [← hst] at cS ⊢
  have Hw0 : Hid _ := hw0
  have HT : Hid (∀ p : Regrown, Tch (fun _ => False) w (grow (redrawn w0 p.d) p.os)) := fun p => t0.trans' (tch_regrown w0 p)
  have d0' := cell_regrown d0
  have e0' := cell_regrown e0
  clear hst hM c0 b0 hw0 t0 h1 h2 d0 e0
  go_enter Tryz.func64, Tryz.ntmps64
  go_wp2_with fail
  have hw0 := Hw0.out
  rw [← hw0]
  clear hw0
  refine wp_region_quiet_below (by kernel_rfl) (by kernel_rfl) ?_
  repeat (go_big_quiet_step ((go_at_call 91; exact cS _ _)))
  refine wpQuiet_nil ?_
  rintro w1 ⟨pp, rfl⟩
  have T := HT.out pp
  go_wp2_with fail
  go_ret
  exact ⟨rfl, T⟩
end
structure SB (w : World) (hb bh bs bx : Nat) (mn mx : Int) (l : List Int) (so : Option Addr) (sc : Nat) (own : Int) : Prop where
  h : w.heap[bh]? = some (.cells #[.pointer (some ⟨hb, 0, none⟩)] 40 (0, 0))
  s : w.heap[bs]? = some (.cells #[.int .i64 mn, .int .i64 mx, .slice so l.length sc] 33 (0, 0))
  x : w.heap[bx]? = some (.cells #[.int .i64 own] 3 (0, 0))
  ir : IR w so l
theorem SB.no {w w' : World} {hb bh bs bx : Nat} {mn mx : Int} {l : List Int} {so : Option Addr} {sc : Nat} {own : Int} (k : SB w hb bh bs bx mn mx l so sc own) (t : Tch (fun _ => False) w w') : SB w' hb bh bs bx mn mx l so sc own :=
  ⟨by rw [t.block bh (blk_lt k.h) (fun h => h)]; exact k.h, by rw [t.block bs (blk_lt k.s) (fun h => h)]; exact k.s, by rw [t.block bx (blk_lt k.x) (fun h => h)]; exact k.x, k.ir.no t⟩
theorem seen1_any (hb mb : Nat) (m : Mg) (w : World) (F : Nat → Prop) (hM : MF w mb m F) (c0 : w.cell? ⟨hb, 0, none⟩ = some (.pointer (some ⟨mb, 0, none⟩))) (wr : Int) (h1 : -9223372036854775808 ≤ wr) (h2 : wr ≤ 9223372036854775807) (th : Bool) (ao : Option Addr) (n cap : Nat) (bh bs bx : Nat) (mn mx : Int) (l : List Int) (so : Option Addr) (sc : Nat) (own : Int) (h3 : -9223372036854775808 ≤ own) (h4 : own ≤ 9223372036854775807) (hl : l.length ≤ 9223372036854775807) (k : SB w hb bh bs bx mn mx l so sc own) :
    Calls Tryz.prog 59 #[.agg #[.int .i64 wr, .bool th, .slice ao n cap], .pointer (some ⟨bh, 0, none⟩), .pointer (some ⟨bs, 0, none⟩), .pointer (some ⟨bx, 0, none⟩)] w fun x w' => x = .returned (.bool (m.sees mn mx l own wr)) ∧ Tch (fun _ => False) w w' := by
  obtain ⟨w0, hw0⟩ : ∃ w0, w0 = w.alloc (.cells #[.int .i64 wr, .bool th, .slice ao n cap] 79) := ⟨_, rfl⟩
  have t0 : Tch (fun _ => False) w w0 := by rw [hw0]; exact Tch.alloc _ _ _
  have b0 : w0.heap[w.heap.size]? = some (.cells #[.int .i64 wr, .bool th, .slice ao n cap] 79 (0, 0)) := by rw [hw0]; exact alloc_new _ _
  have d0 : w0.cell? ⟨w.heap.size, 0, none⟩ = some (.int .i64 wr) := by rw [blk_cell b0]; rfl
  have e0 : w0.cell? ⟨hb, 0, none⟩ = some (.pointer (some ⟨mb, 0, none⟩)) := by rw [t0.cell (p := ⟨hb, 0, none⟩) (cell_lt c0) (fun h => h)]; exact c0
  have k0 := k.no t0
  have g0 : w0.cell? ⟨bh, 0, none⟩ = some (.pointer (some ⟨hb, 0, none⟩)) := by rw [blk_cell k0.h]; rfl
  have g1 : w0.cell? ⟨bs, 0, none⟩ = some (.int .i64 mn) := by rw [blk_cell k0.s]; rfl
  have g2 : w0.cell? ⟨bs, 1, none⟩ = some (.int .i64 mx) := by rw [blk_cell k0.s]; rfl
  have g3 : w0.cell? ⟨bs, 2, none⟩ = some (.slice so l.length sc) := by rw [blk_cell k0.s]; rfl
  have g4 : w0.cell? ⟨bx, 0, none⟩ = some (.int .i64 own) := by rw [blk_cell k0.x]; rfl
  have cS : ∀ d os, Calls Tryz.prog 60 #[.pointer (some ⟨mb, 0, none⟩), .agg #[.int .i64 mn, .int .i64 mx, .slice so l.length sc], .int .i64 own, .int .i64 wr] (grow (redrawn w0 d) os) fun e w'' => e = .returned (.bool (m.sees mn mx l own wr)) ∧ ∃ p : Regrown, w'' = grow (redrawn w0 p.d) p.os := fun d os => Calls.tch_regrown_of (sees_f mb m _ F (hM.no (t0.trans' (tch_regrown w0 ⟨d, os⟩))) mn mx l so sc hl (k0.ir.no (tch_regrown w0 ⟨d, os⟩)) own wr h1 h2 h3 h4)
  obtain ⟨sv, hsv⟩ : ∃ sv, sv = m.sees mn mx l own wr := ⟨_, rfl⟩
  rw [← hsv] at cS ⊢
  obtain ⟨ln, hln⟩ : ∃ ln, ln = l.length := ⟨_, rfl⟩
  rw [← hln] at cS g3
  have Hw0 : Hid _ := hw0
  have HT : Hid (∀ p : Regrown, Tch (fun _ => False) w (grow (redrawn w0 p.d) p.os)) := fun p => t0.trans' (tch_regrown w0 p)
  have d0' := cell_regrown d0
  have e0' := cell_regrown e0
  have g0' := cell_regrown g0
  have g1' := cell_regrown g1
  have g2' := cell_regrown g2
  have g3' := cell_regrown g3
  have g4' := cell_regrown g4
  clear hsv hln hM c0 b0 hw0 t0 h1 h2 h3 h4 hl d0 e0 g0 g1 g2 g3 g4 k k0
  go_enter Tryz.func59, Tryz.ntmps59
  go_wp2_with fail
  have hw0 := Hw0.out
  rw [← hw0]
  clear hw0
  refine wp_region_quiet_below (by kernel_rfl) (by kernel_rfl) ?_
  repeat (go_big_quiet_step ((go_at_call 60; exact cS _ _)))
  refine wpQuiet_nil ?_
  rintro w1 ⟨pp, rfl⟩
  have T := HT.out pp
  go_wp2_with fail
  go_ret
  exact ⟨rfl, T⟩
theorem seenBy_any (hb : Nat) (mn mx : Int) (so : Option Addr) (ln sc : Nat) (own : Int) (w : World) :
    Calls Tryz.prog 33 #[.pointer (some ⟨hb, 0, none⟩), .agg #[.int .i64 mn, .int .i64 mx, .slice so ln sc], .int .i64 own] w fun x w' => x = .returned (.func (.func 59) #[] #[.pointer (some ⟨w.heap.size, 0, none⟩), .pointer (some ⟨w.heap.size + 1, 0, none⟩), .pointer (some ⟨w.heap.size + 1 + 1, 0, none⟩)]) ∧
      w' = ((w.alloc (.cells #[.pointer (some ⟨hb, 0, none⟩)] 40)).alloc (.cells #[.int .i64 mn, .int .i64 mx, .slice so ln sc] 33)).alloc (.cells #[.int .i64 own] 3) := by
  have hmf : ∀ (fn : Fn) (first cap : Array Value) (w : World), (Instr.makeFunc fn first cap).run Tryz.prog w = .ok (.func fn first cap) w := fun _ _ _ _ => rfl
  go_enter Tryz.func33, Tryz.ntmps33
  go_wp2
  go_ret
  exact ⟨rfl, rfl⟩
end Go.Proofs.YtokgihmigkplaaaGreat
namespace Go.Proofs.YtokgihmigkplaaaGreat
open Go.RowKit Go Go.Sort
theorem Holds.tch {w w' : World} {zs : List VV} {p : VV → Bool} {fn : Nat} {first caps : Array Value} (h : Holds w zs p fn first caps) (t : Tch (fun _ => False) w w') : Holds w' zs p fn first caps := ⟨h.enters, fun z W hz tW => h.calls z W hz (t.trans' tW)⟩
theorem VRd.tch {w w' : World} {ao : Option Addr} {zs : List VV} (h : VRd w.heap.size w ao zs) (t : Tch (fun _ => False) w w') : VRd w'.heap.size w' ao zs := by
  rcases h.below (below_tch t (Nat.le_refl _)) with e | ⟨g, e, hg, hc⟩
  · exact .inl e
  · exact .inr ⟨g, e, Nat.lt_of_lt_of_le hg t.size, hc⟩
def NwOut (p : VV → Bool) (zs : List VV) (x : Ending) : Prop :=
  ((∀ z ∈ zs, p z = false) ∧ x = .returned (.tuple #[.agg #[.int .i64 0, .bool false, .slice none 0 0], .bool false])) ∨
  ∃ (k : Nat) (z : VV), zs[k]? = some z ∧ p z = true ∧ (∀ (j : Nat) (u : VV), k < j → zs[j]? = some u → p u = false) ∧ x = .returned (.tuple #[.agg #[.int .i64 z.1.wr, .bool z.1.th, .slice z.2.1 z.1.n z.2.2], .bool true])
theorem res_ver {fn : Func} {tmps : Array Value} {W : World} {B k j : Nat} {E : Bool} {a b c : Value} (hrs : fn.results = #[.cell k 79, .tmp j]) (hk : tmps[k]?.getD undef = .pointer (some ⟨B, 0, none⟩)) (hj : tmps[j]?.getD undef = .bool E)
    (hb : W.heap[B]? = some (.cells #[a, b, c] 79 (0, 0))) :
    (results fn tmps).run Tryz.prog W = .ok (.tuple #[.agg #[a, b, c], .bool E]) W := by
  have c0 : W.cell? ⟨B, 0, none⟩ = some a := by rw [blk_cell hb]; rfl
  have c1 : W.cell? ⟨B, 1, none⟩ = some b := by rw [blk_cell hb]; rfl
  have c2 : W.cell? ⟨B, 2, none⟩ = some c := by rw [blk_cell hb]; rfl
  simp only [results, hrs]
  go_simp
def set3 (W : World) (N : Nat) (a b c : Value) : World := ((W.setCell ⟨N, 0, none⟩ a).setCell ⟨N, 1, none⟩ b).setCell ⟨N, 2, none⟩ c
theorem set3_blk {W : World} {N : Nat} {a b c x y z : Value} {t : TypeId} (h : W.heap[N]? = some (.cells #[a, b, c] t (0, 0))) : (set3 W N x y z).heap[N]? = some (.cells #[x, y, z] t (0, 0)) := by
  have h1 := blk_set (i := 0) h x
  have h2 := blk_set (i := 1) h1 y
  have h3 := blk_set (i := 2) h2 z
  exact h3
theorem set3_tch (W : World) (N : Nat) (a b c : Value) : Tch (fun i => i = N) W (set3 W N a b c) := ((Tch.setCell (fun i => i = N) W ⟨N, 0, none⟩ a rfl).setCellR ⟨N, 1, none⟩ b rfl).setCellR ⟨N, 2, none⟩ c rfl
theorem tch_new {w w1 w2 : World} {N : Nat} (h : Tch (fun _ => False) w w1) (hN : w.heap.size ≤ N) (k : Tch (fun i => i = N) w1 w2) : Tch (fun _ => False) w w2 := h.trans k (fun i hi e => by omega)
theorem rs_newest : Tryz.f32.results = #[.cell 4 79, .tmp 5] := by kernel_rfl
theorem newest_any (ao : Option Addr) (cap : Nat) (zs : List VV) (hreach : zs.length ≤ 1000000) (w : World) (hc : VRd w.heap.size w ao zs) (p : VV → Bool) (fn : Nat) (first caps : Array Value) (hH : Holds w zs p fn first caps) :
    Calls Tryz.prog 32 #[.slice ao zs.length cap, .func (.func fn) first caps] w fun x w' => NwOut p zs x ∧ Tch (fun _ => False) w w' := by
  obtain ⟨N, hN⟩ : ∃ N, N = w.heap.size := ⟨_, rfl⟩
  obtain ⟨w0, hw0⟩ : ∃ w0, w0 = w.alloc (.cells #[.int .i64 0, .bool false, .slice none 0 0] 79) := ⟨_, rfl⟩
  have t0 : Tch (fun _ => False) w w0 := by rw [hw0]; exact Tch.alloc _ _ _
  have b0 : w0.heap[N]? = some (.cells #[.int .i64 0, .bool false, .slice none 0 0] 79 (0, 0)) := by rw [hw0, hN]; exact alloc_new _ _
  have q := callsIn_wide.1 (place_in 5 (Nat.le_refl _) ao cap zs hreach w0 (hc.tch t0) p fn first caps (hH.tch t0))
  obtain ⟨ln, hln⟩ : ∃ ln, ln = zs.length := ⟨_, rfl⟩
  have HV : Hid _ := hc.tch t0
  have HR : Hid (ln = zs.length ∧ ln ≤ 1000000) := ⟨hln, by omega⟩
  have HT0 : Hid _ := t0
  have HB0 : Hid _ := b0
  have HN : Hid _ := hN
  rw [← hln] at q ⊢
  have Hw0 : Hid _ := hw0
  clear hH hc hreach hln hw0 t0 b0
  go_enter Tryz.func32, Tryz.ntmps32
  go_wp2_with fail
  have hw0 := Hw0.out
  rw [← hw0, ← hN]
  clear hw0 Hw0 hN
  refine q.mono ?_
  rintro x w1 ⟨⟨r, rfl, hp⟩, t1⟩
  clear q
  have b1 : w1.heap[N]? = some (.cells #[.int .i64 0, .bool false, .slice none 0 0] 79 (0, 0)) := by rw [t1.block N (blk_lt HB0.out) (fun h => h)]; exact HB0.out
  have T1 : Hid (Tch (fun _ => False) w w1) := HT0.out.trans' t1
  have c0 : w1.cell? ⟨N, 0, none⟩ = some (.int .i64 0) := by rw [blk_cell b1]; rfl
  have c1 : w1.cell? ⟨N, 1, none⟩ = some (.bool false) := by rw [blk_cell b1]; rfl
  have c2 : w1.cell? ⟨N, 2, none⟩ = some (.slice none 0 0) := by rw [blk_cell b1]; rfl
  have f0 := fun i => blk_frozen b1 i
  rcases hp with ⟨rfl, hno⟩ | ⟨k, z, rfl, hz, hp, hla⟩
  · have HNo : Hid _ := hno
    have HB1 : Hid _ := b1
    clear hno b1 t1
    go_wp2
    refine bodyPost_ret (res_ver rs_newest rfl rfl (set3_blk HB1.out)) rfl ?_
    exact ⟨.inl ⟨HNo.out, rfl⟩, tch_new T1.out (by have := HN.out; omega) (set3_tch _ _ _ _ _)⟩
  · obtain ⟨hn1, hn2⟩ := HR.out
    have hk : k < zs.length := (List.getElem?_eq_some_iff.1 hz).1
    rcases HV.out with ⟨e, _⟩ | ⟨g, rfl, hg, hcs⟩
    · rw [e] at hk; exact absurd hk (Nat.not_lt_zero _)
    obtain ⟨e0, e1, e2⟩ := hcs k z hz
    have e0' : w1.cell? ⟨g, k * 3, none⟩ = some (.int .i64 z.1.wr) := (t1.cell (p := ⟨g, k * 3, none⟩) hg (fun h => h)).trans e0
    have e1' : w1.cell? ⟨g, k * 3 + 1, none⟩ = some (.bool z.1.th) := (t1.cell (p := ⟨g, k * 3 + 1, none⟩) hg (fun h => h)).trans e1
    have e2' : w1.cell? ⟨g, k * 3 + 2, none⟩ = some (.slice z.2.1 z.1.n z.2.2) := (t1.cell (p := ⟨g, k * 3 + 2, none⟩) hg (fun h => h)).trans e2
    have hkl : (k : Int) < (ln : Int) := by omega
    have hk0 : ¬ (k : Int) < 0 := by omega
    have hln : ln ≤ 1000000 := hn2
    have HO : Hid (∃ (k : Nat) (z' : VV), zs[k]? = some z' ∧ p z' = true ∧ (∀ (j : Nat) (u : VV), k < j → zs[j]? = some u → p u = false) ∧ z' = z) := ⟨k, z, hz, hp, hla, rfl⟩
    have HB1 : Hid _ := b1
    clear hn1 hn2 hz hp hla b1 t1 hcs e0 e1 e2 hg hk HV HR
    go_wp2
    refine bodyPost_ret (res_ver rs_newest rfl rfl (set3_blk HB1.out)) rfl ?_
    obtain ⟨k', z', h1, h2, h3, rfl⟩ := HO.out
    exact ⟨.inr ⟨k', z', h1, h2, h3, rfl⟩, tch_new T1.out (by have := HN.out; omega) (set3_tch _ _ _ _ _)⟩
end Go.Proofs.YtokgihmigkplaaaGreat
namespace Go.Proofs.YtokgihmigkplaaaGreat
open Go.RowKit Go Go.Sort
structure RdR (w : World) (ao : Option Addr) (n c : Nat) (cs : List Value) : Prop where
  len : cs.length = n * 3
  one : ∀ u ∈ cs, u.oneCell' = true
  sm : n ≤ 1000000
  at' : (ao = none ∧ n = 0 ∧ c = 0) ∨ ∃ g o, ao = some ⟨g, o, none⟩ ∧ g < w.heap.size ∧ ∀ j u, cs[j]? = some u → w.cell? ⟨g, o + j, none⟩ = some u
theorem RdR.tch {S : Nat → Prop} {w w' : World} {ao : Option Addr} {n c : Nat} {cs : List Value} (h : RdR w ao n c cs) (t : Tch S w w') (hS : ∀ a, ao = some a → ¬ S a.block) : RdR w' ao n c cs := by
  refine ⟨h.len, h.one, h.sm, ?_⟩
  rcases h.at' with e | ⟨g, o, rfl, hg, hc⟩
  · exact .inl e
  · exact .inr ⟨g, o, rfl, Nat.lt_of_lt_of_le hg t.size, fun j u hu => (t.cell (p := ⟨g, o + j, none⟩) hg (hS ⟨g, o, none⟩ rfl)).trans (hc j u hu)⟩
theorem RdR.no {w w' : World} {ao : Option Addr} {n c : Nat} {cs : List Value} (h : RdR w ao n c cs) (t : Tch (fun _ => False) w w') : RdR w' ao n c cs := h.tch t (fun _ _ h => h)
theorem RdR.of_own {w : World} {base n : Nat} {ao : Option Addr} {c : Nat} {cs : List Value} (h : w.ownsRow base 89 3 (.slice ao n c) n cs) (h1 : ∀ u ∈ cs, u.oneCell' = true) (hs : n ≤ 1000000) : RdR w ao n c cs := by
  refine ⟨h.1, h1, hs, ?_⟩
  rcases h.2 with ⟨e, h0⟩ | ⟨g, cap, cur, e, _, hg, _⟩
  · cases e; exact .inl ⟨rfl, h0, rfl⟩
  · cases e
    refine .inr ⟨g, 0, rfl, blk_lt hg, fun j u hu => ?_⟩
    have := h.cells (g := g) rfl j u hu
    rw [add_plain] at this
    exact this
theorem info_val : (Tryz.prog.info? 89).map (fun i => (i.zero, i.size, i.bytes)) = some (some (.agg #[.int .i64 0, .int .i64 0, .string ⟨#[]⟩]), 3, 32) := by kernel_rfl
theorem veq_nil_no (ad : Addr) (n c : Nat) (w : World) : (binOp .eql 51 (.slice (some ad) n c) (.slice none 0 0)).run Tryz.prog w = .ok (.bool false) w := Lib.run_eql_slice_some_nil w ad n c Tryz.underlying51
theorem veq_nil_yes (w : World) : (binOp .eql 51 (.slice none 0 0) (.slice none 0 0)).run Tryz.prog w = .ok (.bool true) w := Lib.run_eql_slice_nil_nil w 0 0 Tryz.underlying51
theorem rclone_any (ao : Option Addr) (n c : Nat) (cs : List Value) (w : World) (h : RdR w ao n c cs) :
    Calls Tryz.prog 34 #[.slice ao n c] w fun x w' => (∃ ro rc, x = .returned (.slice ro n rc) ∧ w'.ownsRow w.heap.size 89 3 (.slice ro n rc) n cs) ∧ Tch (fun _ => False) w w' := by
  obtain ⟨hlen, hone, hsm, hat⟩ := h
  rcases hat with ⟨rfl, rfl, rfl⟩ | ⟨g, o, rfl, hg, hc⟩
  · obtain rfl : cs = [] := List.length_eq_zero_iff.1 hlen
    have he := veq_nil_yes
    go_enter Tryz.func34, Tryz.ntmps34
    go_wp2
    go_ret
    exact ⟨⟨_, _, rfl, rfl, Or.inl ⟨rfl, rfl⟩⟩, Tch.refl _ _⟩
  · obtain ⟨i0, hi, hz0, hz1, hz2⟩ := info_parts info_val
    have he := veq_nil_no ⟨g, o, none⟩ n c
    obtain ⟨w0, hw0⟩ : ∃ w0, w0 = w.alloc (.cells #[] 89) := ⟨_, rfl⟩
    have t0 : Tch (fun _ => False) w w0 := by rw [hw0]; exact Tch.alloc _ _ _
    have hown : w0.ownsRow w.heap.size 89 3 (.slice (some ⟨w.heap.size, 0, none⟩) 0 0) 0 [] := ⟨rfl, Or.inr ⟨w.heap.size, 0, #[], rfl, Nat.le_refl _, by rw [hw0]; exact alloc_new _ _, Nat.le_refl _, by unfold maxLen; omega, rfl, rfl⟩⟩
    have Hcl : Hid (∀ j u, cs[j]? = some u → w0.cell? ((⟨g, o, none⟩ : Addr).add j) = some u) := fun j u hu => by rw [add_plain]; exact (t0.cell (p := ⟨g, o + j, none⟩) hg (fun h => h)).trans (hc j u hu)
    have Hown : Hid (w0.ownsRow w.heap.size 89 3 (.slice (some ⟨w.heap.size, 0, none⟩) 0 0) 0 []) := hown
    have Hw0 : Hid _ := hw0
    have Hsz : Hid (w.heap.size ≤ w0.heap.size) := t0.size
    clear hown hw0 hg hc
    go_enter Tryz.func34, Tryz.ntmps34
    go_wp2_with (at_builtin; have hw0 := Hw0.out; rw [← hw0]; clear hw0; refine wpList_append_keeps _ rfl _ _ 51 rfl w.heap.size 89 i0 (.agg #[.int .i64 0, .int .i64 0, .string ⟨#[]⟩]) 3 32 Tryz.underlying51 hi hz0 hz1 hz2 rfl (by decide) (.slice (some ⟨w.heap.size, 0, none⟩) 0 0) 0 [] rfl Hown.out ⟨g, o, none⟩ n c cs rfl hlen Hcl.out hone (by unfold maxLen; omega) (by omega) Hsz.out ?_; intro v1 w1 hown1 hgr1 hat1 _; have HF : Hid (w1.ownsRow w.heap.size 89 3 v1 n cs) := (by have h1 := hown1; rw [Nat.zero_add, List.nil_append] at h1; exact h1); have HT : Hid (Tch (fun _ => False) w w1) := (t0.trans (grown_at (Tch.refl (fun _ => False) w0) hgr1) (fun i hi e => by have := row_ge Hown.out e; omega)); obtain ⟨o1, c1, hv1⟩ := row_slice HF.out; subst hv1)
    go_ret
    exact ⟨⟨_, _, rfl, HF.out⟩, HT.out⟩
theorem res_ver1 {fn : Func} {tmps : Array Value} {W : World} {B k : Nat} {a b c : Value} (hrs : fn.results = #[.cell k 79]) (hk : tmps[k]?.getD undef = .pointer (some ⟨B, 0, none⟩))
    (hb : W.heap[B]? = some (.cells #[a, b, c] 79 (0, 0))) :
    (results fn tmps).run Tryz.prog W = .ok (.agg #[a, b, c]) W := by
  have c0 : W.cell? ⟨B, 0, none⟩ = some a := by rw [blk_cell hb]; rfl
  have c1 : W.cell? ⟨B, 1, none⟩ = some b := by rw [blk_cell hb]; rfl
  have c2 : W.cell? ⟨B, 2, none⟩ = some c := by rw [blk_cell hb]; rfl
  simp only [results, hrs]
  go_simp
theorem rs_filled : Tryz.f40.results = #[.cell 4 79] := by kernel_rfl
theorem filled_any (wr : Int) (ao : Option Addr) (n c : Nat) (cs : List Value) (w : World) (h : RdR w ao n c cs) :
    Calls Tryz.prog 40 #[.int .i64 wr, .slice ao n c] w fun x w' => (∃ ro rc, x = .returned (.agg #[.int .i64 wr, .bool true, .slice ro n rc]) ∧ w'.ownsRow w.heap.size 89 3 (.slice ro n rc) n cs) ∧ Tch (fun _ => False) w w' := by
  obtain ⟨N, hN⟩ : ∃ N, N = w.heap.size := ⟨_, rfl⟩
  obtain ⟨w0, hw0⟩ : ∃ w0, w0 = w.alloc (.cells #[.int .i64 0, .bool false, .slice none 0 0] 79) := ⟨_, rfl⟩
  have t0 : Tch (fun _ => False) w w0 := by rw [hw0]; exact Tch.alloc _ _ _
  have b0 : w0.heap[N]? = some (.cells #[.int .i64 0, .bool false, .slice none 0 0] 79 (0, 0)) := by rw [hw0, hN]; exact alloc_new _ _
  have hs0 : w0.heap.size = N + 1 := by rw [hw0, hN]; simp
  have q := rclone_any ao n c cs w0 (h.no t0)
  have HT0 : Hid _ := t0
  have HB0 : Hid _ := b0
  have HN : Hid (N = w.heap.size ∧ w0.heap.size = N + 1) := ⟨hN, hs0⟩
  have Hw0 : Hid _ := hw0
  clear h t0 b0 hs0 hw0
  go_enter Tryz.func40, Tryz.ntmps40
  go_wp2_with fail
  have hw0 := Hw0.out
  rw [← hw0, ← hN]
  clear hw0 Hw0 hN
  refine q.mono ?_
  rintro x w1 ⟨⟨ro, rc, rfl, hr⟩, t1⟩
  clear q
  have b1 : w1.heap[N]? = some (.cells #[.int .i64 0, .bool false, .slice none 0 0] 79 (0, 0)) := by rw [t1.block N (blk_lt HB0.out) (fun h => h)]; exact HB0.out
  have T1 : Hid (Tch (fun _ => False) w w1) := HT0.out.trans' t1
  have c0 : w1.cell? ⟨N, 0, none⟩ = some (.int .i64 0) := by rw [blk_cell b1]; rfl
  have c1 : w1.cell? ⟨N, 1, none⟩ = some (.bool false) := by rw [blk_cell b1]; rfl
  have c2 : w1.cell? ⟨N, 2, none⟩ = some (.slice none 0 0) := by rw [blk_cell b1]; rfl
  have f0 := fun i => blk_frozen b1 i
  have HR : Hid _ := hr
  have HB1 : Hid _ := b1
  clear hr b1 t1
  go_wp2
  refine bodyPost_ret (res_ver1 rs_filled rfl (set3_blk HB1.out)) rfl ?_
  obtain ⟨h1, h2⟩ := HN.out
  refine ⟨⟨ro, rc, rfl, own_low (own_tch HR.out (set3_tch _ _ _ _ _) (fun g hg e => ?_)) (by omega)⟩, tch_new T1.out (by omega) (set3_tch _ _ _ _ _)⟩
  have := row_ge HR.out hg
  omega
theorem mayInsert_any (wr : Int) (th : Bool) (ao : Option Addr) (n c : Nat) (w : World) :
    Calls Tryz.prog 41 #[.agg #[.int .i64 wr, .bool th, .slice ao n c]] w fun x w' => x = .returned (.int .i64 (if th then 91 else 0)) ∧ Tch (fun _ => False) w w' := by
  cases th
  · go_enter Tryz.func41, Tryz.ntmps41
    go_wp2
    go_ret
    exact ⟨rfl, Tch.alloc _ _ _⟩
  · go_enter Tryz.func41, Tryz.ntmps41
    go_wp2
    go_ret
    exact ⟨rfl, Tch.alloc _ _ _⟩
end Go.Proofs.YtokgihmigkplaaaGreat
namespace Go.Proofs.YtokgihmigkplaaaGreat
open Go.RowKit Go Go.Maps
def mapElem (v : Value) : Option (DataW Unit × List MemPlace) :=
  match v with
  | .map none => some (.lit (.int .i64 (-1)), [])
  | .map (some b) => some (.lit (.int .i64 b), [])
  | _ => none
def ptrElem (v : Value) : Option (DataW Unit × List MemPlace) :=
  match v with
  | .pointer none => some (.lit (.int .i64 (-1)), [])
  | .pointer (some a) => if a = ⟨a.block, 0, none⟩ then some (.lit (.int .i64 a.block), []) else none
  | _ => none
def encB (b : Nat) : DataW Unit := .lit (.int .i64 b)
def atB (o : Option Nat) (zd : DataW Unit) : DataW Unit := match o with
  | some b => encB b
  | none => zd
def mapV : Option Nat → Value
  | none => .map none
  | some b => .map (some b)
def ptrV : Option Nat → Value
  | none => .pointer none
  | some b => .pointer (some ⟨b, 0, none⟩)
theorem mapElem_inv {v : Value} {z : DataW Unit × List MemPlace} {o : Option Nat} (h : mapElem v = some z) (hz : z.1 = atB o (.lit (.int .i64 (-1)))) : v = mapV o := by
  unfold mapElem at h
  split at h
  · cases h
    cases o with
    | none => rfl
    | some b => simp [atB, encB] at hz
  · cases h
    cases o with
    | none => simp [atB] at hz
    | some b => simp [atB, encB] at hz; simp [mapV]; omega
  · cases h
theorem ptrElem_inv {v : Value} {z : DataW Unit × List MemPlace} {o : Option Nat} (h : ptrElem v = some z) (hz : z.1 = atB o (.lit (.int .i64 (-1)))) : v = ptrV o := by
  unfold ptrElem at h
  split at h
  · cases h
    cases o with
    | none => rfl
    | some b => simp [atB, encB] at hz
  · rename_i a
    split at h
    · rename_i ha
      cases h
      cases o with
      | none => simp [atB] at hz
      | some b =>
        simp [atB, encB] at hz
        rw [ha]
        simp [ptrV]
    · cases h
  · cases h
theorem mapElem_some (b : Nat) : mapElem (.map (some b)) = some (encB b, []) := rfl
theorem ptrElem_some (b : Nat) : ptrElem (.pointer (some ⟨b, 0, none⟩)) = some (encB b, []) := by simp [ptrElem, encB]
structure En where
  k : Int
  s : List UInt8
  b : Nat
def lkT (T : List (Int × Nat)) (k : Int) : Option Nat := (T.find? (fun p => decide (p.1 = k))).map (·.2)
def lkE (E : List En) (k : Int) (s : List UInt8) : Option Nat := (E.find? (fun e => decide (e.k = k ∧ e.s = s))).map (·.b)
theorem lkT_mem {T : List (Int × Nat)} {k : Int} {l : Nat} (h : lkT T k = some l) : (k, l) ∈ T := by
  unfold lkT at h
  cases hf : T.find? (fun p => decide (p.1 = k)) with
  | none => rw [hf] at h; cases h
  | some p =>
    rw [hf] at h
    obtain ⟨a, b⟩ := p
    have h1 := List.find?_some hf
    have h2 := List.mem_of_find?_eq_some hf
    simp at h h1
    subst h h1
    exact h2
theorem lkT_none {T : List (Int × Nat)} {k : Int} (h : lkT T k = none) : ∀ p ∈ T, p.1 ≠ k := by
  unfold lkT at h
  simp only [Option.map_eq_none_iff, List.find?_eq_none, decide_eq_true_eq] at h
  exact h
theorem lkE_mem {E : List En} {k : Int} {s : List UInt8} {b : Nat} (h : lkE E k s = some b) : ⟨k, s, b⟩ ∈ E := by
  unfold lkE at h
  cases hf : E.find? (fun e => decide (e.k = k ∧ e.s = s)) with
  | none => rw [hf] at h; cases h
  | some p =>
    rw [hf] at h
    obtain ⟨a, c, d⟩ := p
    have h1 := List.find?_some hf
    have h2 := List.mem_of_find?_eq_some hf
    simp at h h1
    obtain ⟨e1, e2⟩ := h1
    subst h e1 e2
    exact h2
theorem lkE_none {E : List En} {k : Int} {s : List UInt8} (h : lkE E k s = none) : ∀ e ∈ E, ¬ (e.k = k ∧ e.s = s) := by
  unfold lkE at h
  simp only [Option.map_eq_none_iff, List.find?_eq_none, decide_eq_true_eq] at h
  exact h
theorem lkE_no {E : List En} {k : Int} {s : List UInt8} (h : ∀ e ∈ E, ¬ (e.k = k ∧ e.s = s)) : lkE E k s = none := by
  unfold lkE
  simp only [Option.map_eq_none_iff, List.find?_eq_none, decide_eq_true_eq]
  exact h
theorem lkE_of_mem {E : List En} (hE : E.Pairwise (fun e f => ¬ (e.k = f.k ∧ e.s = f.s))) {e : En} (he : e ∈ E) : lkE E e.k e.s = some e.b := by
  induction E with
  | nil => cases he
  | cons f r ih =>
    obtain ⟨h1, h2⟩ := List.pairwise_cons.1 hE
    rcases List.mem_cons.1 he with rfl | he
    · simp [lkE]
    · have hn : ¬ (f.k = e.k ∧ f.s = e.s) := h1 e he
      have := ih h2 he
      unfold lkE at this ⊢
      rw [List.find?_cons]
      simp only [decide_eq_false hn]
      exact this
theorem lkE_snoc (E : List En) (e : En) (k : Int) (s : List UInt8) : lkE (E ++ [e]) k s = match lkE E k s with | some b => some b | none => if e.k = k ∧ e.s = s then some e.b else none := by
  unfold lkE
  rw [List.find?_append]
  cases E.find? (fun e => decide (e.k = k ∧ e.s = s)) with
  | some a => rfl
  | none =>
    simp only [Option.none_or, Option.map_none, List.find?_cons]
    by_cases h : e.k = k ∧ e.s = s
    · simp [h]
    · simp [h]
theorem lkT_cons (p : Int × Nat) (T : List (Int × Nat)) (k : Int) : lkT (p :: T) k = if p.1 = k then some p.2 else lkT T k := by
  unfold lkT
  rw [List.find?_cons]
  by_cases h : p.1 = k <;> simp [h]
def vrl (zs : List VV) : List Value := zs.flatMap (fun z => [.int .i64 z.1.wr, .bool z.1.th, .slice z.2.1 z.1.n z.2.2])
theorem vrl_get : ∀ (l : List VV) (k : Nat) (z : VV), l[k]? = some z → (vrl l)[k * 3]? = some (.int .i64 z.1.wr) ∧ (vrl l)[k * 3 + 1]? = some (.bool z.1.th) ∧ (vrl l)[k * 3 + 2]? = some (.slice z.2.1 z.1.n z.2.2)
  | [], k, z, hk => by simp at hk
  | a :: l, 0, z, hk => by
    simp only [List.getElem?_cons_zero, Option.some.injEq] at hk
    subst hk
    simp [vrl]
  | a :: l, k + 1, z, hk => by
    have := vrl_get l k z (by simpa using hk)
    unfold vrl at this ⊢
    have e1 : (k + 1) * 3 = k * 3 + 3 := by omega
    simp only [List.flatMap_cons]
    rw [e1]
    refine ⟨?_, ?_, ?_⟩
    · rw [List.getElem?_append_right (by simp)]; simpa using this.1
    · rw [List.getElem?_append_right (by simp)]; simpa using this.2.1
    · rw [List.getElem?_append_right (by simp)]; simpa using this.2.2
theorem vrl_snoc (l : List VV) (z : VV) : vrl (l ++ [z]) = vrl l ++ [.int .i64 z.1.wr, .bool z.1.th, .slice z.2.1 z.1.n z.2.2] := by simp [vrl]
structure VOK (w : World) (σ : Nat → Option Nat) (z : VV) : Prop where
  own : w.ownsRow 0 89 3 (.slice z.2.1 z.1.n z.2.2) z.1.n z.1.cs
  lab : ∀ g, (Value.slice z.2.1 z.1.n z.2.2).ownBlock = some g → σ g = some (2 * g)
  one : ∀ u ∈ z.1.cs, u.oneCell' = true
  sm : z.1.n ≤ 1000000
  lo : -9223372036854775808 ≤ z.1.wr
  hi : z.1.wr ≤ 9223372036854775807
theorem VOK.tch {S : Nat → Prop} {w w' : World} {σ σ' : Nat → Option Nat} {z : VV} (h : VOK w σ z) (t : Tch S w w') (hS : ∀ g, g < w.heap.size → S g → ∀ j, σ g ≠ some (2 * j)) (hσ : ∀ g, g < w.heap.size → σ g ≠ none → σ' g = σ g) : VOK w' σ' z := by
  refine ⟨own_tch h.own t (fun g hg hs => ?_), fun g hg => ?_, h.one, h.sm, h.lo, h.hi⟩
  · obtain ⟨cur, hc⟩ := own_blk h.own hg
    exact hS g (blk_lt hc) hs g (h.lab g hg)
  · obtain ⟨cur, hc⟩ := own_blk h.own hg
    rw [hσ g (blk_lt hc) (by rw [h.lab g hg]; exact fun h => by cases h)]; exact h.lab g hg
structure CB (w : World) (σ : Nat → Option Nat) (cb : Nat) (co : Option Addr) (cc : Nat) (zs : List VV) : Prop where
  lab : σ cb = some (2 * cb + 1)
  blk : w.heap[cb]? = some (.cells #[.slice co zs.length cc] 82 (0, 0))
  row : w.ownsRow 0 79 3 (.slice co zs.length cc) zs.length (vrl zs)
  rl : ∀ g, (Value.slice co zs.length cc).ownBlock = some g → σ g = some (2 * cb + 1)
  ok : ∀ z ∈ zs, VOK w σ z
theorem CB.tch {S : Nat → Prop} {w w' : World} {σ σ' : Nat → Option Nat} {cb : Nat} {co : Option Addr} {cc : Nat} {zs : List VV} (h : CB w σ cb co cc zs) (t : Tch S w w') (hS : ∀ g, g < w.heap.size → S g → σ g ≠ some (2 * cb + 1) ∧ ∀ j, σ g ≠ some (2 * j)) (hσ : ∀ g, g < w.heap.size → σ g ≠ none → σ' g = σ g) : CB w' σ' cb co cc zs := by
  have hl := blk_lt h.blk
  refine ⟨(hσ cb hl (by rw [h.lab]; exact fun h => by cases h)).trans h.lab, ?_, ?_, fun g hg => ?_, fun z hz => (h.ok z hz).tch t (fun g hg hs => (hS g hg hs).2) hσ⟩
  · rw [t.block cb hl (fun hs => (hS cb hl hs).1 h.lab)]; exact h.blk
  · refine own_tch h.row t (fun g hg hs => ?_)
    obtain ⟨cur, hc⟩ := own_blk h.row hg
    exact (hS g (blk_lt hc) hs).1 (h.rl g hg)
  · obtain ⟨cur, hc⟩ := own_blk h.row hg
    exact (hσ g (blk_lt hc) (by rw [h.rl g hg]; exact fun h => by cases h)).trans (h.rl g hg)
theorem row_ne {w : World} {base n sz : Nat} {t t' : TypeId} {v : Value} {xs : List Value} {b : Nat} {cs : Array Value} (h : w.ownsRow base t sz v n xs) (hb : w.heap[b]? = some (.cells cs t' (0, 0))) (ht : t ≠ t') {g : Nat} (hg : v.ownBlock = some g) : g ≠ b := by
  rintro rfl
  obtain ⟨c1, e1⟩ := own_blk h hg
  rw [e1] at hb
  cases hb
  exact ht rfl
theorem vrd_of {w : World} {co : Option Addr} {cc : Nat} {zs : List VV} (h : w.ownsRow 0 79 3 (.slice co zs.length cc) zs.length (vrl zs)) : VRd w.heap.size w co zs := by
  rcases h.2 with ⟨e, h0⟩ | ⟨g, cap, cur, hv, _, hg, _, _, hs, ht⟩
  · injection e with e1 e2 e3
    exact .inl ⟨List.length_eq_zero_iff.1 h0, e1⟩
  · injection hv with e1 e2 e3
    have hc : ∀ j u, (vrl zs)[j]? = some u → w.cell? ⟨g, j, none⟩ = some u := fun j u hu => by
      rw [blk_cell hg, ← Array.getElem?_toList]
      rw [← ht, List.getElem?_take] at hu
      split at hu
      · exact hu
      · cases hu
    refine .inr ⟨g, e1, blk_lt hg, fun k z hz => ?_⟩
    obtain ⟨a, b, c⟩ := vrl_get zs k z hz
    exact ⟨hc _ _ a, hc _ _ b, hc _ _ c⟩
end Go.Proofs.YtokgihmigkplaaaGreat
