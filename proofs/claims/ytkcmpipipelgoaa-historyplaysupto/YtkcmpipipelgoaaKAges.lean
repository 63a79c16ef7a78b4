import Derived.Test.YtkcmpipipelgoaaKAg
import Derived.Deep.RegionHeld3
/- ages. -/
namespace Go.Proofs.Ytkcmpipipelgoaa
open Go.RowKit Go
set_option maxRecDepth 100000

/-- What ages leaves. -/
def AgesOut (w : World) (o : Nat → Nat) (b : Nat) (cur : Array Value) (C T : List Value) (tv : Value) (n : Nat) (w' : World) : Prop :=
  ∃ o' C' cv' lo' n' lc' L', LW w' o' b ((cur.setIfInBounds 4 cv').setIfInBounds 6 (.slice lo' n' lc')) C' T cv' tv lo' n' lc' L' ∧ C'.length + 20 * n' = C.length + 20 * n ∧ n' ≤ n ∧ Ev (fun j => j = 0 ∨ j = 5 ∨ j = 6 ∨ j = 8 ∨ j = 9) w o w' o'
abbrev KA : Nat → Prop := fun j => j = 0 ∨ j = 5 ∨ j = 6 ∨ j = 8 ∨ j = 9
theorem set_same {cur : Array Value} {i : Nat} {v : Value} (h : cur[i]? = some v) : cur.setIfInBounds i v = cur := by
  apply Array.ext_getElem?
  intro j
  by_cases e : j = i
  · subst e
    rw [Array.getElem?_setIfInBounds_self_of_lt (Array.getElem?_eq_some_iff.1 h).1, h]
  · rw [Array.getElem?_setIfInBounds_ne (fun e2 => e e2.symm)]

set_option maxHeartbeats 4000000 in
theorem ages_any {w : World} {o : Nat → Nat} {b : Nat} {cur : Array Value} {C T : List Value} {cv tv : Value} {lo : Option Addr} {n lc : Nat} {L : List Fr} (h : LW w o b cur C T cv tv lo n lc L) (hB : C.length + 20 * n ≤ 1000000000000) :
    Calls Try.prog 41 #[.pointer (some ⟨b, 0, none⟩)] w fun x w' => x = .returned (.bool true) ∧ AgesOut w o b cur C T tv n w' := by
  have HL : Hid (LW w o b cur C T cv tv lo n lc L) := h
  have HB : Hid (C.length + 20 * n ≤ 1000000000000) := hB
  have c6 : w.cell? ⟨b, 6, none⟩ = some (.slice lo n lc) := by rw [blk_cell h.blk]; exact h.c6
  have hn9 : n ≤ 1099511627776 := by omega
  clear h hB
  go_enter Try.func41, Try.ntmps41
  go_wp2_with fail
  clear c6
  go_loopw [5] (fun i wr => ∃ k : Nat, i = .int .i64 k ∧ k ≤ n ∧ Hid (Tch (fun _ => False) w wr)) (fun i _ => n - (intOf i).toNat)
  case atStart => exact ⟨0, rfl, by omega, Tch.refl _ _⟩
  case round =>
    obtain ⟨k, rfl, hk, HT⟩ := hrel
    obtain ⟨wV, hwV⟩ : ∃ wV, wV = wr := ⟨_, rfl⟩
    subst hwV
    have HLV : Hid (LW wV (ext w o 0) b cur C T cv tv lo n lc L) := HL.out.ev (Ev.quiet 0 HT.out) (by omega)
    by_cases hlt : (k : Int) < n
    · obtain ⟨f, hf⟩ : ∃ f, L[k]? = some f := ⟨_, List.getElem?_eq_getElem (by have := HL.out.len; omega)⟩
      obtain ⟨g, hg, hat⟩ := fr_at HLV.out.fl HLV.out.len hf
      obtain ⟨r1, r2, r3, -, -⟩ := (HLV.out.fv f (List.mem_of_getElem? hf))
      obtain ⟨vo, vc, ev⟩ := row_slice r1.row
      obtain ⟨uo, uc, eu⟩ := row_slice r2.row
      have s1 := r1.row
      have s2 := r2.row
      rw [ev] at s1
      rw [eu] at s2
      have z0 : wV.cell? ⟨g, k * 11, none⟩ = some (.int .i64 f.t.id) := by have := hat 0 _ rfl (by omega); exact this
      have z1 : wV.cell? ⟨g, k * 11 + 1, none⟩ = some (.int .i64 f.t.ver) := by have := hat 1 _ rfl (by omega); exact this
      have z2 : wV.cell? ⟨g, k * 11 + 2, none⟩ = some (.string f.t.nm) := by have := hat 2 _ rfl (by omega); exact this
      have z3 : wV.cell? ⟨g, k * 11 + 3, none⟩ = some (.slice vo f.t.cols.length vc) := by have := hat 3 _ rfl (by omega); rw [ev] at this; exact this
      have z4 : wV.cell? ⟨g, k * 11 + 4, none⟩ = some (.int .i64 f.t.key) := by have := hat 4 _ rfl (by omega); exact this
      have z5 : wV.cell? ⟨g, k * 11 + 5, none⟩ = some (.int .i64 f.t.id) := by have := hat 5 _ rfl (by omega); exact this
      have z6 : wV.cell? ⟨g, k * 11 + 6, none⟩ = some (.int .i64 f.t.ver) := by have := hat 6 _ rfl (by omega); exact this
      have z7 : wV.cell? ⟨g, k * 11 + 7, none⟩ = some (.string f.t.nm) := by have := hat 7 _ rfl (by omega); exact this
      have z8 : wV.cell? ⟨g, k * 11 + 8, none⟩ = some (.slice uo f.t.cols.length uc) := by have := hat 8 _ rfl (by omega); rw [eu] at this; exact this
      have z9 : wV.cell? ⟨g, k * 11 + 9, none⟩ = some (.int .i64 f.t.key) := by have := hat 9 _ rfl (by omega); exact this
      obtain ⟨m, hm⟩ : ∃ m, m = f.t.cols.length := ⟨_, rfl⟩
      have Hq : Hid (∀ W, Tch (fun _ => False) wV W → Calls Try.prog 31 #[tA f.t.id f.t.ver f.t.nm (.slice vo m vc) f.t.key, tA f.t.id f.t.ver f.t.nm (.slice uo m uc) f.t.key] W fun x w' => x = .returned (.bool true) ∧ Tch (fun _ => False) W w') := fun W tW => by
        rw [hm]; exact same_true f.t vo uo vc uc W ((own_sl s1).no tW) ((own_sl s2).no tW) (by omega)
      rw [← hm] at z3 z8
      subst hg
      have HS : Hid (∀ W, Tch (fun _ => False) wV W → Tch (fun _ => False) wV W ∧ W.cell? ⟨g, k * 11, none⟩ = some (.int .i64 f.t.id) ∧ W.cell? ⟨g, k * 11 + 1, none⟩ = some (.int .i64 f.t.ver) ∧ W.cell? ⟨g, k * 11 + 2, none⟩ = some (.string f.t.nm) ∧ W.cell? ⟨g, k * 11 + 3, none⟩ = some (.slice vo m vc) ∧ W.cell? ⟨g, k * 11 + 4, none⟩ = some (.int .i64 f.t.key) ∧ W.cell? ⟨g, k * 11 + 5, none⟩ = some (.int .i64 f.t.id) ∧ W.cell? ⟨g, k * 11 + 6, none⟩ = some (.int .i64 f.t.ver) ∧ W.cell? ⟨g, k * 11 + 7, none⟩ = some (.string f.t.nm) ∧ W.cell? ⟨g, k * 11 + 8, none⟩ = some (.slice uo m uc) ∧ W.cell? ⟨g, k * 11 + 9, none⟩ = some (.int .i64 f.t.key)) := fun W tW => by
        have key : ∀ (a : Addr) u, wV.cell? a = some u → W.cell? a = some u := fun a u h => by rw [tW.cell (p := a) (cell_lt h) (fun h => h)]; exact h
        exact ⟨tW, key _ _ z0, key _ _ z1, key _ _ z2, key _ _ z3, key _ _ z4, key _ _ z5, key _ _ z6, key _ _ z7, key _ _ z8, key _ _ z9⟩
      clear hat r1 r2 r3 s1 s2 ev eu hm hf
      go_wp2_with fail
      clear z0 z1 z2 z3 z4 z5 z6 z7 z8 z9
      obtain ⟨_, z0, z1, z2, z3, z4, z5, z6, z7, z8, z9⟩ := HS.out wV (Tch.refl _ _)
      go_region_held3 (fun W => Tch (fun _ => False) wV W ∧ W.cell? ⟨g, k * 11, none⟩ = some (.int .i64 f.t.id) ∧ W.cell? ⟨g, k * 11 + 1, none⟩ = some (.int .i64 f.t.ver) ∧ W.cell? ⟨g, k * 11 + 2, none⟩ = some (.string f.t.nm) ∧ W.cell? ⟨g, k * 11 + 3, none⟩ = some (.slice vo m vc) ∧ W.cell? ⟨g, k * 11 + 4, none⟩ = some (.int .i64 f.t.key) ∧ W.cell? ⟨g, k * 11 + 5, none⟩ = some (.int .i64 f.t.id) ∧ W.cell? ⟨g, k * 11 + 6, none⟩ = some (.int .i64 f.t.ver) ∧ W.cell? ⟨g, k * 11 + 7, none⟩ = some (.string f.t.nm) ∧ W.cell? ⟨g, k * 11 + 8, none⟩ = some (.slice uo m uc) ∧ W.cell? ⟨g, k * 11 + 9, none⟩ = some (.int .i64 f.t.key))
        ((refine HS.out _ ?_; first | assumption | exact (Tch.refl _ _).drew))
        ((go_at_call 31; refine (Hq.out _ (show _ ∧ _ by assumption).1).mono ?_; rintro y w5 ⟨rfl, t5⟩; have V5 := Tch.trans' (show _ ∧ _ by assumption).1 t5))
      go_wp2_with fail
      go_roundw
      case rel => exact ⟨k + 1, by go_num, by omega, HT.out.trans' V5⟩
      case measure => simp [intOf]; omega
    · have HJ0 : Hid (AG wV (ext w o 0) b (cur.setIfInBounds 4 cv) C T cv tv lo n lc L (L.drop 0) [] none 0 0 ∧ C.length + 20 * (0 + (n - 0)) = C.length + 20 * n ∧ Ev KA w o wV (ext w o 0)) := by
        rw [set_same HL.out.c4]
        exact ⟨HLV.out.ag, by omega, (Ev.quiet 0 HT.out).mono (fun j e => .inl e)⟩
      clear HLV hk
      go_wp2_with fail
      go_loopg [3, 7, 8] n (fun kx s3 s7 s8 wr => ∃ (q rn : Nat) (ro : Option Addr) (rc : Nat) (o1 : Nat → Nat) (C1 : List Value) (cv1 : Value) (R : List Fr), s3 = .slice ro rn rc ∧ s7 = .int .i64 q ∧ n - q ≤ kx ∧ q ≤ n ∧ rn ≤ q ∧ Hid (AG wr o1 b (cur.setIfInBounds 4 cv1) C1 T cv1 tv lo n lc L (L.drop q) R ro rn rc ∧ C1.length + 20 * (rn + (n - q)) = C.length + 20 * n ∧ Ev KA w o wr o1))
      case atStart => exact ⟨0, 0, none, 0, _, C, cv, [], rfl, rfl, by omega, by omega, by omega, HJ0⟩
      case round =>
        clear HJ0 HT
        rename World => wr
        obtain ⟨q, rn, ro, rc, o1, C1, cv1, R, rfl, rfl, hqx, hq, hrn, J⟩ := hrel
        by_cases hqn : q < n
        · have hqn' : (q : Int) < (n : Int) := by omega
          obtain ⟨f, hf⟩ : ∃ f, L[q]? = some f := ⟨_, List.getElem?_eq_getElem (by have := HL.out.len; omega)⟩
          have hfd : L.drop q = f :: L.drop (q + 1) := by
            have h1 := (List.getElem?_eq_some_iff.1 hf)
            rw [List.drop_eq_getElem_cons h1.1, h1.2]
          have HD : Hid (AG wr o1 b (cur.setIfInBounds 4 cv1) C1 T cv1 tv lo n lc L (f :: L.drop (q + 1)) R ro rn rc) := by have := J.out.1; rw [hfd] at this; exact this
          have HJ2 : Hid (C1.length + 20 * (rn + (n - q)) = C.length + 20 * n ∧ Ev KA w o wr o1) := J.out.2
          obtain ⟨g, hg, hat⟩ := fr_at HD.out.fl HD.out.len hf
          obtain ⟨r1, r2, r3, r4, r5⟩ := HD.out.fv f (List.mem_append_right _ (.head _))
          obtain ⟨vo, vc, ev⟩ := row_slice r1.row
          obtain ⟨uo, uc, eu⟩ := row_slice r2.row
          obtain ⟨fa, hfa⟩ : ∃ fa, fa = f.a := ⟨_, rfl⟩
          have z0 : wr.cell? ⟨g, q * 11, none⟩ = some (.int .i64 f.t.id) := by have := hat 0 _ rfl (by omega); exact this
          have z1 : wr.cell? ⟨g, q * 11 + 1, none⟩ = some (.int .i64 f.t.ver) := by have := hat 1 _ rfl (by omega); exact this
          have z2 : wr.cell? ⟨g, q * 11 + 2, none⟩ = some (.string f.t.nm) := by have := hat 2 _ rfl (by omega); exact this
          have z3 : wr.cell? ⟨g, q * 11 + 3, none⟩ = some (.slice vo f.t.cols.length vc) := by have := hat 3 _ rfl (by omega); rw [ev] at this; exact this
          have z4 : wr.cell? ⟨g, q * 11 + 4, none⟩ = some (.int .i64 f.t.key) := by have := hat 4 _ rfl (by omega); exact this
          have z5 : wr.cell? ⟨g, q * 11 + 5, none⟩ = some (.int .i64 f.t.id) := by have := hat 5 _ rfl (by omega); exact this
          have z6 : wr.cell? ⟨g, q * 11 + 6, none⟩ = some (.int .i64 f.t.ver) := by have := hat 6 _ rfl (by omega); exact this
          have z7 : wr.cell? ⟨g, q * 11 + 7, none⟩ = some (.string f.t.nm) := by have := hat 7 _ rfl (by omega); exact this
          have z8 : wr.cell? ⟨g, q * 11 + 8, none⟩ = some (.slice uo f.t.cols.length uc) := by have := hat 8 _ rfl (by omega); rw [eu] at this; exact this
          have z9 : wr.cell? ⟨g, q * 11 + 9, none⟩ = some (.int .i64 f.t.key) := by have := hat 9 _ rfl (by omega); exact this
          have z10 : wr.cell? ⟨g, q * 11 + 10, none⟩ = some (.int .i64 fa) := by have := hat 10 _ rfl (by omega); rw [hfa]; exact this
          have HV9 : Hid (f.v = .slice vo f.t.cols.length vc ∧ f.u = .slice uo f.t.cols.length uc ∧ f.t.cols.length ≤ 8) := ⟨ev, eu, r3⟩
          have HFA : Hid (fa = f.a) := hfa
          have hfa01 : fa = 0 ∨ fa = 1 := by omega
          obtain ⟨mm, hmm⟩ : ∃ mm, mm = f.t.cols.length := ⟨_, rfl⟩
          rw [← hmm] at z3 z8 HV9
          have Hmm : Hid (mm = f.t.cols.length) := hmm
          subst hg
          clear hf hfd J r1 r2 r3 r4 r5 ev eu hfa hat hmm
          obtain ⟨N, hN⟩ : ∃ N, N = wr.heap.size := ⟨_, rfl⟩
          rcases hfa01 with h0 | h0
          · subst h0
            obtain ⟨w1, hw1⟩ : ∃ w1, w1 = wr.alloc (.cells #[.int .i64 f.t.id, .int .i64 f.t.ver, .string f.t.nm, .slice vo mm vc, .int .i64 f.t.key, .int .i64 f.t.id, .int .i64 f.t.ver, .string f.t.nm, .slice uo mm uc, .int .i64 f.t.key, .int .i64 1] 108) := ⟨_, rfl⟩
            have b1 : w1.heap[N]? = some (.cells #[.int .i64 f.t.id, .int .i64 f.t.ver, .string f.t.nm, .slice vo mm vc, .int .i64 f.t.key, .int .i64 f.t.id, .int .i64 f.t.ver, .string f.t.nm, .slice uo mm uc, .int .i64 f.t.key, .int .i64 1] 108 (0, 0)) := by rw [hw1, hN]; exact alloc_new _ _
            have t1 : Tch (fun _ => False) wr w1 := by rw [hw1]; exact Tch.alloc _ _ _
            have e1 := Ev.quiet (o := o1) 0 t1
            have HA1 : Hid (AG w1 (ext wr o1 0) b (cur.setIfInBounds 4 cv1) C1 T cv1 tv (some ⟨g, 0, none⟩) n lc L (f :: L.drop (q + 1)) R ro rn rc) := HD.out.ev e1 (by omega)
            have HE1 : Hid (Ev KA w o w1 (ext wr o1 0)) := HJ2.out.2.trans (e1.mono (fun j e => .inl e))
            have HW1 : Hid (w1 = _) := hw1
            have HN : Hid (N = wr.heap.size) := hN
            have y0 : w1.cell? ⟨N, 0, none⟩ = some (.int .i64 f.t.id) := blk_cell b1 0
            have y1 : w1.cell? ⟨N, 1, none⟩ = some (.int .i64 f.t.ver) := blk_cell b1 1
            have y2 : w1.cell? ⟨N, 2, none⟩ = some (.string f.t.nm) := blk_cell b1 2
            have y3 : w1.cell? ⟨N, 3, none⟩ = some (.slice vo mm vc) := blk_cell b1 3
            have y4 : w1.cell? ⟨N, 4, none⟩ = some (.int .i64 f.t.key) := blk_cell b1 4
            have y5 : w1.cell? ⟨N, 5, none⟩ = some (.int .i64 f.t.id) := blk_cell b1 5
            have y6 : w1.cell? ⟨N, 6, none⟩ = some (.int .i64 f.t.ver) := blk_cell b1 6
            have y7 : w1.cell? ⟨N, 7, none⟩ = some (.string f.t.nm) := blk_cell b1 7
            have y8 : w1.cell? ⟨N, 8, none⟩ = some (.slice uo mm uc) := blk_cell b1 8
            have y9 : w1.cell? ⟨N, 9, none⟩ = some (.int .i64 f.t.key) := blk_cell b1 9
            have y10 : w1.cell? ⟨N, 10, none⟩ = some (.int .i64 1) := blk_cell b1 10
            have HB1 : Hid _ := b1
            clear hw1 t1 e1 hN HD b1
            go_upto_region 14 with (fail)
            rw [← HW1.out, ← HN.out]
            clear z0 z1 z2 z3 z4 z5 z6 z7 z8 z9 z10
            obtain ⟨w6, hw6⟩ : ∃ w6, w6 = w1.alloc (.cells #[.int .i64 f.t.id, .int .i64 f.t.ver, .string f.t.nm, .slice vo mm vc, .int .i64 f.t.key, .int .i64 f.t.id, .int .i64 f.t.ver, .string f.t.nm, .slice uo mm uc, .int .i64 f.t.key, .int .i64 1] 108) := ⟨_, rfl⟩
            have t6 : Tch (fun _ => False) w1 w6 := by rw [hw6]; exact Tch.alloc _ _ _
            have ecs : (⟨f.t, f.v, f.u, 1⟩ : Fr).cs = [.int .i64 f.t.id, .int .i64 f.t.ver, .string f.t.nm, .slice vo mm vc, .int .i64 f.t.key, .int .i64 f.t.id, .int .i64 f.t.ver, .string f.t.nm, .slice uo mm uc, .int .i64 f.t.key, .int .i64 1] := by unfold Fr.cs; rw [HV9.out.1, HV9.out.2.1]
            have hg6 : At w6 w1.heap.size 0 (⟨f.t, f.v, f.u, 1⟩ : Fr).cs := by rw [ecs, hw6]; exact blk_at' (alloc_new w1 (.cells (List.toArray [.int .i64 f.t.id, .int .i64 f.t.ver, .string f.t.nm, .slice vo mm vc, .int .i64 f.t.key, .int .i64 f.t.id, .int .i64 f.t.ver, .string f.t.nm, .slice uo mm uc, .int .i64 f.t.key, .int .i64 1]) 108))
            have e6 := Ev.quiet (o := ext wr o1 0) 0 t6
            have hA6 := HA1.out.ev e6 (by omega)
            obtain ⟨ro2, rc2, w7, hr7, ho7, t7, hat7⟩ := fr_app hA6.rl hA6.rlen ⟨f.t, f.v, f.u, 1⟩ w1.heap.size hg6 (Fr.one _ ⟨_, _, _, HV9.out.1⟩ ⟨_, _, _, HV9.out.2.1⟩) (by have := HB.out; omega) (Nat.zero_le _)
            obtain ⟨o2, hA7, e7⟩ := hA6.keep ho7 t7 hat7
            have HJ7 : Hid (AG w7 o2 b (cur.setIfInBounds 4 cv1) C1 T cv1 tv (some ⟨g, 0, none⟩) n lc L (L.drop (q + 1)) (R ++ [⟨f.t, f.v, f.u, 1⟩]) ro2 (rn + 1) rc2 ∧ C1.length + 20 * (rn + 1 + (n - (q + 1))) = C.length + 20 * n ∧ Ev KA w o w7 o2) := ⟨hA7, by have := HJ2.out.1; omega, (HE1.out.trans (e6.mono (fun j e => .inl e))).trans (e7.mono (fun j e => by show _ ∨ _; omega))⟩
            rw [hw6] at hr7
            clear hw6 t6 ecs hg6 e6 hA6 ho7 t7 hat7 hA7 e7
            go_wp2_with (at_builtin; refine wpList_app _ rfl _ _ 57 rfl rfl _ _ rfl rfl hr7 ?_)
            go_roundg (n - (q + 1))
            case measure => omega
            case rel => exact ⟨q + 1, rn + 1, ro2, rc2, o2, C1, cv1, _, rfl, rfl, by omega, by omega, by omega, HJ7⟩
          · subst h0
            obtain ⟨w1, hw1⟩ : ∃ w1, w1 = wr.alloc (.cells #[.int .i64 f.t.id, .int .i64 f.t.ver, .string f.t.nm, .slice vo mm vc, .int .i64 f.t.key, .int .i64 f.t.id, .int .i64 f.t.ver, .string f.t.nm, .slice uo mm uc, .int .i64 f.t.key, .int .i64 2] 108) := ⟨_, rfl⟩
            have b1 : w1.heap[N]? = some (.cells #[.int .i64 f.t.id, .int .i64 f.t.ver, .string f.t.nm, .slice vo mm vc, .int .i64 f.t.key, .int .i64 f.t.id, .int .i64 f.t.ver, .string f.t.nm, .slice uo mm uc, .int .i64 f.t.key, .int .i64 2] 108 (0, 0)) := by rw [hw1, hN]; exact alloc_new _ _
            have t1 : Tch (fun _ => False) wr w1 := by rw [hw1]; exact Tch.alloc _ _ _
            have e1 := Ev.quiet (o := o1) 0 t1
            have HA1 : Hid (AG w1 (ext wr o1 0) b (cur.setIfInBounds 4 cv1) C1 T cv1 tv (some ⟨g, 0, none⟩) n lc L (f :: L.drop (q + 1)) R ro rn rc) := HD.out.ev e1 (by omega)
            have HE1 : Hid (Ev KA w o w1 (ext wr o1 0)) := HJ2.out.2.trans (e1.mono (fun j e => .inl e))
            have HW1 : Hid (w1 = _) := hw1
            have HN : Hid (N = wr.heap.size) := hN
            have y0 : w1.cell? ⟨N, 0, none⟩ = some (.int .i64 f.t.id) := blk_cell b1 0
            have y1 : w1.cell? ⟨N, 1, none⟩ = some (.int .i64 f.t.ver) := blk_cell b1 1
            have y2 : w1.cell? ⟨N, 2, none⟩ = some (.string f.t.nm) := blk_cell b1 2
            have y3 : w1.cell? ⟨N, 3, none⟩ = some (.slice vo mm vc) := blk_cell b1 3
            have y4 : w1.cell? ⟨N, 4, none⟩ = some (.int .i64 f.t.key) := blk_cell b1 4
            have y5 : w1.cell? ⟨N, 5, none⟩ = some (.int .i64 f.t.id) := blk_cell b1 5
            have y6 : w1.cell? ⟨N, 6, none⟩ = some (.int .i64 f.t.ver) := blk_cell b1 6
            have y7 : w1.cell? ⟨N, 7, none⟩ = some (.string f.t.nm) := blk_cell b1 7
            have y8 : w1.cell? ⟨N, 8, none⟩ = some (.slice uo mm uc) := blk_cell b1 8
            have y9 : w1.cell? ⟨N, 9, none⟩ = some (.int .i64 f.t.key) := blk_cell b1 9
            have y10 : w1.cell? ⟨N, 10, none⟩ = some (.int .i64 2) := blk_cell b1 10
            have HB1 : Hid _ := b1
            clear hw1 t1 e1 hN HD b1
            go_upto_region 14 with (fail)
            rw [← HW1.out, ← HN.out]
            clear z0 z1 z2 z3 z4 z5 z6 z7 z8 z9 z10
            have hfv := HA1.out.fv f (List.mem_append_right _ (.head _))
            have hvr : w1.ownsRow 0 80 3 (.slice vo mm vc) f.t.cols.length (ccl f.t.cols) := by have := hfv.1.row; rw [HV9.out.1] at this; exact this
            have q1 := marks_o w1 (ext wr o1 0) b _ C1 cv1 (.slice vo mm vc) f.t.cols f.t.id f.t.ver f.t.nm f.t.key HA1.out.blk HA1.out.sz HA1.out.own HA1.out.c4 HA1.out.cs hvr (by have := HV9.out.2.2; have := Hmm.out; omega) (by have := hfv.1.lab; rw [HV9.out.1] at this; exact this) (by have := HJ2.out.1; have := HB.out; omega) HA1.out.c20
            clear hfv hvr
            go_wp2_with fail
            refine q1.mono ?_
            rintro x w7 ⟨rfl, o2, cv2, C2, hC2, hb7, hL7, hm7⟩
            have hm7' : Mk w1 (ext wr o1 0) w7 o2 (fun i => f.v.ownBlock = some i) := by rw [HV9.out.1]; exact hm7
            obtain ⟨hA7, e7⟩ := HA1.out.mark hC2 hb7 hL7 hm7'
            rw [Array.setIfInBounds_setIfInBounds] at hA7
            have HJ7 : Hid (AG w7 o2 b (cur.setIfInBounds 4 cv2) C2 T cv2 tv (some ⟨g, 0, none⟩) n lc L (L.drop (q + 1)) R ro rn rc ∧ C2.length + 20 * (rn + (n - (q + 1))) = C.length + 20 * n ∧ Ev KA w o w7 o2) := ⟨hA7, by have := HJ2.out.1; omega, HE1.out.trans (e7.mono (fun j e => by show _ ∨ _; omega))⟩
            clear q1 hC2 hb7 hL7 hm7 hm7' hA7 e7 y0 y1 y2 y3 y4 y5 y6 y7 y8 y9 y10
            go_wp2_with fail
            go_roundg (n - (q + 1))
            case measure => omega
            case rel => exact ⟨q + 1, rn, ro, rc, o2, C2, cv2, R, rfl, rfl, by omega, by omega, by omega, HJ7⟩
        · have hqn' : ¬ (q : Int) < (n : Int) := by omega
          obtain rfl : q = n := by omega
          have hJ1 := J.out.1
          rw [List.drop_eq_nil_of_le (by rw [← HL.out.len]; exact Nat.le_refl _)] at hJ1
          obtain ⟨hL2, e2⟩ := hJ1.done
          obtain ⟨w2, hw2⟩ : ∃ w2, w2 = wr.setCell ⟨b, 6, none⟩ (.slice ro rn rc) := ⟨_, rfl⟩
          rw [← hw2] at hL2 e2
          have HW2 : Hid (w2 = _) := hw2
          have HL2 : Hid (LW w2 o1 b ((cur.setIfInBounds 4 cv1).setIfInBounds 6 (.slice ro rn rc)) C1 T cv1 tv ro rn rc R) := hL2
          have HE2 : Hid (C1.length + 20 * rn = C.length + 20 * q ∧ rn ≤ q ∧ Ev KA w o w2 o1) := ⟨by have := J.out.2.1; omega, hrn, J.out.2.2.trans (e2.mono (fun j e => by show _ ∨ _; omega))⟩
          have d6 : wr.cell? ⟨b, 6, none⟩ = some (.slice lo q lc) := by rw [blk_cell hJ1.blk]; exact hJ1.c6
          have df := blk_frozen hJ1.blk
          clear hJ1 hL2 e2 hw2 J
          have hrn9 : rn ≤ 1099511627776 := by omega
          go_upto_region 18 with (fail)
          rw [← HW2.out]
          clear d6 df hqn hqn' hqx hq
          go_wp2_with fail
          go_loopw [9] (fun i wr => ∃ k : Nat, i = .int .i64 k ∧ k ≤ rn ∧ Hid (Tch (fun _ => False) w2 wr)) (fun i _ => rn - (intOf i).toNat)
          case atStart => exact ⟨0, rfl, by omega, Tch.refl _ _⟩
          case round =>
            obtain ⟨k, rfl, hk, HT⟩ := hrel
            obtain ⟨wV, hwV⟩ : ∃ wV, wV = wr := ⟨_, rfl⟩
            subst hwV
            have HLV : Hid (LW wV (ext w2 o1 0) b ((cur.setIfInBounds 4 cv1).setIfInBounds 6 (.slice ro rn rc)) C1 T cv1 tv ro rn rc R) := HL2.out.ev (Ev.quiet 0 HT.out) (by omega)
            by_cases hlt : (k : Int) < rn
            · obtain ⟨f, hf⟩ : ∃ f, R[k]? = some f := ⟨_, List.getElem?_eq_getElem (by have := HL2.out.len; omega)⟩
              obtain ⟨g, hg, hat⟩ := fr_at HLV.out.fl HLV.out.len hf
              obtain ⟨r1, r2, r3, -, -⟩ := (HLV.out.fv f (List.mem_of_getElem? hf))
              obtain ⟨vo, vc, ev⟩ := row_slice r1.row
              obtain ⟨uo, uc, eu⟩ := row_slice r2.row
              have s1 := r1.row
              have s2 := r2.row
              rw [ev] at s1
              rw [eu] at s2
              have z0 : wV.cell? ⟨g, k * 11, none⟩ = some (.int .i64 f.t.id) := by have := hat 0 _ rfl (by omega); exact this
              have z1 : wV.cell? ⟨g, k * 11 + 1, none⟩ = some (.int .i64 f.t.ver) := by have := hat 1 _ rfl (by omega); exact this
              have z2 : wV.cell? ⟨g, k * 11 + 2, none⟩ = some (.string f.t.nm) := by have := hat 2 _ rfl (by omega); exact this
              have z3 : wV.cell? ⟨g, k * 11 + 3, none⟩ = some (.slice vo f.t.cols.length vc) := by have := hat 3 _ rfl (by omega); rw [ev] at this; exact this
              have z4 : wV.cell? ⟨g, k * 11 + 4, none⟩ = some (.int .i64 f.t.key) := by have := hat 4 _ rfl (by omega); exact this
              have z5 : wV.cell? ⟨g, k * 11 + 5, none⟩ = some (.int .i64 f.t.id) := by have := hat 5 _ rfl (by omega); exact this
              have z6 : wV.cell? ⟨g, k * 11 + 6, none⟩ = some (.int .i64 f.t.ver) := by have := hat 6 _ rfl (by omega); exact this
              have z7 : wV.cell? ⟨g, k * 11 + 7, none⟩ = some (.string f.t.nm) := by have := hat 7 _ rfl (by omega); exact this
              have z8 : wV.cell? ⟨g, k * 11 + 8, none⟩ = some (.slice uo f.t.cols.length uc) := by have := hat 8 _ rfl (by omega); rw [eu] at this; exact this
              have z9 : wV.cell? ⟨g, k * 11 + 9, none⟩ = some (.int .i64 f.t.key) := by have := hat 9 _ rfl (by omega); exact this
              obtain ⟨m, hm⟩ : ∃ m, m = f.t.cols.length := ⟨_, rfl⟩
              have Hq : Hid (∀ W, Tch (fun _ => False) wV W → Calls Try.prog 31 #[tA f.t.id f.t.ver f.t.nm (.slice vo m vc) f.t.key, tA f.t.id f.t.ver f.t.nm (.slice uo m uc) f.t.key] W fun x w' => x = .returned (.bool true) ∧ Tch (fun _ => False) W w') := fun W tW => by
                rw [hm]; exact same_true f.t vo uo vc uc W ((own_sl s1).no tW) ((own_sl s2).no tW) (by omega)
              rw [← hm] at z3 z8
              subst hg
              have HS : Hid (∀ W, Tch (fun _ => False) wV W → Tch (fun _ => False) wV W ∧ W.cell? ⟨g, k * 11, none⟩ = some (.int .i64 f.t.id) ∧ W.cell? ⟨g, k * 11 + 1, none⟩ = some (.int .i64 f.t.ver) ∧ W.cell? ⟨g, k * 11 + 2, none⟩ = some (.string f.t.nm) ∧ W.cell? ⟨g, k * 11 + 3, none⟩ = some (.slice vo m vc) ∧ W.cell? ⟨g, k * 11 + 4, none⟩ = some (.int .i64 f.t.key) ∧ W.cell? ⟨g, k * 11 + 5, none⟩ = some (.int .i64 f.t.id) ∧ W.cell? ⟨g, k * 11 + 6, none⟩ = some (.int .i64 f.t.ver) ∧ W.cell? ⟨g, k * 11 + 7, none⟩ = some (.string f.t.nm) ∧ W.cell? ⟨g, k * 11 + 8, none⟩ = some (.slice uo m uc) ∧ W.cell? ⟨g, k * 11 + 9, none⟩ = some (.int .i64 f.t.key)) := fun W tW => by
                have key : ∀ (a : Addr) u, wV.cell? a = some u → W.cell? a = some u := fun a u h => by rw [tW.cell (p := a) (cell_lt h) (fun h => h)]; exact h
                exact ⟨tW, key _ _ z0, key _ _ z1, key _ _ z2, key _ _ z3, key _ _ z4, key _ _ z5, key _ _ z6, key _ _ z7, key _ _ z8, key _ _ z9⟩
              clear hat r1 r2 r3 s1 s2 ev eu hm hf
              go_wp2_with fail
              clear z0 z1 z2 z3 z4 z5 z6 z7 z8 z9
              obtain ⟨_, z0, z1, z2, z3, z4, z5, z6, z7, z8, z9⟩ := HS.out wV (Tch.refl _ _)
              go_region_held3 (fun W => Tch (fun _ => False) wV W ∧ W.cell? ⟨g, k * 11, none⟩ = some (.int .i64 f.t.id) ∧ W.cell? ⟨g, k * 11 + 1, none⟩ = some (.int .i64 f.t.ver) ∧ W.cell? ⟨g, k * 11 + 2, none⟩ = some (.string f.t.nm) ∧ W.cell? ⟨g, k * 11 + 3, none⟩ = some (.slice vo m vc) ∧ W.cell? ⟨g, k * 11 + 4, none⟩ = some (.int .i64 f.t.key) ∧ W.cell? ⟨g, k * 11 + 5, none⟩ = some (.int .i64 f.t.id) ∧ W.cell? ⟨g, k * 11 + 6, none⟩ = some (.int .i64 f.t.ver) ∧ W.cell? ⟨g, k * 11 + 7, none⟩ = some (.string f.t.nm) ∧ W.cell? ⟨g, k * 11 + 8, none⟩ = some (.slice uo m uc) ∧ W.cell? ⟨g, k * 11 + 9, none⟩ = some (.int .i64 f.t.key))
                ((refine HS.out _ ?_; first | assumption | exact (Tch.refl _ _).drew))
                ((go_at_call 31; refine (Hq.out _ (show _ ∧ _ by assumption).1).mono ?_; rintro y w5 ⟨rfl, t5⟩; have V5 := Tch.trans' (show _ ∧ _ by assumption).1 t5))
              go_wp2_with fail
              go_roundw
              case rel => exact ⟨k + 1, by go_num, by omega, HT.out.trans' V5⟩
              case measure => simp [intOf]; omega
            · go_wp2_with fail
              go_ret
              exact ⟨rfl, _, C1, cv1, ro, rn, rc, R, HLV.out, HE2.out.1, HE2.out.2.1, HE2.out.2.2.trans ((Ev.quiet 0 HT.out).mono (fun j e => .inl e))⟩
end Go.Proofs.Ytkcmpipipelgoaa
