import Derived.Test.YteaagnlhkopgdaaGreatDoorRV9
import Derived.Test.YteaagnlhkopgdaaGreatDoorDNe2
import Derived.Test.YteaagnlhkopgdaaGreatDoorRows
import Derived.Test.YteaagnlhkopgdaaGreatDoorCRight2
import Derived.Test.YteaagnlhkopgdaaGreatDoorCCopy
import Derived.ProofKit
import Derived.SizedLaws
import Derived.OpenShut
import Derived.Deep.Slices
import Derived.Test.YteaagnlhkopgdaaGreatDoorRV3
import Derived.ChangeSame
import Derived.ChangeVars
import Derived.JoinedOf
import Derived.RowKit
import Derived.RowKitTokens
import Derived.LaidLaws
import Derived.LaidHandle
import Derived.LaidMore
import Derived.Stop.Joined
set_option maxRecDepth 100000
namespace Go.Proofs.YteaagnlhkopgdaaGreatDoor.C
open Go.RowKit Go Go.Sort
set_option maxRecDepth 100000
def pkN (c : Int) (n : Nat) : Nat := ((if c < 0 then -(c + 1) else c) % (n : Int)).toNat
theorem pkN_lt (c : Int) {n : Nat} (h : 0 < n) : pkN c n < n := by
  unfold pkN
  have h1 := Int.emod_nonneg (if c < 0 then -(c + 1) else c) (show (n : Int) ≠ 0 by omega)
  have h2 := Int.emod_lt_of_pos (if c < 0 then -(c + 1) else c) (show (0 : Int) < n by omega)
  omega
theorem pick_any (c : Int) (n : Nat) (w : World) (h1 : -9223372036854775808 ≤ c) (h2 : c ≤ 9223372036854775807) (hn : 0 < n) (hn2 : n ≤ 9223372036854775807) : Calls Tryz.prog 12 #[.int .i64 c, .int .i64 n] w fun x w' => x = .returned (.int .i64 (pkN c n)) ∧ w' = w := by
  have hn0 : ¬ (n : Int) = 0 := by omega
  have hnb : ((n : Int) == 0) = false := by simp; omega
  by_cases hc : c < 0
  · obtain ⟨d, hd⟩ : ∃ d : Nat, -(c + 1) = d := ⟨(-(c + 1)).toNat, by omega⟩
    obtain ⟨rfl⟩ : c = -(d : Int) - 1 := by omega
    have HE : Hid (((d : Int) % n) = (pkN (-(d : Int) - 1) n : Nat)) := by
      show _ = _
      have e : (if (-(d : Int) - 1) < 0 then -((-(d : Int) - 1) + 1) else (-(d : Int) - 1)) = (d : Int) := by rw [if_pos hc]; omega
      simp only [pkN, e]
      have := Int.emod_nonneg (d : Int) (show (n : Int) ≠ 0 by omega)
      omega
    clear hd
    go_enter Tryz.func12, Tryz.ntmps12
    go_wp2
    go_ret
    exact ⟨by rw [← HE.out]; rfl, rfl⟩
  · obtain ⟨d, rfl⟩ : ∃ d : Nat, c = d := ⟨c.toNat, by omega⟩
    have HE : Hid (((d : Int) % n) = (pkN (d : Int) n : Nat)) := by
      show _ = _
      have e : (if (d : Int) < 0 then -((d : Int) + 1) else (d : Int)) = (d : Int) := if_neg (by omega)
      simp only [pkN, e]
      have := Int.emod_nonneg (d : Int) (show (n : Int) ≠ 0 by omega)
      omega
    go_enter Tryz.func12, Tryz.ntmps12
    go_wp2
    go_ret
    exact ⟨by rw [← HE.out]; rfl, rfl⟩
theorem bodyL_len : ∀ (c : Nat) (r : Rc), rightC c r → (bodyL c r).length ≤ 3999
  | 0, _, h => h.elim
  | 1, r, _ => by
    show (dg r.x.toNat ++ dg r.l.toNat).length ≤ _
    have := dg_len r.x.toNat
    have := dg_len r.l.toNat
    simp only [List.length_append]; omega
  | 2, r, h => by
    show (tabL r.tb).length ≤ _
    have := tabL_len6 (right_rt h)
    omega
  | 3, r, _ => by
    show (dg r.t.toNat ++ rowL r.n).length ≤ _
    have := dg_len r.t.toNat
    have := rowL_len r.n
    simp only [List.length_append]; omega
  | 4, r, _ => by
    show (dg r.t.toNat ++ (rowL r.o ++ rowL r.n)).length ≤ _
    have := dg_len r.t.toNat
    have := rowL_len r.n
    have := rowL_len r.o
    simp only [List.length_append]; omega
  | 5, r, _ => by
    show (dg r.t.toNat ++ rowL r.o).length ≤ _
    have := dg_len r.t.toNat
    have := rowL_len r.o
    simp only [List.length_append]; omega
  | 6, r, _ => by
    show (dg r.t.toNat).length ≤ _
    have := dg_len r.t.toNat
    omega
  | 7, r, _ => by
    show (dg r.x.toNat ++ (dg r.l.toNat ++ dg r.e.toNat)).length ≤ _
    have := dg_len r.x.toNat
    have := dg_len r.l.toNat
    have := dg_len r.e.toNat
    simp only [List.length_append]; omega
  | 8, r, _ => by
    show (dg r.l.toNat).length ≤ _
    have := dg_len r.l.toNat
    omega
  | _ + 9, _, h => h.elim
theorem encS_size (r : Rc) : (encS r).size ≤ 4000 := by
  unfold encS
  split
  · rename_i h
    have h1 := bodyL_len _ r h.1
    have h2 : (⟨(recL r).toArray⟩ : ByteArray).size = (recL r).length := by show (recL r).toArray.size = _; simp
    rw [h2]
    unfold recL
    simp only [List.length_cons]; omega
  · exact Nat.zero_le _
end Go.Proofs.YteaagnlhkopgdaaGreatDoor.C
namespace Go.Proofs.YteaagnlhkopgdaaGreatDoor.C
open Go.ChangeShapes Go.WideShapes Go.ChangeAt Go.RowKit Go.Deep
set_option maxRecDepth 100000
theorem tr_own : ownKnob Tryz.prog.godebug = none := by kernel_rfl
theorem tr_laidOut : laidOutB Tryz.prog = true := by kernel_rfl
theorem c_int : Tryz.prog.cellsOf 3 = 1 := by kernel_rfl
theorem c_str : Tryz.prog.cellsOf 9 = 1 := by kernel_rfl
theorem c_bool : Tryz.prog.cellsOf 4 = 1 := by kernel_rfl
theorem c_val : Tryz.prog.cellsOf 52 = 3 := by kernel_rfl
theorem c_col : Tryz.prog.cellsOf 54 = 3 := by kernel_rfl
theorem c_cols : Tryz.prog.cellsOf 22 = 1 := by kernel_rfl
theorem c_tbl : Tryz.prog.cellsOf 24 = 5 := by kernel_rfl
theorem b_val : Tryz.prog.bytesOf 52 = 32 := by kernel_rfl
theorem b_col : Tryz.prog.bytesOf 54 = 32 := by kernel_rfl
theorem wf_i64 {n : Int} (h : (Lit.int .i64 n).wf = true) : -9223372036854775808 ≤ n ∧ n ≤ 9223372036854775807 := by
  have := bounds_i64 h
  omega
theorem list3 {α : Type} (l : List α) (h : l.length = 3) : ∃ c0 c1 c2, l = [c0, c1, c2] := by
  rcases l with _ | ⟨c0, _ | ⟨c1, _ | ⟨c2, _ | ⟨c3, l⟩⟩⟩⟩ <;> simp at h
  exact ⟨c0, c1, c2, rfl⟩
theorem list5 {α : Type} (l : List α) (h : l.length = 5) : ∃ c0 c1 c2 c3 c4, l = [c0, c1, c2, c3, c4] := by
  rcases l with _ | ⟨c0, _ | ⟨c1, _ | ⟨c2, _ | ⟨c3, _ | ⟨c4, _ | ⟨c5, l⟩⟩⟩⟩⟩⟩ <;> simp at h
  exact ⟨c0, c1, c2, c3, c4, rfl⟩
section
variable {H : Type} {enc : TypeId × Value → H} {W : World} {fuel : Nat} {x : DataW H × List MemPlace} {cs : List Value}
theorem col_of (h : DataW.trod enc Tryz.prog W 0 (fun _ => true) true fuel 54 cs = some x) : ∃ c : Col, cs = [.string c.nm, .int .i64 c.k, .bool c.nl] := by
  obtain ⟨xs, n', _, hx, hcl, hxl, hf⟩ := DataW.trod_struct Tryz.underlying54 h
  rw [c_col] at hcl
  have hxs : xs.length = 3 := hxl
  obtain ⟨c0, c1, c2, rfl⟩ := list3 cs hcl
  obtain ⟨y0, y1, y2, rfl⟩ := list3 xs hxs
  have f0 : DataW.trod enc Tryz.prog W 0 (fun _ => true) true n' 9 [c0] = some y0 := by have := hf 0 _ rfl; simpa [c_str] using this
  have f1 : DataW.trod enc Tryz.prog W 0 (fun _ => true) true n' 3 [c1] = some y1 := by have := hf 1 _ rfl; simpa [c_int] using this
  have f2 : DataW.trod enc Tryz.prog W 0 (fun _ => true) true n' 4 [c2] = some y2 := by have := hf 2 _ rfl; simpa [c_bool] using this
  obtain ⟨nm, e0, _⟩ := DataW.trod_string Tryz.underlying9 f0
  obtain ⟨ck, e1, _⟩ := DataW.trod_int Tryz.underlying3 f1
  obtain ⟨cn, e2, _⟩ := DataW.trod_bool Tryz.underlying4 f2
  simp at e0 e1 e2
  subst e0 e1 e2
  exact ⟨⟨nm, ck, cn⟩, rfl⟩
theorem list_of {α : Type} [Inhabited α] (f g k : α → Value) {t e : TypeId} (hu : Tryz.prog.underlying t = some (.slice e)) (hc : Tryz.prog.cellsOf e = 3) (hel : ∀ {fuel cs x}, DataW.trod enc Tryz.prog W 0 (fun _ => true) true fuel e cs = some x → ∃ v : α, cs = [f v, g v, k v]) {ao : Option Addr} {len cap : Nat}
    (h : DataW.trod enc Tryz.prog W 0 (fun _ => true) true fuel t [.slice ao len cap] = some x) :
    ∃ vs : List α, len = vs.length ∧ SL W ao (f3 f g k vs) ∧ (ao = none → vs = [] ∧ cap = 0) ∧ len ≤ cap ∧ len ≤ maxLen ∧ (vs ≠ [] → ∃ es sp, x.1 = .slice es sp ∧ es.length = vs.length) := by
  rcases open_slice hu h with ⟨h1, _⟩ | ⟨a, len', cap', m, n, D, Pl, h1, _, hl, hmx, hm, hx, hee⟩
  · simp at h1
    obtain ⟨rfl, rfl, rfl⟩ := h1
    exact ⟨[], rfl, SL.nil _ _, fun _ => ⟨rfl, rfl⟩, Nat.le_refl _, Nat.zero_le _, fun h => absurd rfl h⟩
  · simp only [List.cons.injEq, Value.slice.injEq, and_true] at h1
    obtain ⟨rfl, rfl, rfl⟩ := h1
    have hm' : m = cap := by simpa using hm
    rw [hc] at hee
    have key : ∀ i, i < len → ∃ u : α, W.cell? (a.add (i * 3)) = some (f u) ∧ W.cell? ((a.add (i * 3)).add 1) = some (g u) ∧ W.cell? ((a.add (i * 3)).add 2) = some (k u) := by
      intro i hi
      obtain ⟨cs', hc', ht⟩ := hee i (by omega)
      obtain ⟨_, hcl, hcc⟩ := World.cells?_some hc'
      obtain ⟨v, rfl⟩ := hel ht
      have g0 := hcc 0 (by simp)
      have g1 := hcc 1 (by simp)
      have g2 := hcc 2 (by simp)
      exact ⟨v, by simpa [Addr.add] using g0, by simpa using g1, by simpa using g2⟩
    have pick : ∃ vs : List α, vs.length = len ∧ ∀ i (hi : i < vs.length), W.cell? (a.add (i * 3)) = some (f vs[i]) ∧ W.cell? ((a.add (i * 3)).add 1) = some (g vs[i]) ∧ W.cell? ((a.add (i * 3)).add 2) = some (k vs[i]) := by
      classical
      refine ⟨List.ofFn (fun i : Fin len => (key i.1 i.2).choose), by simp, fun i hi => ?_⟩
      have hi' : i < len := by simpa using hi
      rw [List.getElem_ofFn]
      exact (key i hi').choose_spec
    obtain ⟨vs, rfl, hvs⟩ := pick
    refine ⟨vs, rfl, fun hv => ?_, fun h => (by cases h), by omega, by omega, fun _ => ⟨_, _, congrArg Prod.fst hx, by rw [List.length_map, List.length_range]⟩⟩
    have h0 : 0 < vs.length := List.length_pos_iff.2 (by rintro rfl; exact hv rfl)
    obtain ⟨b, off, spot⟩ := a
    have hspot : spot = none := by
      obtain ⟨h0', _⟩ := hvs 0 h0
      simpa [Addr.add] using World.cell?_spot h0'
    subst hspot
    refine ⟨b, off, rfl, fun j u hu' => ?_⟩
    have hj : j < vs.length * 3 := by rw [← f3_len f g k]; exact (List.getElem?_eq_some_iff.1 hu').1
    obtain ⟨q, r, rfl, hr⟩ : ∃ q r, j = q * 3 + r ∧ r < 3 := ⟨j / 3, j % 3, by omega, by omega⟩
    have hq : q < vs.length := by omega
    obtain ⟨h0', h1', h2'⟩ := hvs q hq
    obtain ⟨g0, g1, g2⟩ := f3_get f g k vs q hq
    simp only [add_plain] at h0' h1' h2'
    rcases (by omega : r = 0 ∨ r = 1 ∨ r = 2) with rfl | rfl | rfl
    · rw [Nat.add_zero] at hu' ⊢; rw [g0] at hu'; rw [h0', hu']
    · rw [g1] at hu'; rw [← Nat.add_assoc, h1', hu']
    · rw [g2] at hu'; rw [← Nat.add_assoc, h2', hu']
end
section
variable {H : Type} {enc : TypeId × Value → H} {W : World} {fuel : Nat} {x : DataW H × List MemPlace} {cs : List Value}
instance : Inhabited Val := ⟨nullV⟩
instance : Inhabited Col := ⟨⟨⟨#[]⟩, 0, false⟩⟩
theorem cols_of {ao : Option Addr} {len cap : Nat} (h : DataW.trod enc Tryz.prog W 0 (fun _ => true) true fuel 22 [.slice ao len cap] = some x) :
    ∃ vs : List Col, len = vs.length ∧ SL W ao (ccl vs) ∧ (ao = none → vs = [] ∧ cap = 0) ∧ len ≤ cap ∧ len ≤ maxLen ∧ (vs ≠ [] → ∃ es sp, x.1 = .slice es sp ∧ es.length = vs.length) :=
  list_of _ _ _ Tryz.underlying22 c_col (fun h => col_of h) h
theorem tbl_of (h : DataW.trod enc Tryz.prog W 0 (fun _ => true) true fuel 24 cs = some x) : ∃ (t : Tbl) (ao : Option Addr) (c : Nat), cs = [.int .i64 t.id, .int .i64 t.ver, .string t.nm, .slice ao t.cols.length c, .int .i64 t.key] ∧ SL W ao (ccl t.cols) ∧ (ao = none → t.cols = [] ∧ c = 0) ∧ t.cols.length ≤ c ∧ t.cols.length ≤ maxLen ∧
    ((-9223372036854775808 ≤ t.id ∧ t.id ≤ 9223372036854775807) ∧ (-9223372036854775808 ≤ t.ver ∧ t.ver ≤ 9223372036854775807) ∧ -9223372036854775808 ≤ t.key ∧ t.key ≤ 9223372036854775807) ∧ (t.cols ≠ [] → ∃ a b n es sp k, x.1 = .agg [a, b, n, .slice es sp, k] ∧ es.length = t.cols.length) := by
  obtain ⟨xs, n', _, hx, hcl, hxl, hf⟩ := DataW.trod_struct Tryz.underlying24 h
  rw [c_tbl] at hcl
  have hxs : xs.length = 5 := hxl
  obtain ⟨c0, c1, c2, c3, c4, rfl⟩ := list5 cs hcl
  obtain ⟨y0, y1, y2, y3, y4, rfl⟩ := list5 xs hxs
  have f0 : DataW.trod enc Tryz.prog W 0 (fun _ => true) true n' 3 [c0] = some y0 := by have := hf 0 _ rfl; simpa [c_int] using this
  have f1 : DataW.trod enc Tryz.prog W 0 (fun _ => true) true n' 3 [c1] = some y1 := by have := hf 1 _ rfl; simpa [c_int] using this
  have f2 : DataW.trod enc Tryz.prog W 0 (fun _ => true) true n' 9 [c2] = some y2 := by have := hf 2 _ rfl; simpa [c_str] using this
  have f3 : DataW.trod enc Tryz.prog W 0 (fun _ => true) true n' 22 [c3] = some y3 := by have := hf 3 _ rfl; simpa [c_cols] using this
  have f4 : DataW.trod enc Tryz.prog W 0 (fun _ => true) true n' 3 [c4] = some y4 := by have := hf 4 _ rfl; simpa [c_int] using this
  obtain ⟨id, e0, _, w0⟩ := DataW.trod_int Tryz.underlying3 f0
  obtain ⟨ver, e1, _, w1⟩ := DataW.trod_int Tryz.underlying3 f1
  obtain ⟨nm, e2, _⟩ := DataW.trod_string Tryz.underlying9 f2
  obtain ⟨key, e4, _, w4⟩ := DataW.trod_int Tryz.underlying3 f4
  have hs : ∃ ao len cap, c3 = .slice ao len cap := by
    rcases open_slice Tryz.underlying22 f3 with ⟨h1, _⟩ | ⟨a, len', cap', m, n, D, Pl, h1, _⟩
    · simp at h1; exact ⟨_, _, _, h1⟩
    · simp at h1; exact ⟨_, _, _, h1⟩
  obtain ⟨ao, len, cap, rfl⟩ := hs
  obtain ⟨cols, rfl, hsl, hno, hlc, hlm, hd⟩ := cols_of f3
  simp at e0 e1 e2 e4
  subst e0 e1 e2 e4
  refine ⟨⟨id, ver, nm, cols, key⟩, ao, cap, rfl, hsl, hno, hlc, hlm, ⟨wf_i64 w0, wf_i64 w1, wf_i64 w4⟩, fun hne => ?_⟩
  obtain ⟨es, sp, hd1, hd2⟩ := hd hne
  refine ⟨y0.1, y1.1, y2.1, es, sp, y4.1, ?_, hd2⟩
  rw [hx]
  simp [hd1]
end
theorem okWide_agg {P : Program} {w : World} {r : Reach} {base : Nat} {t : TypeId} {v : Value} {fs : Array Field} (ht : P.underlying t = some (.struct fs)) (h : Value.okWide P w r base t v) : ∃ cs, v = .agg cs := by
  unfold Value.okWide at h
  simp only [ht] at h
  obtain ⟨cs, rfl, _⟩ := h
  exact ⟨cs, rfl⟩
end Go.Proofs.YteaagnlhkopgdaaGreatDoor.C
namespace Go.Proofs.YteaagnlhkopgdaaGreatDoor.C
open Go.ChangeShapes Go.WideShapes Go.RowKit Go.Deep
set_option maxRecDepth 100000
theorem tr_et : Tryz.prog.globalNamed "errors.errorType" = some 0 := by kernel_rfl
theorem tr_rt : (Tryz.prog.cutTypes.find? (·.1 == "internal/reflectlite.rtype")).map (·.2) = some 157 := by kernel_rfl
theorem tr_oneRow : ((List.range 218).filter fun t => Tryz.prog.rowNamed t [101, 114, 114, 111, 114]) = [108] := by kernel_rfl
theorem tr_size : Tryz.prog.types.size = 218 := by kernel_rfl
abbrev laid18 : List (String × DataW Unit) := [("errors.errorType", Rows.laid_errors_errorType)]
theorem he_of {W : World} (h : laidMetH Tryz.prog laid18 W) : HE W := by
  have h' : laidMet Tryz.prog [] W ∧ handlesMet Tryz.prog laid18 W := h
  obtain ⟨name, u, ty, e1, e2, e3, e4, e5⟩ := h'.2 _ (List.mem_singleton.2 rfl)
  have en : name = [101, 114, 114, 111, 114] := (Option.some.inj e1).symm
  subst en
  obtain rfl := Option.some.inj (tr_rt.symm.trans e2)
  have hm : ty ∈ (List.range 218).filter fun t => Tryz.prog.rowNamed t [101, 114, 114, 111, 114] := List.mem_filter.2 ⟨List.mem_range.2 (by rw [← tr_size]; exact e3), e4⟩
  rw [tr_oneRow] at hm
  obtain rfl := List.mem_singleton.1 hm
  have hh : typeHandle Tryz.prog 108 = .pointer (some ⟨1, 108, none⟩) := by kernel_rfl
  rw [hh] at e5
  have := World.var?_cell tr_et e5 0
  unfold HE
  simpa using this
theorem door_met18 (os : Os) (args : Array Value) : laidMetH Tryz.prog laid18 ((World.doorLaid Tryz.prog 400 os).forCall (fun _ _ => 0) ⟨#[], args, []⟩).memory :=
  laidMetH_of_parts (laidMet_nil _ _) (by kernel_rfl)
theorem c_rw : Tryz.prog.cellsOf 26 = 1 := by kernel_rfl
theorem c_msg : Tryz.prog.cellsOf 28 = 12 := by kernel_rfl
theorem lst12 {α : Type} (l : List α) (h : l.length = 12) : ∃ c0 c1 c2 c3 c4 c5 c6 c7 c8 c9 c10 c11, l = [c0, c1, c2, c3, c4, c5, c6, c7, c8, c9, c10, c11] := by
  rcases l with _ | ⟨c0, _ | ⟨c1, _ | ⟨c2, _ | ⟨c3, _ | ⟨c4, _ | ⟨c5, _ | ⟨c6, _ | ⟨c7, _ | ⟨c8, _ | ⟨c9, _ | ⟨c10, _ | ⟨c11, _ | ⟨c12, l⟩⟩⟩⟩⟩⟩⟩⟩⟩⟩⟩⟩⟩ <;> simp at h
  exact ⟨c0, c1, c2, c3, c4, c5, c6, c7, c8, c9, c10, c11, rfl⟩
theorem lst8 {α : Type} (l : List α) (h : l.length = 8) : ∃ c0 c1 c2 c3 c4 c5 c6 c7, l = [c0, c1, c2, c3, c4, c5, c6, c7] := by
  rcases l with _ | ⟨c0, _ | ⟨c1, _ | ⟨c2, _ | ⟨c3, _ | ⟨c4, _ | ⟨c5, _ | ⟨c6, _ | ⟨c7, _ | ⟨c8, l⟩⟩⟩⟩⟩⟩⟩⟩⟩ <;> simp at h
  exact ⟨c0, c1, c2, c3, c4, c5, c6, c7, rfl⟩
structure NB18 (s : Sk) : Prop where
  o : s.oo = none → s.oc = 0
  n : s.no = none → s.nc = 0
  c : s.co = none → s.cc = 0
structure SZ18 (r : Rc) : Prop where
  o : r.o.length ≤ 4398046511000
  n : r.n.length ≤ 4398046511000
  c : r.tb.cols.length ≤ 4398046511000
section
variable {H : Type} {enc : TypeId × Value → H} {W : World} {fuel : Nat} {x : DataW H × List MemPlace} {cs : List Value}
theorem slice_at {t e : TypeId} {c : Value} (hu : Tryz.prog.underlying t = some (.slice e)) (h : DataW.trod enc Tryz.prog W 0 (fun _ => true) true fuel t [c] = some x) : ∃ ao len cap, c = .slice ao len cap := by
  rcases open_slice hu h with ⟨h1, _⟩ | ⟨a, len', cap', m, n, D, Pl, h1, _⟩
  · simp at h1; exact ⟨_, _, _, h1⟩
  · simp at h1; exact ⟨_, _, _, h1⟩
theorem val_of9 (h : DataW.trod enc Tryz.prog W 0 (fun _ => true) true fuel 52 cs = some x) : ∃ v : { v : Val // v.i64 }, cs = [.int .i64 v.1.k, .int .i64 v.1.n, .string v.1.s] := by
  obtain ⟨xs, n', _, hx, hcl, hxl, hf⟩ := DataW.trod_struct Tryz.underlying52 h
  rw [c_val] at hcl
  have hxs : xs.length = 3 := hxl
  obtain ⟨c0, c1, c2, rfl⟩ := list3 cs hcl
  obtain ⟨y0, y1, y2, rfl⟩ := list3 xs hxs
  have f0 : DataW.trod enc Tryz.prog W 0 (fun _ => true) true n' 3 [c0] = some y0 := by have := hf 0 _ rfl; simpa [c_int] using this
  have f1 : DataW.trod enc Tryz.prog W 0 (fun _ => true) true n' 3 [c1] = some y1 := by have := hf 1 _ rfl; simpa [c_int] using this
  have f2 : DataW.trod enc Tryz.prog W 0 (fun _ => true) true n' 9 [c2] = some y2 := by have := hf 2 _ rfl; simpa [c_str] using this
  obtain ⟨k, e0, g0, wk⟩ := DataW.trod_int Tryz.underlying3 f0
  obtain ⟨n, e1, g1, wn⟩ := DataW.trod_int Tryz.underlying3 f1
  obtain ⟨s, e2, g2, ws⟩ := DataW.trod_string Tryz.underlying9 f2
  simp at e0 e1 e2
  subst e0 e1 e2
  exact ⟨⟨⟨k, n, s⟩, wf_i64 wk, wf_i64 wn⟩, rfl⟩
theorem f3_map {α β : Type} (p : α → β) (f g k : β → Value) (l : List α) : f3 (fun a => f (p a)) (fun a => g (p a)) (fun a => k (p a)) l = f3 f g k (l.map p) := by
  unfold f3
  rw [List.flatMap_map]
theorem row_of9 {ao : Option Addr} {len cap : Nat} (h : DataW.trod enc Tryz.prog W 0 (fun _ => true) true fuel 26 [.slice ao len cap] = some x) :
    ∃ vs : List Val, len = vs.length ∧ SL W ao (vcl vs) ∧ (ao = none → vs = [] ∧ cap = 0) ∧ (∀ v ∈ vs, v.i64) ∧ (vs ≠ [] → ∃ es sp, x.1 = .slice es sp ∧ es.length = vs.length) := by
  haveI : Inhabited { v : Val // v.i64 } := ⟨⟨⟨0, 0, ⟨#[]⟩⟩, ⟨by decide, by decide⟩, ⟨by decide, by decide⟩⟩⟩
  obtain ⟨vs, h1, h2, h3, _, _, h4⟩ := list_of (α := { v : Val // v.i64 }) (fun v => .int .i64 v.1.k) (fun v => .int .i64 v.1.n) (fun v => .string v.1.s) Tryz.underlying26 c_val (fun h => val_of9 h) h
  refine ⟨vs.map Subtype.val, by rw [List.length_map]; exact h1, ?_, fun e => ⟨by rw [(h3 e).1]; rfl, (h3 e).2⟩, fun v hv => ?_, fun hne => ?_⟩
  · unfold vcl
    rw [← f3_map]
    exact h2
  · obtain ⟨u, _, rfl⟩ := List.mem_map.1 hv
    exact u.2
  · obtain ⟨es, sp, e1, e2⟩ := h4 (fun e => hne (by rw [e]; rfl))
    exact ⟨es, sp, e1, by rw [List.length_map]; exact e2⟩
theorem msg_of (h : DataW.trod enc Tryz.prog W 0 (fun _ => true) true fuel 28 cs = some x) (hw : ∀ n ∈ x.1.weights Tryz.prog 28, n ≤ reachBytes) : ∃ (r : Rc) (s : Sk), cs = [.int .i64 r.k, .int .i64 r.x, .int .i64 r.l, .int .i64 r.e, .int .i64 r.t, .int .i64 r.tb.id, .int .i64 r.tb.ver, .string r.tb.nm, .slice s.co r.tb.cols.length s.cc, .int .i64 r.tb.key, .slice s.oo r.o.length s.oc, .slice s.no r.n.length s.nc] ∧ RW W (fun _ => False) r s ∧ NB18 s ∧ SZ18 r := by
  obtain ⟨xs, n', _, hx, hcl, hxl, hf⟩ := DataW.trod_struct Tryz.underlying28 h
  rw [c_msg] at hcl
  have hxs : xs.length = 8 := hxl
  obtain ⟨c0, c1, c2, c3, c4, c5, c6, c7, c8, c9, c10, c11, rfl⟩ := lst12 cs hcl
  obtain ⟨y0, y1, y2, y3, y4, y5, y6, y7, rfl⟩ := lst8 xs hxs
  have f0 : DataW.trod enc Tryz.prog W 0 (fun _ => true) true n' 3 [c0] = some y0 := by have := hf 0 _ rfl; simpa [c_int, c_str, c_rw, c_tbl] using this
  have f1 : DataW.trod enc Tryz.prog W 0 (fun _ => true) true n' 3 [c1] = some y1 := by have := hf 1 _ rfl; simpa [c_int, c_str, c_rw, c_tbl] using this
  have f2 : DataW.trod enc Tryz.prog W 0 (fun _ => true) true n' 3 [c2] = some y2 := by have := hf 2 _ rfl; simpa [c_int, c_str, c_rw, c_tbl] using this
  have f3 : DataW.trod enc Tryz.prog W 0 (fun _ => true) true n' 3 [c3] = some y3 := by have := hf 3 _ rfl; simpa [c_int, c_str, c_rw, c_tbl] using this
  have f4 : DataW.trod enc Tryz.prog W 0 (fun _ => true) true n' 3 [c4] = some y4 := by have := hf 4 _ rfl; simpa [c_int, c_str, c_rw, c_tbl] using this
  have f5 : DataW.trod enc Tryz.prog W 0 (fun _ => true) true n' 24 [c5, c6, c7, c8, c9] = some y5 := by have := hf 5 _ rfl; simpa [c_int, c_str, c_rw, c_tbl] using this
  have f6 : DataW.trod enc Tryz.prog W 0 (fun _ => true) true n' 26 [c10] = some y6 := by have := hf 6 _ rfl; simpa [c_int, c_str, c_rw, c_tbl] using this
  have f7 : DataW.trod enc Tryz.prog W 0 (fun _ => true) true n' 26 [c11] = some y7 := by have := hf 7 _ rfl; simpa [c_int, c_str, c_rw, c_tbl] using this
  have hx1 : x.1 = .agg ([y0, y1, y2, y3, y4, y5, y6, y7].map (·.1)) := by rw [hx]
  rw [hx1] at hw
  simp only [DataW.weights, Tryz.underlying28] at hw
  have w5 : ∀ n ∈ y5.1.weights Tryz.prog 24, n ≤ reachBytes := fun n hn => hw n (DataW.weights_mem_each (j := 5) rfl rfl n hn)
  have w6 : ∀ n ∈ y6.1.weights Tryz.prog 26, n ≤ reachBytes := fun n hn => hw n (DataW.weights_mem_each (j := 6) rfl rfl n hn)
  have w7 : ∀ n ∈ y7.1.weights Tryz.prog 26, n ≤ reachBytes := fun n hn => hw n (DataW.weights_mem_each (j := 7) rfl rfl n hn)
  obtain ⟨k, e0, _, _⟩ := DataW.trod_int Tryz.underlying3 f0
  obtain ⟨xi, e1, _, _⟩ := DataW.trod_int Tryz.underlying3 f1
  obtain ⟨l, e2, _, _⟩ := DataW.trod_int Tryz.underlying3 f2
  obtain ⟨en, e3, _, _⟩ := DataW.trod_int Tryz.underlying3 f3
  obtain ⟨t, e4, _, _⟩ := DataW.trod_int Tryz.underlying3 f4
  obtain ⟨T, co, cc, eT, hT, hTn, hTc, hTm, _, hTd⟩ := tbl_of f5
  obtain ⟨a6, l6, q6, rfl⟩ := slice_at Tryz.underlying26 f6
  obtain ⟨a7, l7, q7, rfl⟩ := slice_at Tryz.underlying26 f7
  obtain ⟨os, rfl, hor, hon, hoi, hod⟩ := row_of9 f6
  obtain ⟨ns, rfl, hnr, hnn, hni, hnd⟩ := row_of9 f7
  simp at e0 e1 e2 e3 e4
  simp only [List.cons.injEq, and_true] at eT
  obtain ⟨t0, t1, t2, t3, t4⟩ := eT
  subst e0 e1 e2 e3 e4 t0 t1 t2 t3 t4
  have so : os.length * 32 ≤ 140737488351232 := by
    by_cases hne : os = []
    · rw [hne]; simp
    · obtain ⟨es, sp, h1, h2⟩ := hod hne
      rw [h1] at w6
      have h9 : (es.length + sp.length) * Tryz.prog.bytesOf 52 ≤ reachBytes := w6 _ (by simp only [DataW.weights, Tryz.underlying26]; exact List.mem_cons_self ..)
      rw [b_val, h2] at h9
      unfold reachBytes at h9
      omega
  have sn : ns.length * 32 ≤ 140737488351232 := by
    by_cases hne : ns = []
    · rw [hne]; simp
    · obtain ⟨es, sp, h1, h2⟩ := hnd hne
      rw [h1] at w7
      have h9 : (es.length + sp.length) * Tryz.prog.bytesOf 52 ≤ reachBytes := w7 _ (by simp only [DataW.weights, Tryz.underlying26]; exact List.mem_cons_self ..)
      rw [b_val, h2] at h9
      unfold reachBytes at h9
      omega
  have sc : T.cols.length * 32 ≤ 140737488351232 := by
    by_cases hne : T.cols = []
    · rw [hne]; simp
    · obtain ⟨d1, d2, d3, es, sp, d4, h1, h2⟩ := hTd hne
      rw [h1] at w5
      simp only [DataW.weights, Tryz.underlying24] at w5
      have h9 : (es.length + sp.length) * Tryz.prog.bytesOf 54 ≤ reachBytes := w5 _ (DataW.weights_mem_each (j := 3) rfl rfl _ (by simp only [DataW.weights, Tryz.underlying22]; exact List.mem_cons_self ..))
      rw [b_col, h2] at h9
      unfold reachBytes at h9
      omega
  refine ⟨⟨k, xi, l, en, t, T, os, ns⟩, ⟨a6, q6, a7, q7, co, cc⟩, rfl, ⟨hor, hnr, ⟨rfl, hT, hTn, hTc, fun hne g o e => ⟨fun h => h, ?_⟩⟩, fun _ _ _ _ h => h, fun _ _ _ _ h => h, hoi, hni, ?_, ?_, ?_⟩, ⟨fun e => (hon e).2, fun e => (hnn e).2, fun e => (hTn e).2⟩, ⟨?_, ?_, ?_⟩⟩
  · have hcn : ccl T.cols ≠ [] := fun e0 => by
      have h8 := congrArg List.length e0
      rw [ccl_len] at h8
      exact hne (List.eq_nil_of_length_eq_zero (by have h9 : T.cols.length * 3 = 0 := h8; show T.cols.length = 0; omega))
    obtain ⟨g', o', e', ha⟩ := hT hcn
    have e9 : some (⟨g', o', none⟩ : Addr) = some ⟨g, o, none⟩ := e'.symm.trans e
    injection e9 with e9; injection e9 with e9 _
    rw [← e9]; exact ha.lt hcn
  · show os.length ≤ _; omega
  · show ns.length ≤ _; omega
  · show T.cols.length ≤ _; omega
  · show os.length ≤ _; omega
  · show ns.length ≤ _; omega
  · show T.cols.length ≤ _; omega
end
end Go.Proofs.YteaagnlhkopgdaaGreatDoor.C
