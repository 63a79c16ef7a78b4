import Derived.Test.YtjiblajnfnmjnaaGreatDoorRows
import Derived.Test.YtjiblajnfnmjnaaGreatDoorCCopy
import Derived.ProofKit
import Derived.SizedLaws
import Derived.OpenShut
import Derived.Deep.Slices
import Derived.Shelf.Strings.OnBuilder
import Derived.Shelf.LaysM
import Derived.Shelf.Strconv.Itoa3
import Derived.Test.YtjiblajnfnmjnaaGreatDoorProg
import Derived.Test.YtjiblajnfnmjnaaGreatDoorVForm
import Derived.Test.YtjiblajnfnmjnaaGreatDoorVDec2
set_option maxRecDepth 100000
namespace Go.Proofs.YtjiblajnfnmjnaaGreatDoor.C
open Go.ChangeShapes Go.WideShapes Go.ChangeAt Go.RowKit Go.Deep
set_option maxRecDepth 100000
theorem tr_own : ownKnob Tryz.prog.godebug = none := by kernel_rfl
theorem tr_laidOut : laidOutB Tryz.prog = true := by kernel_rfl
theorem c_int : Tryz.prog.cellsOf 3 = 1 := by kernel_rfl
theorem c_str : Tryz.prog.cellsOf 9 = 1 := by kernel_rfl
theorem c_bool : Tryz.prog.cellsOf 4 = 1 := by kernel_rfl
theorem c_col : Tryz.prog.cellsOf 43 = 3 := by kernel_rfl
theorem c_cols : Tryz.prog.cellsOf 22 = 1 := by kernel_rfl
theorem c_tbl : Tryz.prog.cellsOf 29 = 5 := by kernel_rfl
theorem wf_i64 {n : Int} (h : (Lit.int .i64 n).wf = true) : -9223372036854775808 ≤ n ∧ n ≤ 9223372036854775807 := by
  have := bounds_i64 h
  omega
theorem list3 {α : Type} (l : List α) (h : l.length = 3) : ∃ c0 c1 c2, l = [c0, c1, c2] := by
  rcases l with _ | ⟨c0, _ | ⟨c1, _ | ⟨c2, _ | ⟨c3, l⟩⟩⟩⟩ <;> simp at h
  exact ⟨c0, c1, c2, rfl⟩
theorem list5 {α : Type} (l : List α) (h : l.length = 5) : ∃ c0 c1 c2 c3 c4, l = [c0, c1, c2, c3, c4] := by
  rcases l with _ | ⟨c0, _ | ⟨c1, _ | ⟨c2, _ | ⟨c3, _ | ⟨c4, _ | ⟨c5, l⟩⟩⟩⟩⟩⟩ <;> simp at h
  exact ⟨c0, c1, c2, c3, c4, rfl⟩
section
variable {H : Type} {enc : TypeId × Value → H} {W : World} {fuel : Nat} {x : DataW H × List MemPlace} {cs : List Value}
theorem col_of (h : DataW.trod enc Tryz.prog W 0 (fun _ => true) true fuel 43 cs = some x) : ∃ c : Col, cs = [.string c.nm, .int .i64 c.k, .bool c.nl] := by
  obtain ⟨xs, n', _, hx, hcl, hxl, hf⟩ := DataW.trod_struct Tryz.underlying43 h
  rw [c_col] at hcl
  have hxs : xs.length = 3 := hxl
  obtain ⟨c0, c1, c2, rfl⟩ := list3 cs hcl
  obtain ⟨y0, y1, y2, rfl⟩ := list3 xs hxs
  have f0 : DataW.trod enc Tryz.prog W 0 (fun _ => true) true n' 9 [c0] = some y0 := by have := hf 0 _ rfl; simpa [c_str] using this
  have f1 : DataW.trod enc Tryz.prog W 0 (fun _ => true) true n' 3 [c1] = some y1 := by have := hf 1 _ rfl; simpa [c_int] using this
  have f2 : DataW.trod enc Tryz.prog W 0 (fun _ => true) true n' 4 [c2] = some y2 := by have := hf 2 _ rfl; simpa [c_bool] using this
  obtain ⟨nm, e0, _⟩ := DataW.trod_string Tryz.underlying9 f0
  obtain ⟨ck, e1, _⟩ := DataW.trod_int Tryz.underlying3 f1
  obtain ⟨cn, e2, _⟩ := DataW.trod_bool Tryz.underlying4 f2
  simp at e0 e1 e2
  subst e0 e1 e2
  exact ⟨⟨nm, ck, cn⟩, rfl⟩
theorem list_of {α : Type} [Inhabited α] (f g k : α → Value) {t e : TypeId} (hu : Tryz.prog.underlying t = some (.slice e)) (hc : Tryz.prog.cellsOf e = 3) (hel : ∀ {fuel cs x}, DataW.trod enc Tryz.prog W 0 (fun _ => true) true fuel e cs = some x → ∃ v : α, cs = [f v, g v, k v]) {ao : Option Addr} {len cap : Nat}
    (h : DataW.trod enc Tryz.prog W 0 (fun _ => true) true fuel t [.slice ao len cap] = some x) :
    ∃ vs : List α, len = vs.length ∧ SL W ao (f3 f g k vs) ∧ (ao = none → vs = [] ∧ cap = 0) ∧ len ≤ cap ∧ len ≤ maxLen ∧ (vs ≠ [] → ∃ es sp, x.1 = .slice es sp ∧ es.length = vs.length) := by
  rcases open_slice hu h with ⟨h1, _⟩ | ⟨a, len', cap', m, n, D, Pl, h1, _, hl, hmx, hm, hx, hee⟩
  · simp at h1
    obtain ⟨rfl, rfl, rfl⟩ := h1
    exact ⟨[], rfl, SL.nil _ _, fun _ => ⟨rfl, rfl⟩, Nat.le_refl _, Nat.zero_le _, fun h => absurd rfl h⟩
  · simp only [List.cons.injEq, Value.slice.injEq, and_true] at h1
    obtain ⟨rfl, rfl, rfl⟩ := h1
    have hm' : m = cap := by simpa using hm
    rw [hc] at hee
    have key : ∀ i, i < len → ∃ u : α, W.cell? (a.add (i * 3)) = some (f u) ∧ W.cell? ((a.add (i * 3)).add 1) = some (g u) ∧ W.cell? ((a.add (i * 3)).add 2) = some (k u) := by
      intro i hi
      obtain ⟨cs', hc', ht⟩ := hee i (by omega)
      obtain ⟨_, hcl, hcc⟩ := World.cells?_some hc'
      obtain ⟨v, rfl⟩ := hel ht
      have g0 := hcc 0 (by simp)
      have g1 := hcc 1 (by simp)
      have g2 := hcc 2 (by simp)
      exact ⟨v, by simpa [Addr.add] using g0, by simpa using g1, by simpa using g2⟩
    have pick : ∃ vs : List α, vs.length = len ∧ ∀ i (hi : i < vs.length), W.cell? (a.add (i * 3)) = some (f vs[i]) ∧ W.cell? ((a.add (i * 3)).add 1) = some (g vs[i]) ∧ W.cell? ((a.add (i * 3)).add 2) = some (k vs[i]) := by
      classical
      refine ⟨List.ofFn (fun i : Fin len => (key i.1 i.2).choose), by simp, fun i hi => ?_⟩
      have hi' : i < len := by simpa using hi
      rw [List.getElem_ofFn]
      exact (key i hi').choose_spec
    obtain ⟨vs, rfl, hvs⟩ := pick
    refine ⟨vs, rfl, fun hv => ?_, fun h => (by cases h), by omega, by omega, fun _ => ⟨_, _, congrArg Prod.fst hx, by rw [List.length_map, List.length_range]⟩⟩
    have h0 : 0 < vs.length := List.length_pos_iff.2 (by rintro rfl; exact hv rfl)
    obtain ⟨b, off, spot⟩ := a
    have hspot : spot = none := by
      obtain ⟨h0', _⟩ := hvs 0 h0
      simpa [Addr.add] using World.cell?_spot h0'
    subst hspot
    refine ⟨b, off, rfl, fun j u hu' => ?_⟩
    have hj : j < vs.length * 3 := by rw [← f3_len f g k]; exact (List.getElem?_eq_some_iff.1 hu').1
    obtain ⟨q, r, rfl, hr⟩ : ∃ q r, j = q * 3 + r ∧ r < 3 := ⟨j / 3, j % 3, by omega, by omega⟩
    have hq : q < vs.length := by omega
    obtain ⟨h0', h1', h2'⟩ := hvs q hq
    obtain ⟨g0, g1, g2⟩ := f3_get f g k vs q hq
    simp only [add_plain] at h0' h1' h2'
    rcases (by omega : r = 0 ∨ r = 1 ∨ r = 2) with rfl | rfl | rfl
    · rw [Nat.add_zero] at hu' ⊢; rw [g0] at hu'; rw [h0', hu']
    · rw [g1] at hu'; rw [← Nat.add_assoc, h1', hu']
    · rw [g2] at hu'; rw [← Nat.add_assoc, h2', hu']
end
section
variable {H : Type} {enc : TypeId × Value → H} {W : World} {fuel : Nat} {x : DataW H × List MemPlace} {cs : List Value}
instance : Inhabited Val := ⟨nullV⟩
instance : Inhabited Col := ⟨⟨⟨#[]⟩, 0, false⟩⟩
theorem cols_of {ao : Option Addr} {len cap : Nat} (h : DataW.trod enc Tryz.prog W 0 (fun _ => true) true fuel 22 [.slice ao len cap] = some x) :
    ∃ vs : List Col, len = vs.length ∧ SL W ao (ccl vs) ∧ (ao = none → vs = [] ∧ cap = 0) ∧ len ≤ cap ∧ len ≤ maxLen ∧ (vs ≠ [] → ∃ es sp, x.1 = .slice es sp ∧ es.length = vs.length) :=
  list_of _ _ _ Tryz.underlying22 c_col (fun h => col_of h) h
theorem tbl_of (h : DataW.trod enc Tryz.prog W 0 (fun _ => true) true fuel 29 cs = some x) : ∃ (t : Tbl) (ao : Option Addr) (c : Nat), cs = [.int .i64 t.id, .int .i64 t.ver, .string t.nm, .slice ao t.cols.length c, .int .i64 t.key] ∧ SL W ao (ccl t.cols) ∧ (ao = none → t.cols = [] ∧ c = 0) ∧ t.cols.length ≤ c ∧ t.cols.length ≤ maxLen ∧
    ((-9223372036854775808 ≤ t.id ∧ t.id ≤ 9223372036854775807) ∧ (-9223372036854775808 ≤ t.ver ∧ t.ver ≤ 9223372036854775807) ∧ -9223372036854775808 ≤ t.key ∧ t.key ≤ 9223372036854775807) ∧ (t.cols ≠ [] → ∃ a b n es sp k, x.1 = .agg [a, b, n, .slice es sp, k] ∧ es.length = t.cols.length) := by
  obtain ⟨xs, n', _, hx, hcl, hxl, hf⟩ := DataW.trod_struct Tryz.underlying29 h
  rw [c_tbl] at hcl
  have hxs : xs.length = 5 := hxl
  obtain ⟨c0, c1, c2, c3, c4, rfl⟩ := list5 cs hcl
  obtain ⟨y0, y1, y2, y3, y4, rfl⟩ := list5 xs hxs
  have f0 : DataW.trod enc Tryz.prog W 0 (fun _ => true) true n' 3 [c0] = some y0 := by have := hf 0 _ rfl; simpa [c_int] using this
  have f1 : DataW.trod enc Tryz.prog W 0 (fun _ => true) true n' 3 [c1] = some y1 := by have := hf 1 _ rfl; simpa [c_int] using this
  have f2 : DataW.trod enc Tryz.prog W 0 (fun _ => true) true n' 9 [c2] = some y2 := by have := hf 2 _ rfl; simpa [c_str] using this
  have f3 : DataW.trod enc Tryz.prog W 0 (fun _ => true) true n' 22 [c3] = some y3 := by have := hf 3 _ rfl; simpa [c_cols] using this
  have f4 : DataW.trod enc Tryz.prog W 0 (fun _ => true) true n' 3 [c4] = some y4 := by have := hf 4 _ rfl; simpa [c_int] using this
  obtain ⟨id, e0, _, w0⟩ := DataW.trod_int Tryz.underlying3 f0
  obtain ⟨ver, e1, _, w1⟩ := DataW.trod_int Tryz.underlying3 f1
  obtain ⟨nm, e2, _⟩ := DataW.trod_string Tryz.underlying9 f2
  obtain ⟨key, e4, _, w4⟩ := DataW.trod_int Tryz.underlying3 f4
  have hs : ∃ ao len cap, c3 = .slice ao len cap := by
    rcases open_slice Tryz.underlying22 f3 with ⟨h1, _⟩ | ⟨a, len', cap', m, n, D, Pl, h1, _⟩
    · simp at h1; exact ⟨_, _, _, h1⟩
    · simp at h1; exact ⟨_, _, _, h1⟩
  obtain ⟨ao, len, cap, rfl⟩ := hs
  obtain ⟨cols, rfl, hsl, hno, hlc, hlm, hd⟩ := cols_of f3
  simp at e0 e1 e2 e4
  subst e0 e1 e2 e4
  refine ⟨⟨id, ver, nm, cols, key⟩, ao, cap, rfl, hsl, hno, hlc, hlm, ⟨wf_i64 w0, wf_i64 w1, wf_i64 w4⟩, fun hne => ?_⟩
  obtain ⟨es, sp, hd1, hd2⟩ := hd hne
  refine ⟨y0.1, y1.1, y2.1, es, sp, y4.1, ?_, hd2⟩
  rw [hx]
  simp [hd1]
end
theorem okWide_agg {P : Program} {w : World} {r : Reach} {base : Nat} {t : TypeId} {v : Value} {fs : Array Field} (ht : P.underlying t = some (.struct fs)) (h : Value.okWide P w r base t v) : ∃ cs, v = .agg cs := by
  unfold Value.okWide at h
  simp only [ht] at h
  obtain ⟨cs, rfl, _⟩ := h
  exact ⟨cs, rfl⟩
end Go.Proofs.YtjiblajnfnmjnaaGreatDoor.C
namespace Go.Proofs
open Go.Shelf
def Tryz.laysJn_ren : Go.Shelf.Ren := ⟨fun | 156 => 48 | 165 => 85 | 166 => 86 | 169 => 87 | 240 => 112 | 241 => 113 | 276 => 140 | 277 => 141 | n => n, fun | 31 => 54 | 9 => 9 | 3 => 3 | 4 => 4 | 0 => 0 | 20 => 20 | 72 => 156 | 76 => 157 | 70 => 154 | 37 => 115 | 75 => 117 | 127 => 175 | 164 => 183 | 5 => 5 | 80 => 102 | n => n, fun | n => n⟩
end Go.Proofs
namespace Go.Proofs.YtjiblajnfnmjnaaGreatDoor
theorem laidOn_zero (bs l : List UInt8) : laidOn bs l 0 = bs ++ l := by simp [laidOn]
theorem dgs_dg {last top : Nat} : ∀ (l : List UInt8) (i m n k f : Nat), dgs last top l i m = (n, k, 0) → m < 128 ^ i → k ≤ i + f → i < k ∧ ∃ q, n = m + q * 128 ^ i ∧ l.take (k - i) = dgf f q ∧ (0 < i → 0 < q) := by
  intro l
  induction l with
  | nil => intro i m n k f h; simp [dgs] at h
  | cons b r ih =>
    intro i m n k f h hm hk
    have hb := b.toNat_lt
    by_cases hA : i + 1 = last ∧ top < b.toNat
    · rw [dgs_range hA.1 hA.2] at h; simp at h
    · by_cases hB : 128 ≤ b.toNat
      · rw [dgs_more hA hB] at h
        obtain ⟨h1, q, h2, h3, h4⟩ := ih (i + 1) _ n k (f - 1) h (step_lt hm) (by omega)
        refine ⟨by omega, b.toNat % 128 + q * 128, ?_, ?_, fun _ => by have := h4 (by omega); omega⟩
        · rw [h2, Nat.pow_succ, Nat.add_mul, ← Nat.add_assoc]
          have e : q * 128 * 128 ^ i = q * (128 ^ i * 128) := by rw [Nat.mul_assoc, Nat.mul_comm 128]
          omega
        · obtain ⟨f', rfl⟩ : ∃ f', f = f' + 1 := ⟨f - 1, by omega⟩
          have hq := h4 (by omega)
          have hs : k - i = (k - (i + 1)) + 1 := by omega
          rw [hs, List.take_succ_cons, h3, dgf_more (by omega)]
          have e1 : (b.toNat % 128 + q * 128) / 128 = q := by omega
          have e2 : (b.toNat % 128 + q * 128) % 128 + 128 = b.toNat := by omega
          rw [e1, e2]
          simp
      · by_cases hz : b.toNat = 0 ∧ 0 < i
        · rw [dgs_form hA hz.1 hz.2] at h; simp at h
        · rw [dgs_end hA (by omega) hz] at h
          simp only [Prod.mk.injEq] at h
          obtain ⟨h1, h2, _⟩ := h
          subst h2
          obtain ⟨f', rfl⟩ : ∃ f', f = f' + 1 := ⟨f - 1, by omega⟩
          refine ⟨by omega, b.toNat, ?_, ?_, fun hi => by omega⟩
          · rw [← h1, Nat.mod_eq_of_lt (by omega)]
          · have hs : i + 1 - i = 0 + 1 := by omega
            rw [hs, List.take_succ_cons, dgf_last (by omega)]
            simp
theorem dgs_dg0 {last top : Nat} (hl : last ≤ 10) (ht : top ≤ 127) (h10 : last = 10 → top ≤ 1) (hl0 : 0 < last) {l : List UInt8} {n k : Nat} (h : dgs last top l 0 0 = (n, k, 0)) : l.take k = dg n := by
  obtain ⟨_, _, h3, _⟩ := dgs_ok hl ht h10 _ _ _ _ _ (by decide) hl0 h
  obtain ⟨_, q, h2, h4, _⟩ := dgs_dg l 0 0 n k 10 h (by decide) (by omega)
  have : n = q := by simpa using h2
  subst this
  simpa [dg] using h4
theorem take_add (l : List UInt8) (a k : Nat) : l.take a ++ (l.drop a).take k = l.take (a + k) := by rw [List.take_add]
theorem fol_unf (u : Nat) : fol (unf u) = u := by
  unfold fol unf
  by_cases h : u % 2 = 0
  · rw [if_pos h, if_pos (by omega)]; omega
  · rw [if_neg h, if_neg (by omega)]; omega
theorem unf_rng (u : Nat) (h : u < 18446744073709551616) : -9223372036854775808 ≤ unf u ∧ unf u ≤ 9223372036854775807 := by
  unfold unf; split <;> omega
theorem ag_byte {S : ByteArray} {a v a' : Nat} {e' : Int} (h : byteR S a 0 = (v, a', e')) : v ≤ 255 ∧ ((e' = 0 ∧ a ≤ a' ∧ a' ≤ S.size ∧ upd (S.data.toList.take a) 0 (bytesL [(v : Int)]) (bytesC [(v : Int)]) = (S.data.toList.take a', 0)) ∨ (e' ≠ 0 ∧ e' ≠ 13 ∧ a' = a)) := by
  unfold byteR at h
  rw [if_neg (by simp)] at h
  by_cases ha : a < S.size
  · rw [if_pos ha] at h
    simp only [Prod.mk.injEq] at h
    obtain ⟨h1, h2, h3⟩ := h
    have hv : v ≤ 255 := by have := (S.data.toList.getD a 0).toNat_lt; omega
    refine ⟨hv, Or.inl ⟨h3.symm, by omega, by omega, ?_⟩⟩
    have hc : bytesC [(v : Int)] = 0 := by unfold bytesC; rw [if_pos]; simp [byteOk]; omega
    rw [hc, upd_lay]
    have hal : a < S.data.toList.length := by simpa using ha
    rw [← h2, List.take_succ_eq_append_getElem hal]
    have hb : bytesL [(v : Int)] = [S.data.toList[a]] := by
      simp only [bytesL, List.map_cons, List.map_nil, Int.toNat_natCast]
      rw [← h1, List.getD_eq_getElem?_getD, List.getElem?_eq_getElem hal]
      simp
    rw [hb]
    simp [laidOn]
  · rw [if_neg ha] at h
    simp only [Prod.mk.injEq] at h
    exact ⟨by omega, Or.inr ⟨by omega, by omega, by omega⟩⟩
theorem ag_num {last top : Nat} (hl : last ≤ 10) (ht : top ≤ 127) (h10 : last = 10 → top ≤ 1) (hl0 : 0 < last) {S : ByteArray} {a n a' : Nat} {e' : Int} (hle : a ≤ S.size) (h : numR last top S a 0 = (n, a', e')) :
    (e' = 0 ∧ a ≤ a' ∧ a' ≤ S.size ∧ S.data.toList.take a ++ dg n = S.data.toList.take a') ∨ (e' ≠ 0 ∧ e' ≠ 13 ∧ a' = a ∧ n = 0) := by
  rcases hd : dgs last top (S.data.toList.drop a) 0 0 with ⟨m, k, c⟩
  by_cases hc : c = 0
  · subst hc
    rw [numR_ok hd] at h
    simp only [Prod.mk.injEq] at h
    obtain ⟨rfl, rfl, rfl⟩ := h
    obtain ⟨h1, _⟩ := dgs_ok hl ht h10 _ _ _ _ _ (by decide) hl0 hd
    have h2 : k ≤ S.size - a := by simpa using h1
    left
    refine ⟨rfl, by omega, by omega, ?_⟩
    rw [← dgs_dg0 hl ht h10 hl0 hd, take_add]
  · rw [numR_bad hd hc] at h
    simp only [Prod.mk.injEq] at h
    obtain ⟨rfl, rfl, rfl⟩ := h
    obtain ⟨_, _, h9⟩ := dgs_zero _ _ _ _ _ _ hd hc
    exact Or.inr ⟨hc, by omega, rfl, rfl⟩
theorem ag_int {S : ByteArray} {a n a' : Nat} {e' : Int} (hle : a ≤ S.size) (h : numR 10 1 S a 0 = (n, a', e')) : (-9223372036854775808 ≤ unf n ∧ unf n ≤ 9223372036854775807) ∧ ((e' = 0 ∧ a ≤ a' ∧ a' ≤ S.size ∧ laidOn (S.data.toList.take a) (dg (fol (unf n))) 0 = S.data.toList.take a') ∨ (e' ≠ 0 ∧ e' ≠ 13 ∧ a' = a)) := by
  have hlt := (numR_lt (last := 10) (top := 1) (by omega) (by omega) (by omega) (by omega) S a 0).1
  rw [h] at hlt
  refine ⟨unf_rng n hlt, ?_⟩
  rcases ag_num (by omega) (by omega) (by omega) (by omega) hle h with ⟨h1, h2, h3, h4⟩ | ⟨h1, h13, h2, _⟩
  · left
    refine ⟨h1, h2, h3, ?_⟩
    rw [fol_unf]
    simp [laidOn, h4]
  · exact Or.inr ⟨h1, h13, h2⟩
theorem ext_list (S : ByteArray) (a b : Nat) : (S.extract a (a + b)).data.toList = (S.data.toList.drop a).take b := by
  rw [Lib.extract_data]; congr 1; omega
theorem ag_raw {S : ByteArray} {a a' : Nat} {n e' : Int} {t : ByteArray} (hle : a ≤ S.size) (h : rawR n S a 0 = (t, a', e')) : a + t.size ≤ S.size ∧ ((e' = 0 ∧ a ≤ a' ∧ a' ≤ S.size ∧ laidOn (S.data.toList.take a) t.data.toList 0 = S.data.toList.take a') ∨ (e' ≠ 0 ∧ e' ≠ 13 ∧ a' = a)) := by
  unfold rawR at h
  rw [if_neg (by simp)] at h
  by_cases h1 : n < 0
  · rw [if_pos h1] at h
    simp only [Prod.mk.injEq] at h
    obtain ⟨rfl, rfl, rfl⟩ := h
    exact ⟨by show _ + 0 ≤ _; omega, Or.inr ⟨by omega, by omega, rfl⟩⟩
  · rw [if_neg h1] at h
    by_cases h2 : ((S.size - a : Nat) : Int) < n
    · rw [if_pos h2] at h
      simp only [Prod.mk.injEq] at h
      obtain ⟨rfl, rfl, rfl⟩ := h
      exact ⟨by show _ + 0 ≤ _; omega, Or.inr ⟨by omega, by omega, rfl⟩⟩
    · rw [if_neg h2] at h
      simp only [Prod.mk.injEq] at h
      obtain ⟨rfl, rfl, rfl⟩ := h
      refine ⟨by simp; omega, Or.inl ⟨rfl, by omega, by omega, ?_⟩⟩
      rw [ext_list]
      simp [laidOn, take_add]
theorem ag_text {S : ByteArray} {a a' : Nat} {m e' : Int} {t : ByteArray} (hle : a ≤ S.size) (hm : m ≤ 300) (h : textR m S a 0 = (t, a', e')) : a + t.size ≤ S.size ∧ ((e' = 0 ∧ a ≤ a' ∧ a' ≤ S.size ∧ upd (S.data.toList.take a) 0 (textL t) (textC t 300) = (S.data.toList.take a', 0)) ∨ (e' ≠ 0 ∧ e' ≠ 13 ∧ a' = a)) := by
  unfold textR at h
  rw [if_neg (by simp)] at h
  by_cases h1 : m < 0
  · rw [if_pos h1] at h
    simp only [Prod.mk.injEq] at h
    obtain ⟨rfl, rfl, rfl⟩ := h
    exact ⟨by show _ + 0 ≤ _; omega, Or.inr ⟨by omega, by omega, rfl⟩⟩
  · rw [if_neg h1] at h
    rcases hd : dgs 9 127 (S.data.toList.drop a) 0 0 with ⟨n, k, c⟩
    rw [hd] at h
    simp only [] at h
    by_cases hc : c = 0
    · subst hc
      obtain ⟨hk, _⟩ := dgs_ok (by omega) (by omega) (by omega) _ _ _ _ _ (by decide) (by omega) hd
      have hk2 : k ≤ S.size - a := by simpa using hk
      rw [if_neg (by simp)] at h
      by_cases h12 : m < n
      · rw [if_pos h12] at h
        simp only [Prod.mk.injEq] at h
        obtain ⟨rfl, rfl, rfl⟩ := h
        exact ⟨by show _ + 0 ≤ _; omega, Or.inr ⟨by omega, by omega, rfl⟩⟩
      · rw [if_neg h12] at h
        by_cases h11 : S.size - a - k < n
        · rw [if_pos h11] at h
          simp only [Prod.mk.injEq] at h
          obtain ⟨rfl, rfl, rfl⟩ := h
          exact ⟨by show _ + 0 ≤ _; omega, Or.inr ⟨by omega, by omega, rfl⟩⟩
        · rw [if_neg h11] at h
          simp only [Prod.mk.injEq] at h
          obtain ⟨rfl, rfl, rfl⟩ := h
          have hts : (S.extract (a + k) (a + k + n)).size = n := by simp; omega
          refine ⟨by rw [hts]; omega, Or.inl ⟨rfl, by omega, by omega, ?_⟩⟩
          have hcc : textC (S.extract (a + k) (a + k + n)) 300 = 0 := by unfold textC; rw [if_neg (by omega), if_neg (by rw [hts]; omega)]
          rw [hcc, upd_lay]
          have e1 : textL (S.extract (a + k) (a + k + n)) = (S.data.toList.drop a).take k ++ (S.data.toList.drop (a + k)).take n := by
            unfold textL
            rw [hts, ext_list, dgs_dg0 (by omega) (by omega) (by omega) (by omega) hd]
          rw [e1]
          rw [laidOn_zero, ← List.append_assoc, take_add, take_add]
    · rw [if_pos hc] at h
      simp only [Prod.mk.injEq] at h
      obtain ⟨rfl, rfl, rfl⟩ := h
      obtain ⟨_, _, h9⟩ := dgs_zero _ _ _ _ _ _ hd hc
      exact ⟨by show _ + 0 ≤ _; omega, Or.inr ⟨hc, by omega, rfl⟩⟩
open Go.RowKit
theorem byte_take {S : ByteArray} {a v a' : Nat} (h : byteR S a 0 = (v, a', 0)) : a' ≤ S.size ∧ S.data.toList.take a' = S.data.toList.take a ++ [UInt8.ofNat v] ∧ v ≤ 255 := by
  have hv := (ag_byte h).1
  unfold byteR at h
  rw [if_neg (by simp)] at h
  by_cases ha : a < S.size
  · rw [if_pos ha] at h
    simp only [Prod.mk.injEq] at h
    obtain ⟨rfl, rfl, _⟩ := h
    have hl : a < S.data.toList.length := by simpa using ha
    refine ⟨ha, ?_, hv⟩
    rw [List.take_succ_eq_append_getElem hl, List.getD_eq_getElem?_getD, List.getElem?_eq_getElem hl]
    simp
  · rw [if_neg ha] at h
    simp at h
theorem byteR_e {S : ByteArray} {a : Nat} {e : Int} (h : (byteR S a e).2.2 = 0) : e = 0 := by
  unfold byteR at h
  by_cases he : e = 0
  · exact he
  · rw [if_pos he] at h; exact absurd h he
theorem numR_e {last top : Nat} {S : ByteArray} {a : Nat} {e : Int} (h : (numR last top S a e).2.2 = 0) : e = 0 := by
  by_cases he : e = 0
  · exact he
  · rw [numR_wrong he] at h; exact h
theorem textR_e {m : Int} {S : ByteArray} {a : Nat} {e : Int} (h : (textR m S a e).2.2 = 0) : e = 0 := by
  unfold textR at h
  by_cases he : e = 0
  · exact he
  · rw [if_pos he] at h; exact absurd h he
theorem textR_size {S : ByteArray} {a a' : Nat} {t : ByteArray} (h : textR 200 S a 0 = (t, a', 0)) : t.size ≤ 200 := by
  unfold textR at h
  rw [if_neg (by simp), if_neg (by omega)] at h
  rcases hd : dgs 9 127 (S.data.toList.drop a) 0 0 with ⟨n, k, c⟩
  rw [hd] at h
  simp only at h
  split at h
  · rename_i hc; simp only [Prod.mk.injEq] at h; exact absurd h.2.2 hc
  · split at h
    · simp at h
    · split at h
      · simp at h
      · rename_i h1 h2 h3
        simp only [Prod.mk.injEq] at h
        rw [← h.1, ByteArray.size_extract]
        omega
theorem byteR_le {S : ByteArray} {a : Nat} {e : Int} (h : a ≤ S.size) : (byteR S a e).2.1 ≤ S.size := by
  unfold byteR
  split
  · exact h
  · split
    · assumption
    · exact h
theorem numR_le {S : ByteArray} {a : Nat} {e : Int} (h : a ≤ S.size) : (numR 10 1 S a e).2.1 ≤ S.size := by
  by_cases he : e = 0
  · subst he
    rcases hn : numR 10 1 S a 0 with ⟨n, a1, e1⟩
    rcases (ag_int h hn).2 with ⟨_, _, h5, _⟩ | ⟨_, _, rfl⟩
    · exact h5
    · exact h
  · rw [numR_wrong he]; exact h
theorem textR_le {S : ByteArray} {a : Nat} {e : Int} (h : a ≤ S.size) : (textR 200 S a e).2.1 ≤ S.size := by
  by_cases he : e = 0
  · subst he
    rcases hn : textR 200 S a 0 with ⟨n, a1, e1⟩
    rcases (ag_text h (by omega) hn).2 with ⟨_, _, h5, _⟩ | ⟨_, _, rfl⟩
    · exact h5
    · exact h
  · unfold textR; rw [if_pos he]; exact h
theorem rdV_le {S : ByteArray} {a a' : Nat} {e e' : Int} {p : Val × Bool} (hle : a ≤ S.size) (h : rdV S a e = (p, a', e')) : a' ≤ S.size := by
  have h0 : (rdV S a e).2.1 = a' := by rw [h]
  rw [← h0]
  have hb := byteR_le (e := e) hle
  unfold rdV
  split
  · exact hb
  · split
    · exact numR_le hb
    · split
      · exact textR_le hb
      · split
        · exact hb
        · exact hb
theorem rdV_again {S : ByteArray} {a a' : Nat} {e : Int} {v : Val} (h : rdV S a e = ((v, true), a', 0)) : e = 0 ∧ a' ≤ S.size ∧ S.data.toList.take a' = S.data.toList.take a ++ encV v ∧ wrg v = 0 ∧ v.i64 := by
  unfold rdV at h
  rcases hb : byteR S a e with ⟨m, b, f⟩
  rw [hb] at h
  simp only at h
  have hbe : f = 0 → e = 0 := fun hf => byteR_e (by rw [hb]; exact hf)
  split at h
  · rename_i h0
    simp only [Prod.mk.injEq] at h
    obtain ⟨⟨rfl, _⟩, rfl, rfl⟩ := h
    obtain rfl := hbe rfl
    subst h0
    obtain ⟨g1, g2, _⟩ := byte_take hb
    exact ⟨rfl, g1, g2, by decide, ⟨⟨by decide, by decide⟩, by decide, by decide⟩⟩
  · split at h
    · rename_i h0 h1
      subst h1
      simp only [Prod.mk.injEq] at h
      obtain ⟨⟨rfl, _⟩, h2⟩ := h
      have hf : f = 0 := numR_e (by rw [h2])
      subst hf
      obtain rfl := hbe rfl
      obtain ⟨g1, g2, _⟩ := byte_take hb
      rcases hn : numR 10 1 S b 0 with ⟨n, a1, e1⟩
      rw [hn] at h2
      simp only [Prod.mk.injEq] at h2
      obtain ⟨rfl, rfl⟩ := h2
      obtain ⟨hr, h3⟩ := ag_int g1 hn
      rcases h3 with ⟨_, _, h5, h6⟩ | ⟨h4, _⟩
      · rw [laidOn_zero] at h6
        refine ⟨rfl, h5, ?_, ?_, ⟨by simp, by simp⟩, ?_⟩
        · rw [← h6, g2, List.append_assoc]; rfl
        · unfold wrg; rw [if_pos (show frm _ from Or.inr (Or.inl ⟨rfl, rfl⟩)), if_pos (by show (0 : Nat) ≤ 200; omega)]
        · exact hr
      · exact absurd rfl h4
    · split at h
      · rename_i h0 h1 h2
        subst h2
        simp only [Prod.mk.injEq] at h
        obtain ⟨⟨rfl, _⟩, h2⟩ := h
        have hf : f = 0 := textR_e (m := 200) (by rw [h2])
        subst hf
        obtain rfl := hbe rfl
        obtain ⟨g1, g2, _⟩ := byte_take hb
        rcases hn : textR 200 S b 0 with ⟨t, a1, e1⟩
        rw [hn] at h2
        simp only [Prod.mk.injEq] at h2
        obtain ⟨rfl, rfl⟩ := h2
        have hts := textR_size hn
        obtain ⟨hr, h3⟩ := ag_text g1 (by omega) hn
        rcases h3 with ⟨_, _, h5, h6⟩ | ⟨h4, _⟩
        · have hc : textC t 300 = 0 := by unfold textC; rw [if_neg (by omega), if_neg (by omega)]
          have h7 : S.data.toList.take b ++ textL t = S.data.toList.take a1 := by
            rw [hc] at h6
            unfold upd at h6
            simp at h6
            exact h6
          refine ⟨rfl, h5, ?_, ?_, ⟨by simp, by simp⟩, by simp, by simp⟩
          · rw [← h7, g2, List.append_assoc]; rfl
          · unfold wrg frm; simp [hts]
        · exact absurd rfl h4
      · split at h
        · rename_i h0 h1 h2 h3
          simp only [Prod.mk.injEq] at h
          obtain ⟨⟨rfl, _⟩, rfl, rfl⟩ := h
          obtain rfl := hbe rfl
          obtain ⟨g1, g2, _⟩ := byte_take hb
          refine ⟨rfl, g1, ?_, ?_, ⟨by simp, by simp⟩, ?_⟩
          · rw [g2]
            rcases h3 with rfl | rfl <;> rfl
          · rcases h3 with rfl | rfl <;> decide
          · rcases h3 with rfl | rfl <;> exact ⟨by decide, by decide⟩
        · simp at h
theorem decGo_again {S : ByteArray} : ∀ (n a : Nat) (e : Int) (l vs : List Val), a ≤ S.size → decGo S n a e l = some vs → e = 0 ∧ ∃ vs', vs = l ++ vs' ∧ vs'.length = n ∧ (∀ v ∈ vs', wrg v = 0 ∧ v.i64) ∧ S.data.toList = S.data.toList.take a ++ vs'.flatMap encV
  | 0, a, e, l, vs, hle, h => by
    unfold decGo at h
    split at h
    · rename_i h0
      have he : e = 0 := by
        unfold doneE at h0
        by_cases h1 : e = 0
        · exact h1
        · rw [if_neg h1] at h0; exact h0
      subst he
      have ha : S.size - a = 0 := by
        unfold doneE at h0
        rw [if_pos rfl] at h0
        split at h0
        · assumption
        · simp at h0
      refine ⟨rfl, [], ?_, rfl, fun v hv => by simp at hv, ?_⟩
      · simpa using h.symm
      · simp
        exact (List.take_of_length_le (by simp; omega)).symm
    · simp at h
  | n + 1, a, e, l, vs, hle, h => by
    unfold decGo at h
    rcases hr : rdV S a e with ⟨⟨v, ok⟩, a', e'⟩
    rw [hr] at h
    simp only at h
    split at h
    · rename_i hok
      subst hok
      have ha' : a' ≤ S.size := rdV_le hle hr
      obtain ⟨rfl, vs', rfl, h2, h3, h4⟩ := decGo_again n a' e' (l ++ [v]) vs ha' h
      obtain ⟨rfl, h5, h6, h7, h8⟩ := rdV_again hr
      refine ⟨rfl, v :: vs', by simp, by simp [h2], fun u hu => ?_, ?_⟩
      · rcases List.mem_cons.1 hu with rfl | hu
        · exact ⟨h7, h8⟩
        · exact h3 u hu
      · rw [List.flatMap_cons, ← List.append_assoc, ← h6]; exact h4
    · simp at h
theorem encGo_all : ∀ (vs : List Val) (bs : List UInt8), (∀ v ∈ vs, wrg v = 0) → encGo vs bs = (bs ++ vs.flatMap encV, 0)
  | [], bs, _ => by simp [encGo]
  | v :: r, bs, h => by
    unfold encGo
    rw [if_pos (h v (by simp)), encGo_all r _ (fun u hu => h u (by simp [hu])), List.flatMap_cons, List.append_assoc]
theorem dec_enc {S : ByteArray} {vs : List Val} (h : decR S = some vs) : encR vs = (S.data.toList, 0) ∧ vs.length ≤ 8 ∧ ∀ v ∈ vs, wrg v = 0 ∧ v.i64 := by
  unfold decR at h
  rcases hb : byteR S 0 0 with ⟨m, b, f⟩
  rw [hb] at h
  simp only at h
  split at h
  · simp at h
  · rename_i h8
    have hb1 : b ≤ S.size := by have := byteR_le (S := S) (a := 0) (e := 0) (Nat.zero_le _); rw [hb] at this; exact this
    obtain ⟨rfl, vs', rfl, h2, h3, h4⟩ := decGo_again m b f [] vs hb1 h
    obtain ⟨g1, g2, _⟩ := byte_take hb
    refine ⟨?_, by omega, h3⟩
    unfold encR
    rw [if_neg (by omega), encGo_all _ _ (fun v hv => (h3 v hv).1), h2]
    refine Prod.ext ?_ rfl
    show _ ++ _ = _
    rw [g2] at h4
    simpa using h4.symm
end Go.Proofs.YtjiblajnfnmjnaaGreatDoor
