import Derived.Test.YtmfbhhloabkecaaGreatDoorBarv
import Derived.Deep.AppendLies
import Derived.Deep.RegionHeld3
import Derived.Maps.AppendAt
import Derived.Lib.BufferMore
import Derived.BigQuiet
import Derived.Test.YtmfbhhloabkecaaGreatDoorVLift
/- lent and asLent of the law: rows. -/
namespace Go.Proofs.YtmfbhhloabkecaaGreatDoor
open Go.RowKit Go.Sort

theorem req_nil_no (ad : Addr) (n c : Nat) (w : World) : (binOp .eql 24 (.slice (some ad) n c) (.slice none 0 0)).run Tryz.prog w = .ok (.bool false) w := Lib.run_eql_slice_some_nil w ad n c Tryz.underlying24
theorem req_nil_yes (w : World) : (binOp .eql 24 (.slice none 0 0) (.slice none 0 0)).run Tryz.prog w = .ok (.bool true) w := Lib.run_eql_slice_nil_nil w 0 0 Tryz.underlying24
/-- An append onto a slice of one's own at a step of a region that draws its order. -/
theorem step_append_own_at {P : Program} (w : World) {ops : Array Oper} {o : Oper} {a : Act} {K : Act → World → Prop} {Q : Exit → Act → World → Prop} {E : Prop} (hgd : o.guard = none) (s x : Operand) (t : TypeId)
    (ho : o.op = .call { callee := .builtin .append, args := #[s, x], argTypes := #[t, t] })
    (base : Nat) (e : TypeId) (i : TypeInfo) (z : Value) (size bytes : Nat) (ht : P.underlying t = some (.slice e)) (hi : P.info? e = some i) (hz : i.zero = some z)
    (hsize : i.size = size) (hby : i.bytes = bytes) (hzs : z.cells.size = size) (hsz : 0 < size)
    (v : Value) (n : Nat) (xs : List Value) (hs : a.eval s = v) (hown : w.ownsRow base e size v n xs)
    (ad : Addr) (m c : Nat) (news : List Value) (hx : a.eval x = .slice (some ad) m c) (hl : news.length = m * size) (hnews : ∀ j u, news[j]? = some u → w.cell? (ad.add j) = some u) (h1 : ∀ u ∈ news, u.oneCell' = true)
    (h63 : n + m ≤ maxLen) (hbytes : (n + m) * bytes ≤ 140737488355328) (hbase : base ≤ w.heap.size)
    (h : ∀ v' w', w'.ownsRow base e size v' (n + m) (xs ++ news) → w.grownBy w' v.ownBlock → (v' = .slice none 0 0 ↔ v = .slice none 0 0 ∧ m = 0) → (v'.ownBlock = v.ownBlock ∨ v'.ownBlock = some w.heap.size) → K (a.put o.dst v') w') :
    if Region.wanted o (yielded ops a.tmps) = true then Oper.wp P o a w K Q else E := by
  have hw : Region.wanted o (yielded ops a.tmps) = true := by simp [Region.wanted, hgd]
  rw [if_pos hw]
  obtain ⟨v', w', hr, h2, h3, h4, h5⟩ := run_append_own_at (P := P) w base t o.type e i z size bytes ht hi hz hsize hby hzs hsz v n xs hown ad m c news hl hnews h1 h63 hbytes hbase
  unfold Oper.wp execOp
  simp only [ho, resolve, invoke, builtin, Sem.run_bind, Sem.run_pure, Result.andThen_ok, List.map_toArray, List.map_cons, List.map_nil, hs, hx, hr]
  exact h v' w' h2 h3 h4 h5
theorem grown_tch2 {b : Nat} {w w' : World} {row : Option Nat} (h : w.grownBy w' row) (hr : ∀ g, row = some g → b ≤ g) : Tch (fun i => b ≤ i) w w' :=
  ⟨h.os, h.tape, h.output, h.size, fun k hk hn => h.block k hk (fun e => hn (hr k e.symm))⟩

theorem alloc_new (w : World) (o : Obj) : (w.alloc o).heap[w.heap.size]? = some o := by show (w.heap.push o)[w.heap.size]? = _; simp
theorem own_cap3 {w : World} {base : Nat} {t : TypeId} {g n cap : Nat} {xs : List Value} (h : w.ownsRow base t 3 (.slice (some ⟨g, 0, none⟩) n cap) n xs) : base ≤ g ∧ n ≤ cap ∧ ∃ cur, w.heap[g]? = some (.cells cur t (0, 0)) ∧ cur.size = cap * 3 ∧ cur.toList.take (n * 3) = xs := by
  rcases h.2 with ⟨h1, _⟩ | ⟨g', cap', cur, h1, h2, h3, h4, h5, h6, h7⟩
  · cases h1
  · simp only [Value.slice.injEq, Option.some.injEq, Addr.mk.injEq] at h1
    obtain ⟨⟨rfl, _⟩, _, rfl⟩ := h1
    exact ⟨h2, h4, cur, h3, h6, h7⟩
def markV : Val := ⟨-7, 0, ⟨#[]⟩⟩
def markX : Obj := .cells #[.int .i64 (-7), .int .i64 0, .string ⟨#[]⟩, .int .i64 (-7), .int .i64 0, .string ⟨#[]⟩, .int .i64 (-7), .int .i64 0, .string ⟨#[]⟩, .int .i64 (-7), .int .i64 0, .string ⟨#[]⟩] 58
theorem mark_news (W : World) : ∀ j u, (rcl [markV, markV, markV, markV])[j]? = some u → (W.alloc markX).cell? ((⟨W.heap.size, 0, none⟩ : Addr).add j) = some u := World.news_of_block (alloc_new W markX)
theorem mark_news2 (W W' : World) (h : (W.alloc markX).drew.grownBy W' none) : ∀ j u, (rcl [markV, markV, markV, markV])[j]? = some u → W'.cell? ((⟨W.heap.size, 0, none⟩ : Addr).add j) = some u :=
  World.news_of_block (w := W') (B := W.heap.size) (by rw [h.block W.heap.size (by simp) (by simp)]; exact alloc_new W markX)
def lentV (l : List Val) : List Val := l ++ [markV, markV, markV, markV]
theorem lentV_len (l : List Val) : (lentV l).length = l.length + 4 := by simp [lentV]
theorem lentV_lt (l : List Val) (k : Nat) (hk : k < l.length) (h : k < (lentV l).length) : (lentV l)[k] = l[k] := by simp [lentV, hk]
theorem lentV_ge (l : List Val) (k : Nat) (hk : ¬ k < l.length) (h : k < (lentV l).length) : (lentV l)[k] = markV := by
  unfold lentV at h ⊢
  rw [List.getElem_append_right (by omega)]
  have hk4 : k - l.length < 4 := by simp at h; omega
  have : ∀ m, (hm : m < 4) → ([markV, markV, markV, markV] : List Val)[m]'(by simpa using hm) = markV := by
    intro m hm
    obtain rfl | rfl | rfl | rfl : m = 0 ∨ m = 1 ∨ m = 2 ∨ m = 3 := by omega
    all_goals rfl
  exact this _ hk4
end Go.Proofs.YtmfbhhloabkecaaGreatDoor
/- The order of values, by the document. -/
namespace Go.Proofs.YtmfbhhloabkecaaGreatDoor
open Go.RowKit

def rk2 (k : Int) : Int := if rk k = 4 then k else 0
def oc (a b : Int) : Int := Lib.compareInt a b
/-- The first of three numbers that is not nought. -/
theorem cmpV_three0 (a b : Val) : cmpV a b = if Lib.compareInt (rk a.k) (rk b.k) ≠ 0 then Lib.compareInt (rk a.k) (rk b.k) else if Lib.compareInt (rk2 a.k) (rk2 b.k) ≠ 0 then Lib.compareInt (rk2 a.k) (rk2 b.k) else if Lib.compareInt a.n b.n ≠ 0 then Lib.compareInt a.n b.n else Lib.compareBytes a.s.data.toList b.s.data.toList := by
  by_cases h1 : Lib.compareInt (rk a.k) (rk b.k) ≠ 0
  · rw [if_pos h1]
    have hk : a.k ≠ b.k := fun e => h1 (by rw [e]; exact cmpInt0.2 rfl)
    rw [cmpV_k hk]; unfold cmpK; rw [if_neg h1]
  · rw [if_neg h1]
    have e1 : rk a.k = rk b.k := cmpInt0.1 (by omega)
    by_cases hk : a.k = b.k
    · have e2 : Lib.compareInt (rk2 a.k) (rk2 b.k) = 0 := by rw [hk]; exact cmpInt0.2 rfl
      rw [if_neg (by omega)]
      by_cases hn : a.n = b.n
      · rw [if_neg (by rw [hn]; simp [cmpInt0.2]), cmpV_s hk hn]
      · rw [if_pos (fun e => hn (cmpInt0.1 e)), cmpV_n hk hn]
    · have h4 : rk a.k = 4 := by
        unfold rk at e1 ⊢
        (repeat' split at e1) <;> (repeat' split) <;> omega
      have e2 : rk2 a.k = a.k ∧ rk2 b.k = b.k := by unfold rk2; rw [if_pos h4, if_pos (by omega)]; exact ⟨rfl, rfl⟩
      rw [e2.1, e2.2, if_pos (fun e => hk (cmpInt0.1 e)), cmpV_k hk]
      unfold cmpK; rw [if_pos (by omega)]
theorem cmpV_three (a b : Val) : cmpV a b = if oc (rk a.k) (rk b.k) ≠ 0 then oc (rk a.k) (rk b.k) else if oc (rk2 a.k) (rk2 b.k) ≠ 0 then oc (rk2 a.k) (rk2 b.k) else if oc a.n b.n ≠ 0 then oc a.n b.n else Lib.compareBytes a.s.data.toList b.s.data.toList := cmpV_three0 a b
theorem compareBytes_drop {x y : List UInt8} {k : Nat} (hx : k < x.length) (hy : k < y.length) (h : x[k] = y[k]) : Lib.compareBytes (x.drop k) (y.drop k) = Lib.compareBytes (x.drop (k + 1)) (y.drop (k + 1)) := by
  rw [List.drop_eq_getElem_cons hx, List.drop_eq_getElem_cons hy, h]; exact compareBytes_cons _ _ _
theorem cmpByte {a b : UInt8} {l m : List UInt8} (h : Lib.compareInt a.toNat b.toNat ≠ 0) : Lib.compareBytes (a :: l) (b :: m) = Lib.compareInt a.toNat b.toNat := by
  have hne : a.toNat ≠ b.toNat := fun e => h (by rw [e]; exact cmpInt0.2 rfl)
  unfold Lib.compareBytes Lib.compareInt
  by_cases h1 : a < b
  · have h2 := UInt8.lt_iff_toNat_lt.1 h1
    rw [if_pos h1, if_pos (by omega)]
  · have h2 : ¬ a.toNat < b.toNat := fun e => h1 (UInt8.lt_iff_toNat_lt.2 e)
    rw [if_neg h1, if_pos (UInt8.lt_iff_toNat_lt.2 (by omega)), if_neg (by omega), if_pos (by omega)]

end Go.Proofs.YtmfbhhloabkecaaGreatDoor
/- ValueCompares: the rows of the law. -/
namespace Go.Proofs.YtmfbhhloabkecaaGreatDoor
open Go.RowKit Go.Sort

theorem rowAt_cells {w : World} {g o : Nat} {l : List Val} (h : RowAt w g o l) : ∀ j u, (rcl l)[j]? = some u → w.cell? ⟨g, o + j, none⟩ = some u := by
  intro j u hu
  have hj : j < l.length * 3 := by rw [← rcl_len]; exact (List.getElem?_eq_some_iff.1 hu).1
  obtain ⟨q, r, rfl, hr⟩ : ∃ q r, j = q * 3 + r ∧ r < 3 := ⟨j / 3, j % 3, by omega, by omega⟩
  have hq : q < l.length := by omega
  obtain ⟨h0, h1, h2⟩ := h q hq
  obtain ⟨g0, g1, g2⟩ := rcl_get l q hq
  obtain rfl | rfl | rfl : r = 0 ∨ r = 1 ∨ r = 2 := by omega
  · rw [Nat.add_zero] at hu ⊢; rw [g0] at hu; cases hu; exact h0
  · rw [g1] at hu; cases hu; rw [← Nat.add_assoc]; exact h1
  · rw [g2] at hu; cases hu; rw [← Nat.add_assoc]; exact h2
theorem rowAt_of {w : World} {g : Nat} {l : List Val} (h : ∀ j u, (rcl l)[j]? = some u → w.cell? ⟨g, j, none⟩ = some u) : RowAt w g 0 l := by
  intro j hj
  obtain ⟨g0, g1, g2⟩ := rcl_get l j hj
  rw [Nat.zero_add]
  exact ⟨h _ _ g0, h _ _ g1, h _ _ g2⟩
theorem RowOf.lt {w : World} {ao : Option Addr} {vs : List Val} (h : RowOf w ao vs) (hv : vs ≠ []) {g o : Nat} (e : ao = some ⟨g, o, none⟩) : g < w.heap.size := by
  obtain ⟨g', o', e', hr⟩ := h hv
  rw [e] at e'
  injection e' with e'
  injection e' with e1 e2
  subst e1
  exact hr.lt hv
theorem RowOf.old2 {S : Nat → Prop} {w w1 w' : World} {ao : Option Addr} {vs : List Val} (h : RowOf w ao vs) (t0 : Tch (fun _ => False) w w1) (t : Tch S w1 w') (hS : ∀ g, g < w.heap.size → ¬ S g) : RowOf w' ao vs := by
  intro hv
  obtain ⟨g, o, ha, hr⟩ := h hv
  have hlt := hr.lt hv
  exact ⟨g, o, ha, (hr.tch t0 (fun _ h => h)).tch t (fun _ => hS g hlt)⟩
/-- What the law has lent. -/
def LX (base : Nat) (W : World) (xo : Option Addr) (cx : Nat) (ro : Option Addr) (c : Nat) (l : List Val) : Prop :=
  (ro = none ∧ xo = none ∧ l = [] ∧ c = 0 ∧ cx = 0) ∨ ∃ ad g, ro = some ad ∧ xo = some ⟨g, 0, none⟩ ∧ base ≤ g ∧ g < W.heap.size ∧ l.length + 4 ≤ cx ∧ RowAt W g 0 (lentV l) ∧ ∀ j, W.frozen? ⟨g, j, none⟩ = false
theorem LX.tch {S : Nat → Prop} {base : Nat} {W W' : World} {xo : Option Addr} {cx : Nat} {ro : Option Addr} {c : Nat} {l : List Val} (h : LX base W xo cx ro c l) (t : Tch S W W') (hS : ∀ i, base ≤ i → ¬ S i) : LX base W' xo cx ro c l := by
  rcases h with h | ⟨ad, g, h1, h2, h3, h4, h5, h6, h7⟩
  · exact Or.inl h
  · exact Or.inr ⟨ad, g, h1, h2, h3, Nat.lt_of_lt_of_le h4 t.size, h5, h6.tch t (fun _ => hS g h3), fun j => by rw [t.frozen (p := ⟨g, j, none⟩) h4 (hS g h3)]; exact h7 j⟩
theorem LX.base {base base' : Nat} {W : World} {xo : Option Addr} {cx : Nat} {ro : Option Addr} {c : Nat} {l : List Val} (h : LX base W xo cx ro c l) (hb : base' ≤ base) : LX base' W xo cx ro c l := by
  rcases h with h | ⟨ad, g, h1, h2, h3, h4⟩
  · exact Or.inl h
  · exact Or.inr ⟨ad, g, h1, h2, Nat.le_trans hb h3, h4⟩
theorem LX.lt {base i : Nat} {W : World} {xo : Option Addr} {cx : Nat} {ro : Option Addr} {c : Nat} {l : List Val} (h : LX base W xo cx ro c l) (e : xo = some ⟨i, 0, none⟩) : i < W.heap.size := by
  rcases h with ⟨_, h, _⟩ | ⟨ad, g, h1, h2, h3, h4, _⟩
  · rw [h] at e; cases e
  · rw [h2] at e; injection e with e; injection e with e; subst e; exact h4
theorem LX.row {base : Nat} {W : World} {xo : Option Addr} {cx : Nat} {ro : Option Addr} {c : Nat} {l : List Val} (h : LX base W xo cx ro c l) : RowOf W xo l := by
  rcases h with ⟨_, _, rfl, _⟩ | ⟨ad, g, h1, h2, h3, h4, h5, h6, h7⟩
  · intro h; exact absurd rfl h
  · intro _
    refine ⟨g, 0, h2, fun j hj => ?_⟩
    have h8 := h6 j (by rw [lentV_len]; omega)
    rw [lentV_lt l j hj] at h8
    exact h8
theorem eq_bool {p : Prop} {b c : Bool} (hb : b = true ↔ p) (hc : c = true ↔ p) : b = c := by
  cases b <;> cases c <;> simp_all
end Go.Proofs.YtmfbhhloabkecaaGreatDoor
/- A row that is handed in, as cells. -/
namespace Go.Proofs.YtmfbhhloabkecaaGreatDoor
open Go.ChangeShapes Go.WideShapes Go.RowKit Go.Deep
set_option maxRecDepth 100000

theorem add_plain (b o j : Nat) : (⟨b, o, none⟩ : Addr).add j = ⟨b, o + j, none⟩ := by unfold Addr.add; split <;> simp_all
theorem b_val : Tryz.prog.bytesOf 58 = 32 := by kernel_rfl
/-- A row that is handed in. -/
theorem arg_row {H : Type} {enc : TypeId × Value → H} {W : World} {v : Value} {d : DataW H} {p : List MemPlace} (hsl : ∃ a len cap, v = .slice a len cap) (h : DataW.Trod enc Tryz.prog W 0 (fun _ => true) true 24 v d p) :
    ∃ (vs : List Val) (ao : Option Addr) (cap : Nat), v = .slice ao vs.length cap ∧ RowOf W ao vs ∧ (ao = none → vs = [] ∧ cap = 0) ∧ (∀ u ∈ vs, u.i64 ∧ u.s.size ≤ maxLen) ∧ (vs ≠ [] → ∃ es sp, d = .slice es sp ∧ es.length = vs.length) := by
  obtain ⟨ao, len, cap, rfl⟩ := hsl
  obtain ⟨fuel, hf⟩ := h
  rcases open_slice Tryz.underlying24 hf with ⟨h1, _⟩ | ⟨a, len', cap', m, n, D, Pl, h1, _, hl, hmx, hm, hx, hel⟩
  · have h2 : [Value.slice ao len cap] = [Value.slice none 0 0] := h1
    simp at h2
    obtain ⟨rfl, rfl, rfl⟩ := h2
    exact ⟨[], none, 0, rfl, fun h => absurd rfl h, fun _ => ⟨rfl, rfl⟩, fun u hu => by simp at hu, fun h => absurd rfl h⟩
  · simp only [Value.cells, List.cons.injEq, Value.slice.injEq, and_true] at h1
    obtain ⟨rfl, rfl, rfl⟩ := h1
    have hm' : m = cap := by simpa using hm
    rw [c_val] at hel
    have key : ∀ i, i < len → ∃ u : Val, (W.cell? (a.add (i * 3)) = some (.int .i64 u.k) ∧ W.cell? ((a.add (i * 3)).add 1) = some (.int .i64 u.n) ∧ W.cell? ((a.add (i * 3)).add 2) = some (.string u.s)) ∧ u.i64 ∧ u.s.size ≤ maxLen := by
      intro i hi
      obtain ⟨cs', hc, ht⟩ := hel i (by omega)
      obtain ⟨_, hcl, hcc⟩ := World.cells?_some hc
      obtain ⟨k, n, s, rfl, _, h64, hsz⟩ := val_of ht
      have g0 := hcc 0 (by simp)
      have g1 := hcc 1 (by simp)
      have g2 := hcc 2 (by simp)
      exact ⟨⟨k, n, s⟩, ⟨by simpa [Addr.add] using g0, by simpa using g1, by simpa using g2⟩, h64, hsz⟩
    have pick : ∃ vs : List Val, vs.length = len ∧ ∀ i (hi : i < vs.length), (W.cell? (a.add (i * 3)) = some (.int .i64 vs[i].k) ∧ W.cell? ((a.add (i * 3)).add 1) = some (.int .i64 vs[i].n) ∧ W.cell? ((a.add (i * 3)).add 2) = some (.string vs[i].s)) ∧ vs[i].i64 ∧ vs[i].s.size ≤ maxLen := by
      classical
      refine ⟨List.ofFn (fun i : Fin len => (key i.1 i.2).choose), by simp, fun i hi => ?_⟩
      have hi' : i < len := by simpa using hi
      rw [List.getElem_ofFn]
      exact (key i hi').choose_spec
    obtain ⟨vs, rfl, hvs⟩ := pick
    refine ⟨vs, some a, cap, rfl, fun hv => ?_, fun h => (by cases h), fun u hu => ?_, fun _ => ⟨_, _, congrArg Prod.fst hx, by rw [List.length_map, List.length_range]⟩⟩
    · have h0 : 0 < vs.length := List.length_pos_iff.2 hv
      obtain ⟨b, off, spot⟩ := a
      have hspot : spot = none := by
        obtain ⟨⟨h0', _⟩, _⟩ := hvs 0 h0
        simpa [Addr.add] using World.cell?_spot h0'
      subst hspot
      refine ⟨b, off, rfl, fun i hi => ?_⟩
      obtain ⟨⟨h0', h1', h2'⟩, _⟩ := hvs i hi
      simp only [add_plain] at h0' h1' h2'
      exact ⟨h0', h1', h2'⟩
    · obtain ⟨i, hi, rfl⟩ := List.getElem_of_mem hu
      exact (hvs i hi).2
end Go.Proofs.YtmfbhhloabkecaaGreatDoor
