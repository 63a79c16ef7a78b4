/- lent and asLent of the law: rows. -/
import Derived.Test.YtnjbkkccofjmgaaDoorVRights
import Derived.Test.YtnjbkkccofjmgaaDoorBarv
import Derived.Deep.AppendLies
import Derived.Deep.RegionHeld3
import Derived.Maps.AppendAt
import Derived.Lib.BufferMore
import Derived.BigQuiet
namespace Go.Proofs.YtnjbkkccofjmgaaDoor
open Go.RowKit Go.Sort

theorem req_nil_no (ad : Addr) (n c : Nat) (w : World) : (binOp .eql 36 (.slice (some ad) n c) (.slice none 0 0)).run Tryd.prog w = .ok (.bool false) w := Lib.run_eql_slice_some_nil w ad n c Tryd.underlying36
theorem req_nil_yes (w : World) : (binOp .eql 36 (.slice none 0 0) (.slice none 0 0)).run Tryd.prog w = .ok (.bool true) w := Lib.run_eql_slice_nil_nil w 0 0 Tryd.underlying36
theorem rlent_nil (w : World) : Calls Tryd.prog 17 #[.slice none 0 0] w fun x w' => x = .returned (.slice none 0 0) ∧ w' = w := by
  have he := req_nil_yes
  go_enter Tryd.func17, Tryd.ntmps17
  go_wp2
  go_ret
  exact ⟨rfl, rfl⟩
/-- An append onto a slice of one's own at a step of a region that draws its order. -/
theorem step_append_own_at {P : Program} (w : World) {ops : Array Oper} {o : Oper} {a : Act} {K : Act → World → Prop} {Q : Exit → Act → World → Prop} {E : Prop} (hgd : o.guard = none) (s x : Operand) (t : TypeId)
    (ho : o.op = .call { callee := .builtin .append, args := #[s, x], argTypes := #[t, t] })
    (base : Nat) (e : TypeId) (i : TypeInfo) (z : Value) (size bytes : Nat) (ht : P.underlying t = some (.slice e)) (hi : P.info? e = some i) (hz : i.zero = some z)
    (hsize : i.size = size) (hby : i.bytes = bytes) (hzs : z.cells.size = size) (hsz : 0 < size)
    (v : Value) (n : Nat) (xs : List Value) (hs : a.eval s = v) (hown : w.ownsRow base e size v n xs)
    (ad : Addr) (m c : Nat) (news : List Value) (hx : a.eval x = .slice (some ad) m c) (hl : news.length = m * size) (hnews : ∀ j u, news[j]? = some u → w.cell? (ad.add j) = some u) (h1 : ∀ u ∈ news, u.oneCell' = true)
    (h63 : n + m ≤ maxLen) (hbytes : (n + m) * bytes ≤ 140737488355328) (hbase : base ≤ w.heap.size)
    (h : ∀ v' w', w'.ownsRow base e size v' (n + m) (xs ++ news) → w.grownBy w' v.ownBlock → (v' = .slice none 0 0 ↔ v = .slice none 0 0 ∧ m = 0) → (v'.ownBlock = v.ownBlock ∨ v'.ownBlock = some w.heap.size) → K (a.put o.dst v') w') :
    if Region.wanted o (yielded ops a.tmps) = true then Oper.wp P o a w K Q else E := by
  have hw : Region.wanted o (yielded ops a.tmps) = true := by simp [Region.wanted, hgd]
  rw [if_pos hw]
  obtain ⟨v', w', hr, h2, h3, h4, h5⟩ := run_append_own_at (P := P) w base t o.type e i z size bytes ht hi hz hsize hby hzs hsz v n xs hown ad m c news hl hnews h1 h63 hbytes hbase
  unfold Oper.wp execOp
  simp only [ho, resolve, invoke, builtin, Sem.run_bind, Sem.run_pure, Result.andThen_ok, List.map_toArray, List.map_cons, List.map_nil, hs, hx, hr]
  exact h v' w' h2 h3 h4 h5
theorem grown_tch2 {b : Nat} {w w' : World} {row : Option Nat} (h : w.grownBy w' row) (hr : ∀ g, row = some g → b ≤ g) : Tch (fun i => b ≤ i) w w' :=
  ⟨h.os, h.tape, h.output, h.size, fun k hk hn => h.block k hk (fun e => hn (hr k e.symm))⟩

theorem alloc_new (w : World) (o : Obj) : (w.alloc o).heap[w.heap.size]? = some o := by show (w.heap.push o)[w.heap.size]? = _; simp
theorem own_cap3 {w : World} {base : Nat} {t : TypeId} {g n cap : Nat} {xs : List Value} (h : w.ownsRow base t 3 (.slice (some ⟨g, 0, none⟩) n cap) n xs) : base ≤ g ∧ n ≤ cap ∧ ∃ cur, w.heap[g]? = some (.cells cur t (0, 0)) ∧ cur.size = cap * 3 ∧ cur.toList.take (n * 3) = xs := by
  rcases h.2 with ⟨h1, _⟩ | ⟨g', cap', cur, h1, h2, h3, h4, h5, h6, h7⟩
  · cases h1
  · simp only [Value.slice.injEq, Option.some.injEq, Addr.mk.injEq] at h1
    obtain ⟨⟨rfl, _⟩, _, rfl⟩ := h1
    exact ⟨h2, h4, cur, h3, h6, h7⟩
def markV : Val := ⟨-7, 0, ⟨#[]⟩⟩
def markX : Obj := .cells #[.int .i64 (-7), .int .i64 0, .string ⟨#[]⟩, .int .i64 (-7), .int .i64 0, .string ⟨#[]⟩, .int .i64 (-7), .int .i64 0, .string ⟨#[]⟩, .int .i64 (-7), .int .i64 0, .string ⟨#[]⟩] 23
theorem mark_news (W : World) : ∀ j u, (rcl [markV, markV, markV, markV])[j]? = some u → (W.alloc markX).cell? ((⟨W.heap.size, 0, none⟩ : Addr).add j) = some u := World.news_of_block (alloc_new W markX)
theorem mark_news2 (W W' : World) (h : (W.alloc markX).drew.grownBy W' none) : ∀ j u, (rcl [markV, markV, markV, markV])[j]? = some u → W'.cell? ((⟨W.heap.size, 0, none⟩ : Addr).add j) = some u :=
  World.news_of_block (w := W') (B := W.heap.size) (by rw [h.block W.heap.size (by simp) (by simp)]; exact alloc_new W markX)
def lentV (l : List Val) : List Val := l ++ [markV, markV, markV, markV]
set_option maxHeartbeats 1000000 in
set_option maxRecDepth 100000 in
theorem rlent_any (l : List Val) (ad : Addr) (c : Nat) (w : World) (hcells : ∀ j u, (rcl l)[j]? = some u → w.cell? (ad.add j) = some u) (hlen : l.length * 32 ≤ 140737488351232) :
    Calls Tryd.prog 17 #[.slice (some ad) l.length c] w fun x w' => ∃ g cap cur, x = .returned (.slice (some ⟨g, 0, none⟩) l.length cap) ∧ w.heap.size ≤ g ∧ l.length + 4 ≤ cap ∧
      w'.heap[g]? = some (.cells cur 23 (0, 0)) ∧ cur.size = cap * 3 ∧ cur.toList.take ((l.length + 4) * 3) = rcl (lentV l) ∧ Tch (fun _ => False) w w' := by
  obtain ⟨i0, hi, hz0, hz1, hz2⟩ := info_parts info_val
  have he := req_nil_no ad l.length c
  obtain ⟨w0, hw0⟩ : ∃ w0, w0 = w.alloc (.cells #[.int .i64 (-7), .int .i64 0, .string ⟨#[]⟩] 23) := ⟨_, rfl⟩
  obtain ⟨b0, hb0⟩ : ∃ b0, b0 = w0.heap.size := ⟨_, rfl⟩
  have hb1 : w.heap.size + 1 = b0 := by rw [hb0, hw0, World.size_alloc]
  have T0 : Tch (fun i => w.heap.size ≤ i) w w0 := by rw [hw0]; exact Tch.alloc _ _ _
  have HN : Hid (∀ W, Tch (fun i => b0 ≤ i) w0 W → ∀ j u, (rcl l)[j]? = some u → W.cell? (ad.add j) = some u) := fun W t j u hu => by
    have h1 := hcells j u hu
    have h2 := cell_lt h1
    have h3 : w0.cell? (ad.add j) = some u := by rw [hw0, World.cell?_alloc_lt _ _ _ h2]; exact h1
    rw [t.cell (cell_lt h3) (by omega)]; exact h3
  have HBx : Hid (∀ W, Tch (fun i => b0 ≤ i) w0 W → W.cell? ⟨w.heap.size, 0, none⟩ = some (.int .i64 (-7)) ∧ W.cell? ⟨w.heap.size, 1, none⟩ = some (.int .i64 0) ∧ W.cell? ⟨w.heap.size, 2, none⟩ = some (.string ⟨#[]⟩)) := fun W t => by
    have h0 : w0.cell? ⟨w.heap.size, 0, none⟩ = some (.int .i64 (-7)) := by rw [hw0]; simp
    have h1 : w0.cell? ⟨w.heap.size, 1, none⟩ = some (.int .i64 0) := by rw [hw0]; simp
    have h2 : w0.cell? ⟨w.heap.size, 2, none⟩ = some (.string ⟨#[]⟩) := by rw [hw0]; simp
    exact ⟨by rw [t.cell (cell_lt h0) (by show ¬ b0 ≤ w.heap.size; omega)]; exact h0, by rw [t.cell (cell_lt h1) (by show ¬ b0 ≤ w.heap.size; omega)]; exact h1, by rw [t.cell (cell_lt h2) (by show ¬ b0 ≤ w.heap.size; omega)]; exact h2⟩
  have HL : Hid (l.length * 32 ≤ 140737488351232) := hlen
  have HK : Hid (∀ W, Tch (fun i => b0 ≤ i) w0 W → Tch (fun i => b0 ≤ i) w0 W ∧ W.cell? ⟨w.heap.size, 0, none⟩ = some (.int .i64 (-7)) ∧ W.cell? ⟨w.heap.size, 1, none⟩ = some (.int .i64 0) ∧ W.cell? ⟨w.heap.size, 2, none⟩ = some (.string ⟨#[]⟩)) := fun W t => ⟨t, HBx.out W t⟩
  have HZ : Hid (b0 = w0.heap.size) := hb0
  clear hcells hb0
  go_enter Tryd.func17, Tryd.ntmps17
  go_wp2_with fail
  rw [← hw0]
  clear hw0
  go_region_held3 (fun W => Tch (fun i => b0 ≤ i) w0 W ∧ W.cell? ⟨w.heap.size, 0, none⟩ = some (.int .i64 (-7)) ∧ W.cell? ⟨w.heap.size, 1, none⟩ = some (.int .i64 0) ∧ W.cell? ⟨w.heap.size, 2, none⟩ = some (.string ⟨#[]⟩))
    ((refine HK.out _ ?_; first | assumption | exact (Tch.refl _ _).drew | exact ((Tch.refl _ _).allocR _).drew | exact Tch.allocR (by first | assumption | exact (Tch.refl _ _).drew | exact (show _ ∧ _ by assumption).1) _))
    (first
      | (refine step_append_own_at _ rfl _ _ 36 rfl b0 23 i0 (.agg #[.int .i64 0, .int .i64 0, .string ⟨#[]⟩]) 3 32 Tryd.underlying36 hi hz0 hz1 hz2 rfl (by decide) (.slice none 0 0) 0 [] rfl (World.ownsRow_nil _ _ _ _) ad l.length c (rcl l) rfl (rcl_len l) (HN.out _ (by first | assumption | exact (show _ ∧ _ by assumption).1)) (rcl_one l) (by have := HL.out; unfold maxLen; omega) (by have := HL.out; omega) (by have := HZ.out; simp; omega) ?_; intro v1 w1 hown1 hgr1 hnil hat1; clear hnil; rw [Nat.zero_add, List.nil_append] at hown1; obtain ⟨ao1, cp1, hv1⟩ := row_slice hown1; subst hv1; have HT1 := Tch.trans' (by first | assumption | exact (show _ ∧ _ by assumption).1) (grown_tch2 (b := b0) hgr1 (fun g h => by cases h)))
      | (refine step_append_lies _ rfl _ _ 36 rfl b0 23 i0 (.agg #[.int .i64 0, .int .i64 0, .string ⟨#[]⟩]) 3 32 Tryd.underlying36 hi hz0 hz1 hz2 rfl (by decide) (.slice ao1 l.length cp1) l.length (rcl l) rfl (hown1.alloc _) ⟨w1.heap.size, 0, none⟩ 4 4 (rcl [markV, markV, markV, markV]) rfl rfl (mark_news w1) (rcl_one _) (by decide) (by have := HL.out; unfold maxLen; omega) (by have := HL.out; omega) (by have := HT1.size; have := HZ.out; simp; omega) _ rfl ?_; intro g cap w2 hown2 hgr2 hat2 hlt2; have HT2 := Tch.trans' (by first | assumption | exact (show _ ∧ _ by assumption).1) (grown_tch2 (b := b0) hgr2 (fun g h => row_ge hown1 h)); obtain ⟨hg2, hcap, cur, hh, hcs, hct⟩ := own_cap3 hown2; have hcap' : l.length ≤ cap := by omega)
      | (refine step_append_lies _ rfl _ _ 36 rfl b0 23 i0 (.agg #[.int .i64 0, .int .i64 0, .string ⟨#[]⟩]) 3 32 Tryd.underlying36 hi hz0 hz1 hz2 rfl (by decide) (.slice ao1 l.length cp1) l.length (rcl l) rfl hown1 ⟨w0.heap.size, 0, none⟩ 4 4 (rcl [markV, markV, markV, markV]) rfl rfl (mark_news2 w0 w1 hgr1) (rcl_one _) (by decide) (by have := HL.out; unfold maxLen; omega) (by have := HL.out; omega) (by have := HT1.size; have := HZ.out; simp; omega) _ rfl ?_; intro g cap w2 hown2 hgr2 hat2 hlt2; have HT2 := Tch.trans' (by first | assumption | exact (show _ ∧ _ by assumption).1) (grown_tch2 (b := b0) hgr2 (fun g h => row_ge hown1 h)); obtain ⟨hg2, hcap, cur, hh, hcs, hct⟩ := own_cap3 hown2; have hcap' : l.length ≤ cap := by omega)
      | fail)
  all_goals
    go_wp2_with fail
    go_ret
    refine ⟨g, cap, cur, rfl, by omega, hcap, hh, hcs, ?_, ge_new (T0.trans HT2 (fun i hi h => by omega))⟩
    rw [hct]; simp [rcl, lentV]

theorem rasLent_nil (r : Value) (w : World) : Calls Tryd.prog 19 #[r, .slice none 0 0] w fun x w' => x = .returned (.bool true) ∧ w' = w := by
  have he := req_nil_yes
  go_enter Tryd.func19, Tryd.ntmps19
  go_wp2
  go_ret
  exact ⟨rfl, rfl⟩
theorem lentV_len (l : List Val) : (lentV l).length = l.length + 4 := by simp [lentV]
theorem lentV_lt (l : List Val) (k : Nat) (hk : k < l.length) (h : k < (lentV l).length) : (lentV l)[k] = l[k] := by simp [lentV, hk]
theorem lentV_ge (l : List Val) (k : Nat) (hk : ¬ k < l.length) (h : k < (lentV l).length) : (lentV l)[k] = markV := by
  unfold lentV at h ⊢
  rw [List.getElem_append_right (by omega)]
  have hk4 : k - l.length < 4 := by simp at h; omega
  have : ∀ m, (hm : m < 4) → ([markV, markV, markV, markV] : List Val)[m]'(by simpa using hm) = markV := by
    intro m hm
    obtain rfl | rfl | rfl | rfl : m = 0 ∨ m = 1 ∨ m = 2 ∨ m = 3 := by omega
    all_goals rfl
  exact this _ hk4
set_option maxHeartbeats 1000000 in
set_option maxRecDepth 100000 in
theorem rasLent_any (l : List Val) (ad : Addr) (c g cap : Nat) (w : World) (hrow : RowOf w (some ad) l) (hne : l ≠ [] → ∀ gl o, ad = ⟨gl, o, none⟩ → gl ≠ g) (hlen : l.length * 32 ≤ 140737488351232)
    (hcap : l.length + 4 ≤ cap) (hl : RowAt w g 0 (lentV l)) (hfr : ∀ j, w.frozen? ⟨g, j, none⟩ = false) :
    Calls Tryd.prog 19 #[.slice (some ⟨g, 0, none⟩) l.length cap, .slice (some ad) l.length c] w fun x w' => x = .returned (.bool true) ∧ Tch (fun i => i = g) w w' := by
  have he := req_nil_no ad l.length c
  have HL : Hid (∀ W, Tch (fun i => i = g) w W → RowOf W (some ad) l) := fun W t => by
    by_cases h : l = []
    · intro h'; exact absurd h h'
    · exact hrow.tch t (fun gl o e => hne h gl o (by injection e))
  have HR : Hid (∀ j (hj : j < (lentV l).length), w.cell? ⟨g, 0 + j * 3, none⟩ = some (.int .i64 (lentV l)[j].k) ∧ w.cell? ⟨g, 0 + j * 3 + 1, none⟩ = some (.int .i64 (lentV l)[j].n) ∧ w.cell? ⟨g, 0 + j * 3 + 2, none⟩ = some (.string (lentV l)[j].s)) := hl
  have HF : Hid (∀ j, w.frozen? ⟨g, j, none⟩ = false) := hfr
  have HE : Hid (l.length * 32 ≤ 140737488351232) := hlen
  have hll := lentV_len l
  have HLL : Hid ((lentV l).length = l.length + 4) := hll
  have hgl : g < w.heap.size := cell_lt (hl 0 (by omega)).1
  clear hrow hl hfr hne hll
  have hcap' : (l.length : Int) + 4 ≤ cap := by omega
  have hn : (l.length : Int) ≤ 4398046511000 := by omega
  go_enter Tryd.func19, Tryd.ntmps19
  go_wp2
  go_loopw [6] (fun i wr => ∃ k : Nat, i = .int .i64 k ∧ k ≤ l.length + 4 ∧ Hid (∀ j (hj : j < (lentV l).length), k ≤ j → wr.cell? ⟨g, 0 + j * 3, none⟩ = some (.int .i64 (lentV l)[j].k) ∧ wr.cell? ⟨g, 0 + j * 3 + 1, none⟩ = some (.int .i64 (lentV l)[j].n) ∧ wr.cell? ⟨g, 0 + j * 3 + 2, none⟩ = some (.string (lentV l)[j].s)) ∧ Hid (∀ j, wr.frozen? ⟨g, j, none⟩ = false) ∧ Tch (fun i => i = g) w wr) (fun i _ => l.length + 4 - (intOf i).toNat)
  case atStart => exact ⟨0, rfl, Nat.zero_le _, fun j hj _ => HR.out j hj, HF, Tch.refl _ _⟩
  case round =>
    obtain ⟨k, rfl, hk, HC, HZ, hT⟩ := hrel
    by_cases hk4 : k < l.length + 4
    · have hk4' : (k : Int) < l.length + 4 := by omega
      have hkL : k < (lentV l).length := by rw [HLL.out]; exact hk4
      obtain ⟨x, hx⟩ : ∃ x, x = (lentV l)[k] := ⟨_, rfl⟩
      have hgw : g < wr.heap.size := Nat.lt_of_lt_of_le hgl hT.size
      obtain ⟨wa, hwa⟩ : ∃ wa, wa = wr.alloc (.cells #[.int .i64 (-7), .int .i64 0, .string ⟨#[]⟩] 23) := ⟨_, rfl⟩
      obtain ⟨wb, hwb⟩ : ∃ wb, wb = wr.alloc (.cells #[.int .i64 x.k, .int .i64 x.n, .string x.s] 23) := ⟨_, rfl⟩
      obtain ⟨B, hB⟩ : ∃ B, B = wr.heap.size := ⟨_, rfl⟩
      have b0 : wb.cell? ⟨B, 0, none⟩ = some (.int .i64 x.k) := by rw [hwb, hB]; simp
      have b1 : wb.cell? ⟨B, 1, none⟩ = some (.int .i64 x.n) := by rw [hwb, hB]; simp
      have b2 : wb.cell? ⟨B, 2, none⟩ = some (.string x.s) := by rw [hwb, hB]; simp
      have HCb : Hid (∀ j (hj : j < (lentV l).length), k ≤ j → wb.cell? ⟨g, 0 + j * 3, none⟩ = some (.int .i64 (lentV l)[j].k) ∧ wb.cell? ⟨g, 0 + j * 3 + 1, none⟩ = some (.int .i64 (lentV l)[j].n) ∧ wb.cell? ⟨g, 0 + j * 3 + 2, none⟩ = some (.string (lentV l)[j].s)) := fun j hj hkj => by
        rw [hwb, World.cell?_alloc_lt _ _ _ hgw, World.cell?_alloc_lt _ _ _ hgw, World.cell?_alloc_lt _ _ _ hgw]
        exact HC.out j hj hkj
      have hTb : Tch (fun i => i = g) w wb := by rw [hwb]; exact hT.allocR _
      have HT : Hid (∀ q, (∀ v0 v1 v2, ∀ j (hj : j < (lentV l).length), k + 1 ≤ j → ((((wb.drewN q).setCell ⟨g, k * 3, none⟩ v0).setCell ⟨g, k * 3 + 1, none⟩ v1).setCell ⟨g, k * 3 + 2, none⟩ v2).cell? ⟨g, 0 + j * 3, none⟩ = some (.int .i64 (lentV l)[j].k) ∧ ((((wb.drewN q).setCell ⟨g, k * 3, none⟩ v0).setCell ⟨g, k * 3 + 1, none⟩ v1).setCell ⟨g, k * 3 + 2, none⟩ v2).cell? ⟨g, 0 + j * 3 + 1, none⟩ = some (.int .i64 (lentV l)[j].n) ∧ ((((wb.drewN q).setCell ⟨g, k * 3, none⟩ v0).setCell ⟨g, k * 3 + 1, none⟩ v1).setCell ⟨g, k * 3 + 2, none⟩ v2).cell? ⟨g, 0 + j * 3 + 2, none⟩ = some (.string (lentV l)[j].s)) ∧ Tch (fun i => i = g) w (wb.drewN q) ∧ ∀ j, (wb.drewN q).frozen? ⟨g, j, none⟩ = false) := fun q => by
        have hq : Tch (fun _ => False) wb (wb.drewN q) := (Tch.refl _ wb).drewN q
        have hgb : g < wb.heap.size := by rw [hwb, World.size_alloc]; omega
        refine ⟨fun v0 v1 v2 j hj hkj => ?_, hTb.drewN q, fun j => ?_⟩
        · have key : ∀ r, k * 3 + 2 < r → ((((wb.drewN q).setCell ⟨g, k * 3, none⟩ v0).setCell ⟨g, k * 3 + 1, none⟩ v1).setCell ⟨g, k * 3 + 2, none⟩ v2).cell? ⟨g, r, none⟩ = wb.cell? ⟨g, r, none⟩ := fun r hr => by
            rw [World.cell?_setCell_other (h := by intro e; injection e; omega), World.cell?_setCell_other (h := by intro e; injection e; omega), World.cell?_setCell_other (h := by intro e; injection e; omega)]
            exact hq.cell (p := ⟨g, r, none⟩) hgb (fun h => h)
          rw [key _ (by omega), key _ (by omega), key _ (by omega)]
          exact HCb.out j hj (by omega)
        · rw [hq.frozen (p := ⟨g, j, none⟩) hgb (fun h => h), hwb]
          have : (wr.alloc (.cells #[.int .i64 x.k, .int .i64 x.n, .string x.s] 23)).frozen? ⟨g, j, none⟩ = wr.frozen? ⟨g, j, none⟩ := (Tch.alloc (fun _ => False) wr _).frozen (p := ⟨g, j, none⟩) hgw (fun h => h)
          rw [this]; exact HZ.out j
      obtain ⟨c0, c1, c2⟩ := HCb.out k hkL (Nat.le_refl _)
      rw [← hx, Nat.zero_add] at c0 c1 c2
      by_cases hkl : k < l.length
      · have hkl' : (k : Int) < l.length := by omega
        obtain ⟨gl, o, hda, hra⟩ := HL.out wa (by rw [hwa]; exact hT.allocR _) (by rintro rfl; simp at hkl)
        injection hda with hda
        subst hda
        obtain ⟨a0, a1, a2⟩ := hra k hkl
        rw [← lentV_lt l k hkl hkL, ← hx] at a0 a1 a2
        rw [hwa] at a0 a1 a2
        have Hwb : Hid _ := hwb
        have HBe : Hid _ := hB
        clear hra hx hwa hwb hB
        go_wp2_with fail
        rw [← HBe.out]
        have hwb := Hwb.out
        rw [← hwb]
        clear hwb
        obtain ⟨d, hd1, hd⟩ := ne_val x x
        obtain rfl : d = false := by cases d with
          | false => rfl
          | true => exact absurd rfl (hd1.1 rfl)
        clear hd1
        go_quiet (fail)
        obtain ⟨wc, hwc⟩ : ∃ wc, wc = wb.drewN nq := ⟨_, rfl⟩
        obtain ⟨HN, hTc, HZc⟩ := HT.out nq
        have hq : Tch (fun _ => False) wb wc := by rw [hwc]; exact (Tch.refl _ wb).drewN nq
        rw [← hwc] at HN hTc HZc ⊢
        have e0 : wc.cell? ⟨g, k * 3, none⟩ = some (.int .i64 x.k) := by rw [hq.cell (p := ⟨g, k * 3, none⟩) (cell_lt c0) (fun h => h)]; exact c0
        have e1 : (wc.setCell ⟨g, k * 3, none⟩ (.int .i64 (-9))).cell? ⟨g, k * 3 + 1, none⟩ = some (.int .i64 x.n) := by rw [World.cell?_setCell_other (h := by intro e; injection e; omega), hq.cell (p := ⟨g, k * 3 + 1, none⟩) (cell_lt c1) (fun h => h)]; exact c1
        have e2 : ((wc.setCell ⟨g, k * 3, none⟩ (.int .i64 (-9))).setCell ⟨g, k * 3 + 1, none⟩ (.int .i64 0)).cell? ⟨g, k * 3 + 2, none⟩ = some (.string x.s) := by rw [World.cell?_setCell_other (h := by intro e; injection e; omega), World.cell?_setCell_other (h := by intro e; injection e; omega), hq.cell (p := ⟨g, k * 3 + 2, none⟩) (cell_lt c2) (fun h => h)]; exact c2
        clear b0 b1 b2 c0 c1 c2 hd hq
        have z0 := HZc (k * 3)
        have z1 := HZc (k * 3 + 1)
        have z2 := HZc (k * 3 + 2)
        have HN' : Hid _ := HN
        have HZ' : Hid _ := HZc
        clear hwc HN HZc
        go_wp2_with fail
        go_roundw
        case rel => exact ⟨k + 1, by go_num, by omega, HN'.out _ _ _, fun j => by simpa using HZ'.out j, ((hTc.setCellR _ _ rfl).setCellR _ _ rfl).setCellR _ _ rfl⟩
        case measure => simp [intOf]; omega
      · have hkl' : ¬ (k : Int) < l.length := by omega
        obtain rfl : x = markV := by rw [hx]; exact lentV_ge l k hkl hkL
        have Hwb : Hid _ := hwb
        have HBe : Hid _ := hB
        clear hx hwa hwb hB HL
        go_wp2_with fail
        rw [← HBe.out]
        have hwb := Hwb.out
        have eb : wr.alloc (.cells #[.int .i64 (-7), .int .i64 0, .string ⟨#[]⟩] 23) = wb := hwb.symm
        rw [eb]
        clear hwb eb
        obtain ⟨d, hd1, hd⟩ := ne_val markV markV
        obtain rfl : d = false := by cases d with
          | false => rfl
          | true => exact absurd rfl (hd1.1 rfl)
        clear hd1
        go_quiet (fail)
        obtain ⟨wc, hwc⟩ : ∃ wc, wc = wb.drewN nq := ⟨_, rfl⟩
        obtain ⟨HN, hTc, HZc⟩ := HT.out nq
        have hq : Tch (fun _ => False) wb wc := by rw [hwc]; exact (Tch.refl _ wb).drewN nq
        rw [← hwc] at HN hTc HZc ⊢
        have e0 : wc.cell? ⟨g, k * 3, none⟩ = some (.int .i64 markV.k) := by rw [hq.cell (p := ⟨g, k * 3, none⟩) (cell_lt c0) (fun h => h)]; exact c0
        have e1 : (wc.setCell ⟨g, k * 3, none⟩ (.int .i64 (-9))).cell? ⟨g, k * 3 + 1, none⟩ = some (.int .i64 markV.n) := by rw [World.cell?_setCell_other (h := by intro e; injection e; omega), hq.cell (p := ⟨g, k * 3 + 1, none⟩) (cell_lt c1) (fun h => h)]; exact c1
        have e2 : ((wc.setCell ⟨g, k * 3, none⟩ (.int .i64 (-9))).setCell ⟨g, k * 3 + 1, none⟩ (.int .i64 0)).cell? ⟨g, k * 3 + 2, none⟩ = some (.string markV.s) := by rw [World.cell?_setCell_other (h := by intro e; injection e; omega), World.cell?_setCell_other (h := by intro e; injection e; omega), hq.cell (p := ⟨g, k * 3 + 2, none⟩) (cell_lt c2) (fun h => h)]; exact c2
        clear b0 b1 b2 c0 c1 c2 hd hq
        have z0 := HZc (k * 3)
        have z1 := HZc (k * 3 + 1)
        have z2 := HZc (k * 3 + 2)
        have HN' : Hid _ := HN
        have HZ' : Hid _ := HZc
        clear hwc HN HZc
        go_wp2_with fail
        go_roundw
        case rel => exact ⟨k + 1, by go_num, by omega, HN'.out _ _ _, fun j => by simpa using HZ'.out j, ((hTc.setCellR _ _ rfl).setCellR _ _ rfl).setCellR _ _ rfl⟩
        case measure => simp [intOf]; omega
    · have hk4' : ¬ (k : Int) < l.length + 4 := by omega
      go_wp2
      go_ret
      exact ⟨rfl, hT⟩
end Go.Proofs.YtnjbkkccofjmgaaDoor
