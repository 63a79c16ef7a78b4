import Derived.Test.YtnjiiebjdpipjaaSL1
import Derived.Maps.AppendAt
/- TreeSorts: the loop over Range. -/
namespace Go.Proofs.Ytnjiiebjdpipjaa.S
open Go.RowKit Go Go.Shelf
attribute [local go_sem] Oper.semAt_some

theorem kc_nil (x : ByteArray) : 0 ≤ kc x ⟨#[]⟩ := by
  unfold kc
  show 0 ≤ Lib.compareBytes x.data.toList []
  cases x.data.toList <;> simp [Lib.compareBytes]
theorem wlk_all (l : List It) : wlk ⟨#[]⟩ ⟨#[]⟩ false l = l := by
  unfold wlk fall sp
  simp only [Bool.false_eq_true, if_false]
  rw [List.filter_eq_self]
  intro e _
  unfold inSp
  rw [decide_eq_true (kc_nil e.1)]
  simp
theorem less_cb : ∀ {x y : List UInt8}, Lib.compareBytes x y < 0 → Op.bytesLess x y = true
  | [], [], h => by simp [Lib.compareBytes] at h
  | _ :: _, [], h => by simp [Lib.compareBytes] at h
  | [], _ :: _, _ => rfl
  | a :: x, b :: y, h => by
    simp only [Lib.compareBytes] at h
    unfold Op.bytesLess
    by_cases ab : a < b
    · simp [ab]
    · by_cases ba : b < a
      · simp [ab, ba] at h
      · have e : a = b := UInt8.le_antisymm (UInt8.not_lt.1 ba) (UInt8.not_lt.1 ab)
        subst e
        simp only [ab, if_false] at h
        simp [less_cb h]
theorem less_kc {x y : ByteArray} (h : kc x y < 0) : Op.bytesLess x.toList y.toList = true := by
  rw [Lib.toList_data, Lib.toList_data]
  exact less_cb h
abbrev scl (l : List It) : List Value := l.map (fun e => .string e.1)
theorem info_str : (Try.prog.info? 9).map (fun i => (i.zero, i.size, i.bytes)) = some (some (.string ⟨#[]⟩), 1, 16) := by kernel_rfl
/-- An append in a round: where the new row lies is told, too. -/
theorem wpListIn_append_keeps {F : Fence} {n : Nat} {P : Program} (w : World) {ops : Array Oper} {rest : List Oper} {o : Oper} {a : Act} {Q : Exit → Act → World → Prop}
    (hg : o.guard = none) (s x : Operand) (t : TypeId) (hop : o.op = Op.call { callee := Callee.builtin Builtin.append, args := #[s, x], argTypes := #[t, t] })
    (base : Nat) (e : TypeId) (i : TypeInfo) (z : Value) (size bytes : Nat) (h1 : P.underlying t = some (.slice e)) (h2 : P.info? e = some i) (h3 : i.zero = some z) (h4 : i.size = size) (h5 : i.bytes = bytes) (h6 : z.cells.size = size) (h7 : 0 < size)
    (v : Value) (k : Nat) (xs : List Value) (hs : a.eval s = v) (hown : w.ownsRow base e size v k xs) (ad : Addr) (m c : Nat) (news : List Value) (hx : a.eval x = .slice (some ad) m c) (hn : news.length = m * size)
    (hc : ∀ j u, news[j]? = some u → w.cell? (ad.add j) = some u) (h1c : ∀ u ∈ news, u.oneCell' = true) (b1 : k + m ≤ maxLen) (b2 : (k + m) * bytes ≤ 140737488355328) (b3 : base ≤ w.heap.size)
    (hK : ∀ v' w', w'.ownsRow base e size v' (k + m) (xs ++ news) → w.grownBy w' v.ownBlock → (v'.ownBlock = v.ownBlock ∨ v'.ownBlock = some w.heap.size) → wpListIn F n P ops Q rest (a.put o.dst v') w') :
    wpListIn F n P ops Q (o :: rest) a w := by
  refine wpListIn_plain hg fun K hK' => ?_
  obtain ⟨v', w', hrun, r1, r2, r3, _⟩ := run_append_keeps (P := P) w base t o.type e i z size bytes h1 h2 h3 h4 h5 h6 h7 v k xs hown ad m c news hn hc h1c b1 b2 b3
  unfold Oper.wpIn
  refine ⟨?_, ?_⟩
  · simp [Oper.about, hop, resolve, Target.leads, Sem.run_pure]
  · rw [Oper.semAt_plain F _ _ (by rw [hop]; intro c hc'; cases hc')]
    simp [execOp, hop, resolve, invoke, builtin, hs, hx, hrun, Result.andThen]
    exact hK' _ _ (hK v' w' r1 r2 r3)
/-- What the law knows while its loop over Range goes on. -/
structure UP (w : World) (B0 b : Nat) (l : List It) (ht : Nat) (F : List Nat) (ub : Nat) (pre : List It) (Z : Nat → Prop) (W : World) : Prop where
  tw : TW W b l ht F
  tc : Tch (fun _ => False) w W
  ux : ∃ ao c, W.heap[ub]? = some (.cells #[.slice ao pre.length c] 35 (0, 0)) ∧ W.ownsRow w.heap.size 9 1 (.slice ao pre.length c) pre.length (scl pre) ∧ ∀ g, (Value.slice ao pre.length c).ownBlock = some g → Z g
  zf : ∀ k, Z k → B0 ≤ k ∧ k < W.heap.size
  sz : B0 ≤ W.heap.size
theorem UP.tch {w : World} {B0 b : Nat} {l : List It} {ht : Nat} {F : List Nat} {ub : Nat} {pre : List It} {Z : Nat → Prop} {W W' : World} (h : UP w B0 b l ht F ub pre Z W) (hF : ∀ x ∈ F, x < B0) (hu : ub < B0) (hw : w.heap.size ≤ B0) (t : Tch (fun k => B0 ≤ k ∧ ¬ Z k) W W') : UP w B0 b l ht F ub pre Z W' := by
  obtain ⟨ao, c, h1, h2, h3⟩ := h.ux
  refine ⟨h.tw.tch t (fun x hx hs => by have := hF x hx; omega), h.tc.trans t (fun i hi hs => by omega), ⟨ao, c, ?_, own_tch h2 t (fun g hg hs => hs.2 (h3 g hg)), h3⟩, fun k hk => ⟨(h.zf k hk).1, Nat.lt_of_lt_of_le (h.zf k hk).2 t.size⟩, Nat.le_trans h.sz t.size⟩
  rw [t.block ub (blk_lt h1) (fun hs => by omega)]
  exact h1

set_option maxHeartbeats 4000000 in
set_option maxRecDepth 100000 in
theorem rng_any (n : Nat) (w W2 : World) (b : Nat) (l : List It) (ht : Nat) (F : List Nat) (ub bt bs kb kn : Nat) (ko : Option Addr) (kcp : Nat) (HTW : Hid (TW W2 b l ht F)) (Htc : Hid (Tch (fun _ => False) w W2))
    (Hub : Hid (W2.heap[ub]? = some (.cells #[.slice none 0 0] 35 (0, 0)) ∧ w.heap.size ≤ ub ∧ ub ∉ F)) (Hbt : Hid (W2.heap[bt]? = some (.cells #[pv b] 36 (0, 0)) ∧ bt ≠ ub)) (Hbs : Hid (W2.heap[bs]? = some (.cells #[.string ⟨#[]⟩, .string ⟨#[]⟩, .bool false] 90 (0, 0)) ∧ bs ≠ ub))
    (Hkb : Hid (w.heap[kb]? = some (.cells #[.slice ko kn kcp] 35 (0, 0)))) (Hlk : Hid (l.length ≤ kn ∧ l.length ≤ 2000 ∧ ∀ e ∈ l, e.2 = e.1))
    {T : Array Value} {g r i7 i16 i20 : Value} (hf : Fz T g (pv kb) r (pv b) i7 (pv ub) i16 i20 (.func (.func 66) #[] #[pv bt, pv bs])) (Q0 : Exit → Act → World → Prop)
    (Hexit : Hid (∀ (D : Nat) (Z : Nat → Prop) (W' : World), UP w W2.heap.size b l ht F ub l Z W' → W2.heap.size ≤ D → ¬ Z D → W'.heap[D]? = some (.deferred (some [])) → Q0 .normal ⟨T, [mkD D]⟩ W')) :
    Code.wpIn Fence.wide n Try.prog sRng Q0 ⟨T, []⟩ W2 := by
  revert Hexit
  refine hf.use (P := fun T => Hid (∀ (D : Nat) (Z : Nat → Prop) (W' : World), UP w W2.heap.size b l ht F ub l Z W' → W2.heap.size ≤ D → ¬ Z D → W'.heap[D]? = some (.deferred (some [])) → Q0 .normal ⟨T, [mkD D]⟩ W') → Code.wpIn Fence.wide n Try.prog sRng Q0 ⟨T, []⟩ W2) ?_
  clear hf T
  intro u Hexit
  have hse := over1_any (n - 1) W2 b l ht F bt bs ⟨#[]⟩ ⟨#[]⟩ false HTW.out Hbt.out.1 Hbs.out.1
  rw [wlk_all] at hse
  have HFl : Hid (∀ x ∈ F, x < W2.heap.size) := HTW.out.lt
  conv => arg 4; whnf
  refine range_l (T := fun k => k = ub) (Z := fun _ => False) rfl (enters_of Try.func66 (by kernel_rfl) rfl) hse (fun _ => rfl) (fun x hx => ⟨by rw [hx]; exact blk_lt Hub.out.1, fun hy => by
      rcases hy with hy | hy | hy
      · exact Hub.out.2.2 (hx ▸ hy)
      · exact Hbt.out.2 (hy.symm.trans hx)
      · exact Hbs.out.2 (hy.symm.trans hx)⟩) (fun x hx => hx.elim) (fun x hx => by
      rcases hx with hx | rfl | rfl
      · exact HFl.out x hx
      · exact blk_lt Hbt.out.1
      · exact blk_lt Hbs.out.1)
    (fun pre Z' W' => UP w W2.heap.size b l ht F ub pre Z' W')
    (fun _ _ _ _ => False)
    ?abI (fun _ _ _ _ _ h _ => h) ?start (fun x => { tmps := (List.toArray (u 0 :: g :: pv kb :: u 3 :: r :: u 5 :: pv b :: i7 :: u 8 :: u 9 :: u 10 :: u 11 :: pv ub :: u 13 :: .string x.1 :: ev x.2 :: i16 :: u 17 :: u 18 :: u 19 :: i20 :: u 21 :: u 22 :: u 23 :: u 24 :: u 25 :: u 26 :: u 27 :: u 28 :: u 29 :: u 30 :: u 31 :: u 32 :: u 33 :: u 34 :: u 35 :: u 36 :: u 37 :: u 38 :: u 39 :: u 40 :: u 41 :: u 42 :: u 43 :: u 44 :: u 45 :: u 46 :: u 47 :: u 48 :: u 49 :: u 50 :: u 51 :: u 52 :: u 53 :: u 54 :: u 55 :: u 56 :: u 57 :: u 58 :: u 59 :: u 60 :: u 61 :: u 62 :: u 63 :: u 64 :: u 65 :: u 66 :: u 67 :: u 68 :: u 69 :: u 70 :: u 71 :: u 72 :: u 73 :: u 74 :: u 75 :: u 76 :: u 77 :: u 78 :: u 79 :: u 80 :: u 81 :: u 82 :: u 83 :: u 84 :: u 85 :: u 86 :: u 87 :: u 88 :: u 89 :: u 90 :: .func (.func 66) #[] #[pv bt, pv bs] :: .string x.1 :: ev x.2 :: u 94 :: u 95 :: u 96 :: u 97 :: u 98 :: u 99 :: u 100 :: u 101 :: u 102 :: u 103 :: u 104 :: u 105 :: u 106 :: u 107 :: u 108 :: u 109 :: u 110 :: u 111 :: u 112 :: u 113 :: u 114 :: u 115 :: u 116 :: u 117 :: u 118 :: u 119 :: u 120 :: u 121 :: u 122 :: u 123 :: u 124 :: u 125 :: u 126 :: u 127 :: u 128 :: u 129 :: u 130 :: u 131 :: u 132 :: u 133 :: u 134 :: u 135 :: u 136 :: u 137 :: u 138 :: u 139 :: u 140 :: u 141 :: u 142 :: u 143 :: u 144 :: u 145 :: u 146 :: u 147 :: u 148 :: u 149 :: u 150 :: u 151 :: u 152 :: u 153 :: u 154 :: u 155 :: u 156 :: u 157 :: u 158 :: u 159 :: u 160 :: u 161 :: u 162 :: u 163 :: u 164 :: u 165 :: u 166 :: u 167 :: u 168 :: u 169 :: u 170 :: u 171 :: u 172 :: u 173 :: u 174 :: u 175 :: u 176 :: u 177 :: u 178 :: u 179 :: u 180 :: u 181 :: u 182 :: u 183 :: u 184 :: u 185 :: u 186 :: u 187 :: u 188 :: u 189 :: u 190 :: u 191 :: u 192 :: u 193 :: u 194 :: u 195 :: u 196 :: u 197 :: u 198 :: u 199 :: u 200 :: u 201 :: u 202 :: u 203 :: u 204 :: u 205 :: u 206 :: u 207 :: u 208 :: u 209 :: u 210 :: u 211 :: u 212 :: u 213 :: u 214 :: u 215 :: u 216 :: u 217 :: u 218 :: u 219 :: u 220 :: u 221 :: [])), defers := [] }) ?assign ?body ?done ?stop
  case abI =>
    intro pre Z' W' W'' h t
    exact h.tch HFl.out (blk_lt Hub.out.1) Htc.out.size t
  case start => exact ⟨HTW.out, Htc.out, ⟨none, 0, Hub.out.1, ⟨rfl, .inl ⟨rfl, rfl⟩⟩, fun g hg => (by cases hg)⟩, fun k hk => hk.elim, Nat.le_refl _⟩
  case assign =>
    intro l' x Wx K hK
    clear Hexit hse
    gi_wp2
    exact hK
  case body =>
    intro l' pre x Z' Wb hpre hI
    obtain ⟨rest, hrest⟩ := hpre
    have hxl : x ∈ l := by rw [← hrest]; simp
    have hxe := Hlk.out.2.2 x hxl
    obtain ⟨xk, xv⟩ := x
    have hxe' : xv = xk := hxe
    subst hxe'
    have hplen : pre.length < l.length := by rw [← hrest]; simp
    obtain ⟨m, hm⟩ : ∃ m, m = pre.length := ⟨_, rfl⟩
    have hmk : (m : Int) < kn := by have := Hlk.out.1; omega
    have hm2 : (m : Int) < 2000 := by have := Hlk.out.2.1; omega
    obtain ⟨ao, c, h1, h2, h3⟩ := hI.ux
    rw [← hm] at h1 h2 h3
    have hkb : Wb.heap[kb]? = some (.cells #[.slice ko kn kcp] 35 (0, 0)) := (hI.tc.block _ (blk_lt Hkb.out) (fun h => h)).trans Hkb.out
    have y0 : Wb.cell? ⟨kb, 0, none⟩ = some (.slice ko kn kcp) := by rw [blk_cell hkb]; rfl
    have y1 : Wb.cell? ⟨ub, 0, none⟩ = some (.slice ao m c) := by rw [blk_cell h1]; rfl
    have y2 : Wb.frozen? ⟨ub, 0, none⟩ = false := blk_frozen h1 0
    have hup : ∀ g, ao = some g → ∃ g', ao = some ⟨g', 0, none⟩ := fun g hg => by
      rcases h2.2 with ⟨e, _⟩ | ⟨g', _, _, e, _⟩
      · injection e with e; rw [hg] at e; cases e
      · injection e with e; exact ⟨g', e⟩
    have HI : Hid (UP w W2.heap.size b l ht F ub pre Z' Wb) := hI
    have Hrest : Hid (pre ++ [(xv, xv)] ++ rest = l) := hrest
    have Hm : Hid (m = pre.length) := hm
    have H1 : Hid (Wb.heap[ub]? = some (.cells #[.slice ao m c] 35 (0, 0))) := h1
    have H2 : Hid (Wb.ownsRow w.heap.size 9 1 (.slice ao m c) m (scl pre)) := h2
    have H3 : Hid (∀ g, (Value.slice ao m c).ownBlock = some g → Z' g) := h3
    clear hxe hxl hrest hplen hI hkb h1 h2 h3 hse Hexit hup hm
    obtain ⟨i0, hi, hz0, hz1, hz2⟩ := info_parts info_str
    have Hb1 : Hid (m + 1 ≤ maxLen) := by show _ ≤ _; unfold maxLen; omega
    have Hb2 : Hid ((m + 1) * 16 ≤ 140737488355328) := by show _ ≤ _; omega
    have Hb3 : Hid (w.heap.size ≤ (Wb.alloc (.cells #[.string xv] 9)).heap.size) := by
      show _ ≤ _
      have := HI.out.tc.size
      simp
      omega
    have HU : Hid (∀ w1, (Wb.alloc (.cells #[.string xv] 9)).grownBy w1 (Value.slice ao m c).ownBlock → w1.cell? ⟨ub, 0, none⟩ = some (.slice ao m c) ∧ w1.frozen? ⟨ub, 0, none⟩ = false) := fun w1 hg => by
      have hb : w1.heap[ub]? = some (.cells #[.slice ao m c] 35 (0, 0)) := by
        rw [hg.block ub (by have := blk_lt H1.out; simp; omega) (fun e => by
          have := (HI.out.zf _ (H3.out ub e.symm)).1
          have := blk_lt Hub.out.1
          omega)]
        rw [Below.heap_alloc _ _ _ (blk_lt H1.out)]
        exact H1.out
      exact ⟨by rw [blk_cell hb]; rfl, blk_frozen hb 0⟩
    have HEnd : Hid (∀ w1 g' cap', w1.ownsRow w.heap.size 9 1 (.slice (some ⟨g', 0, none⟩) (m + 1) cap') (m + 1) (scl pre ++ [.string xv]) → (Wb.alloc (.cells #[.string xv] 9)).grownBy w1 (Value.slice ao m c).ownBlock → (some g' = (Value.slice ao m c).ownBlock ∨ some g' = some (Wb.alloc (.cells #[.string xv] 9)).heap.size) →
        Lft (fun k => k = ub) Z' Wb (w1.setCell ⟨ub, 0, none⟩ (.slice (some ⟨g', 0, none⟩) (m + 1) cap')) (UP w W2.heap.size b l ht F ub (pre ++ [(xv, xv)]))) := fun w1 g' cap' hown hgrow hat => by
      have hbu : w1.heap[ub]? = some (.cells #[.slice ao m c] 35 (0, 0)) := by
        rw [hgrow.block ub (by have := blk_lt H1.out; simp; omega) (fun e => by
          have := (HI.out.zf _ (H3.out ub e.symm)).1
          have := blk_lt Hub.out.1
          omega)]
        rw [Below.heap_alloc _ _ _ (blk_lt H1.out)]
        exact H1.out
      have hsz := HI.out.sz
      have hul := blk_lt Hub.out.1
      have hs1 : Wb.heap.size + 1 ≤ w1.heap.size := by have := hgrow.size; simpa using this
      have hgl := (hown.lt g' rfl).2
      have hss : (w1.setCell ⟨ub, 0, none⟩ (.slice (some ⟨g', 0, none⟩) (m + 1) cap')).heap.size = w1.heap.size := by simp [World.setCell]
      have hZg : Z' g' ∨ (Wb.heap.size ≤ g' ∧ g' < w1.heap.size) := by
        rcases hat with e | e
        · exact .inl (H3.out g' e.symm)
        · injection e with e
          rw [World.size_alloc] at e
          exact .inr ⟨by omega, hgl⟩
      have hgu : g' ≠ ub := fun e => by
        rcases hZg with h | h
        · have := (HI.out.zf g' h).1; omega
        · omega
      have t1 : Tch (fun k => k = ub ∨ Z' k) Wb (w1.setCell ⟨ub, 0, none⟩ (.slice (some ⟨g', 0, none⟩) (m + 1) cap')) := ((Tch.alloc _ _ _).trans' (Tch.of_grown hgrow (fun g hg => .inr (H3.out g hg)))).setCellR _ _ (.inl rfl)
      refine ⟨fun k => Z' k ∨ (Wb.heap.size ≤ k ∧ k < (w1.setCell ⟨ub, 0, none⟩ (.slice (some ⟨g', 0, none⟩) (m + 1) cap')).heap.size), fun k hk => hk, t1, HI.out.tw.tch t1 (fun x hx hs => ?_), HI.out.tc.trans t1 (fun i hi hs => ?_), ?_, fun k hk => ?_, by rw [hss]; omega⟩
      · rcases hs with e | h
        · exact Hub.out.2.2 (e ▸ hx)
        · have := (HI.out.zf x h).1
          have := HFl.out x hx
          omega
      · rcases hs with e | h
        · have := Hub.out.2.1; omega
        · have := (HI.out.zf i h).1
          have := Htc.out.size
          omega
      · have hl : (pre ++ [(xv, xv)]).length = m + 1 := by rw [List.length_append, ← Hm.out]; rfl
        rw [hl]
        refine ⟨some ⟨g', 0, none⟩, cap', ?_, ?_, fun g hg => ?_⟩
        · have := blk_set (i := 0) hbu (.slice (some ⟨g', 0, none⟩) (m + 1) cap')
          exact this
        · have h9 := own_tch hown (Tch.setCell (fun k => k = ub) w1 ⟨ub, 0, none⟩ (.slice (some ⟨g', 0, none⟩) (m + 1) cap') rfl) (fun g hg e => hgu (by
            injection hg with hg
            have hg' : g' = g := hg
            rw [hg']; exact e))
          have e : scl (pre ++ [(xv, xv)]) = scl pre ++ [.string xv] := by simp [scl]
          rw [e]
          exact h9
        · injection hg with hg
          have hg' : g' = g := hg
          rw [← hg', hss]
          exact hZg
      · rcases hk with h | h
        · exact ⟨(HI.out.zf k h).1, Nat.lt_of_lt_of_le (HI.out.zf k h).2 t1.size⟩
        · exact ⟨by omega, h.2⟩
    by_cases hz : (0 : Int) < m
    · obtain ⟨gg, gc, hgv, _, _, _, hgA, hgf⟩ := own_at H2.out (by omega)
      injection hgv with hg1 _ hg2
      subst hg1
      subst hg2
      obtain ⟨ini, lst, hil⟩ : ∃ ini lst, pre = ini ++ [lst] := ⟨pre.dropLast, pre.getLast (by intro e; have := Hm.out; rw [e] at this; simp at this; omega), (List.dropLast_concat_getLast _).symm⟩
      have hm1 : m = ini.length + 1 := by rw [Hm.out, hil]; simp
      have y4 : Wb.cell? ⟨gg, m - 1, none⟩ = some (.string lst.1) := by
        have := hgA (m - 1) (.string lst.1) (by rw [hil, hm1]; simp [scl])
        rwa [Nat.zero_add] at this
      have hkc : kc lst.1 xv < 0 := by
        have hs := HTW.out.so
        rw [← Hrest.out, hil] at hs
        have h5 := (List.pairwise_append.1 (List.pairwise_append.1 hs).1).2.2 lst (by simp) (xv, xv) (by simp)
        exact h5
      have hz' : ¬ (kn : Int) ≤ m := by omega
      have hbl := less_kc hkc
      have hw1 : wrap64 ((m : Int) - 1) = (m : Int) - 1 := by unfold wrap64; omega
      clear hgA hil hm1 hkc
      gi_wp2_with (first | (gi_at_builtin; refine wpListIn_append_keeps _ rfl _ _ 35 rfl w.heap.size 9 i0 (.string ⟨#[]⟩) 1 16 Try.underlying35 hi hz0 hz1 hz2 rfl (by decide) _ _ _ rfl (H2.out.alloc _) ⟨Wb.heap.size, 0, none⟩ 1 1 [.string xv] rfl rfl (cell_one_new _ _ _) (by simp [Value.oneCell']) Hb1.out Hb2.out Hb3.out ?_; intro v' w1 hown hgrow hat; obtain ⟨g', cap', rfl⟩ := ownsRow_succ hown; have z1 := (HU.out w1 hgrow).1; have z2 := (HU.out w1 hgrow).2) | fail)
      exact HEnd.out w1 g' cap' hown hgrow hat
    · have hz' : ¬ (kn : Int) ≤ m := by omega
      gi_wp2_with (first | (gi_at_builtin; refine wpListIn_append_keeps _ rfl _ _ 35 rfl w.heap.size 9 i0 (.string ⟨#[]⟩) 1 16 Try.underlying35 hi hz0 hz1 hz2 rfl (by decide) _ _ _ rfl (H2.out.alloc _) ⟨Wb.heap.size, 0, none⟩ 1 1 [.string xv] rfl rfl (cell_one_new _ _ _) (by simp [Value.oneCell']) Hb1.out Hb2.out Hb3.out ?_; intro v' w1 hown hgrow hat; obtain ⟨g', cap', rfl⟩ := ownsRow_succ hown; have z1 := (HU.out w1 hgrow).1; have z2 := (HU.out w1 hgrow).2) | fail)
      exact HEnd.out w1 g' cap' hown hgrow hat
  case done =>
    intro D Z' W' hD hzD hI hK
    exact Hexit.out D Z' W' hI hD hzD hK
  case stop =>
    intro D cc pre Z' W' hD hzD hpre h hK
    exact h.elim
/-- What the law knows behind that loop. -/
structure UZ (w : World) (b : Nat) (l : List It) (ht : Nat) (F : List Nat) (ub D : Nat) (W : World) : Prop where
  tw : TW W b l ht F
  tc : Tch (fun _ => False) w W
  ux : ∃ ao c, W.heap[ub]? = some (.cells #[.slice ao l.length c] 35 (0, 0)) ∧ SR W ao (l.map (·.1))
  dm : W.heap[D]? = some (.deferred (some []))
theorem UZ.no {w : World} {b : Nat} {l : List It} {ht : Nat} {F : List Nat} {ub D : Nat} {W W' : World} (h : UZ w b l ht F ub D W) (t : Tch (fun _ => False) W W') : UZ w b l ht F ub D W' := by
  obtain ⟨ao, c, h1, h2⟩ := h.ux
  exact ⟨h.tw.tch t (fun _ _ h => h), h.tc.trans' t, ⟨ao, c, (t.block _ (blk_lt h1) (fun h => h)).trans h1, h2.no t⟩, (t.block _ (blk_lt h.dm) (fun h => h)).trans h.dm⟩
theorem UP.done {w : World} {B0 b : Nat} {l : List It} {ht : Nat} {F : List Nat} {ub D : Nat} {Z : Nat → Prop} {W : World} (h : UP w B0 b l ht F ub l Z W) (hD : W.heap[D]? = some (.deferred (some []))) : UZ w b l ht F ub D W := by
  obtain ⟨ao, c, h1, h2, _⟩ := h.ux
  refine ⟨h.tw, h.tc, ⟨ao, c, h1, fun k n hk => ?_⟩, hD⟩
  have hkl : k < l.length := by
    have := (List.getElem?_eq_some_iff.1 hk).1
    simpa using this
  obtain ⟨g, gc, e, _, _, _, hA, _⟩ := own_at h2 (by omega)
  injection e with e
  refine ⟨g, 0, e, hA k (.string n) ?_⟩
  rw [List.getElem?_map] at hk ⊢
  cases hl : l[k]? with
  | none => rw [hl] at hk; cases hk
  | some e => rw [hl] at hk; injection hk with hk; rw [← hk]; rfl
end Go.Proofs.Ytnjiiebjdpipjaa.S
