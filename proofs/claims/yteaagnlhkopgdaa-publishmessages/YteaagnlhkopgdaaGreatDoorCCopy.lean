import Derived.Test.YteaagnlhkopgdaaGreatDoorCRight2
import Derived.Deep.AppendLies
import Derived.Maps.AppendAt
import Derived.Lib.BufferMore
import Derived.Laws.CopyRow
namespace Go.Proofs.YteaagnlhkopgdaaGreatDoor.C
open Go.RowKit Go
section
variable {P : Program} (w : World)
theorem run_append_keeps (base : Nat) (t ty e : TypeId) (i : TypeInfo) (z : Value) (size bytes : Nat) (ht : P.underlying t = some (.slice e)) (hi : P.info? e = some i) (hz : i.zero = some z)
    (hsize : i.size = size) (hby : i.bytes = bytes) (hzs : z.cells.size = size) (hsz : 0 < size)
    (v : Value) (n : Nat) (xs : List Value) (hown : w.ownsRow base e size v n xs)
    (a : Addr) (m c : Nat) (news : List Value) (hl : news.length = m * size) (hnews : ∀ j u, news[j]? = some u → w.cell? (a.add j) = some u) (h1 : ∀ u ∈ news, u.oneCell' = true)
    (h63 : n + m ≤ maxLen) (hbytes : (n + m) * bytes ≤ 140737488355328) (hbase : base ≤ w.heap.size) :
    ∃ v' w', (Builtin.append_ #[t, t] ty #[v, .slice (some a) m c]).run P w = .ok v' w' ∧ w'.ownsRow base e size v' (n + m) (xs ++ news) ∧ w.grownBy w' v.ownBlock ∧ (v'.ownBlock = v.ownBlock ∨ v'.ownBlock = some w.heap.size) ∧
      ∀ b j, b < w.heap.size → (v.ownBlock = some b → j < n * size) → w'.cell? ⟨b, j, none⟩ = w.cell? ⟨b, j, none⟩ := by
  obtain ⟨v', w', hr, h2, h3, _, h5⟩ := run_append_own_at (P := P) w base t ty e i z size bytes ht hi hz hsize hby hzs hsz v n xs hown a m c news hl hnews h1 h63 hbytes hbase
  refine ⟨v', w', hr, h2, h3, h5, fun b j hb hj => ?_⟩
  by_cases hvb : v.ownBlock = some b
  · rcases hown.2 with ⟨rfl, rfl⟩ | ⟨g, cap, cur, rfl, hbg, hg, hnc, hcm, hcs, htake⟩
    · cases hvb
    · have hgb : g = b := by simpa [Value.ownBlock] using hvb
      subst hgb
      have hj' := hj hvb
      by_cases hroom : n + m ≤ cap
      · have hfit : n * i.size + news.length ≤ cur.size := by rw [hl, hcs, hsize, ← Nat.add_mul]; exact Nat.mul_le_mul_right _ hroom
        have hr2 := run_append_room (P := P) w t ty e i ht hi g n cap cur hg a m c news (by rw [hsize]; exact hl) hnews h1 hroom hfit
        rw [hr] at hr2
        simp only [Result.ok.injEq] at hr2
        obtain ⟨rfl, rfl⟩ := hr2
        rw [h2.cellAt j (by rw [Nat.add_mul]; omega), hown.cellAt j hj', List.getElem?_append_left (by rw [hown.1]; exact hj')]
      · have holds : ∀ j u, xs[j]? = some u → w.cell? ((⟨g, 0, none⟩ : Addr).add j) = some u := hown.cells (g := g) rfl
        have hr2 := run_append_grow (P := P) w t ty e i z ht hi hz ⟨g, 0, none⟩ n cap xs (by rw [hsize]; exact hown.1) holds a m c news (by rw [hsize]; exact hl) hnews (by omega) (by simp only [maxLen] at h63; omega) (by rw [hby]; exact growslice_fits (by omega) hbytes)
        rw [hr] at hr2
        simp only [Result.ok.injEq] at hr2
        obtain ⟨_, rfl⟩ := hr2
        exact World.cell?_of_block (heap_alloc_old w.drew _ hb)
  · exact World.cell?_of_block (h3.block b hb (fun e => hvb e.symm))
end
theorem wpList_append_keeps {P : Program} (w : World) {ops : Array Oper} {rest : List Oper} {o : Oper} {a : Act} {Q : Exit → Act → World → Prop} (hgd : o.guard = none) (s x : Operand) (t : TypeId)
    (ho : o.op = .call { callee := .builtin .append, args := #[s, x], argTypes := #[t, t] })
    (base : Nat) (e : TypeId) (i : TypeInfo) (z : Value) (size bytes : Nat) (ht : P.underlying t = some (.slice e)) (hi : P.info? e = some i) (hz : i.zero = some z)
    (hsize : i.size = size) (hby : i.bytes = bytes) (hzs : z.cells.size = size) (hsz : 0 < size)
    (v : Value) (n : Nat) (xs : List Value) (hs : a.eval s = v) (hown : w.ownsRow base e size v n xs)
    (ad : Addr) (m c : Nat) (news : List Value) (hx : a.eval x = .slice (some ad) m c) (hl : news.length = m * size) (hnews : ∀ j u, news[j]? = some u → w.cell? (ad.add j) = some u) (h1 : ∀ u ∈ news, u.oneCell' = true)
    (h63 : n + m ≤ maxLen) (hbytes : (n + m) * bytes ≤ 140737488355328) (hbase : base ≤ w.heap.size)
    (h : ∀ v' w', w'.ownsRow base e size v' (n + m) (xs ++ news) → w.grownBy w' v.ownBlock → (v'.ownBlock = v.ownBlock ∨ v'.ownBlock = some w.heap.size) → (∀ b j, b < w.heap.size → (v.ownBlock = some b → j < n * size) → w'.cell? ⟨b, j, none⟩ = w.cell? ⟨b, j, none⟩) → wpList P ops Q rest (a.put o.dst v') w') :
    wpList P ops Q (o :: rest) a w := by
  refine wpList_plain hgd fun K hK => ?_
  obtain ⟨v', w', hr, h2, h3, h4, h5⟩ := run_append_keeps (P := P) w base t o.type e i z size bytes ht hi hz hsize hby hzs hsz v n xs hown ad m c news hl hnews h1 h63 hbytes hbase
  unfold Oper.wp execOp
  simp only [ho, resolve, invoke, builtin, Sem.run_bind, Sem.run_pure, Result.andThen_ok, List.map_toArray, List.map_cons, List.map_nil, hs, hx, hr]
  exact hK _ _ (h v' w' h2 h3 h4 h5)
end Go.Proofs.YteaagnlhkopgdaaGreatDoor.C
namespace Go.Proofs.YteaagnlhkopgdaaGreatDoor.C
open Go.RowKit
theorem blk_lt {w : World} {b : Nat} {o : Obj} (h : w.heap[b]? = some o) : b < w.heap.size := (Array.getElem?_eq_some_iff.1 h).1
theorem blk_cell {w : World} {b : Nat} {cs : Array Value} {t : TypeId} {fr : Nat × Nat} (h : w.heap[b]? = some (.cells cs t fr)) (i : Nat) : w.cell? ⟨b, i, none⟩ = cs[i]? := by
  simp [World.cell?, h]
theorem blk_frozen {w : World} {b : Nat} {cs : Array Value} {t : TypeId} (h : w.heap[b]? = some (.cells cs t (0, 0))) (i : Nat) : w.frozen? ⟨b, i, none⟩ = false := by
  simp [World.frozen?, h]
theorem blk_set {w : World} {b i : Nat} {cs : Array Value} {t : TypeId} {fr : Nat × Nat} (h : w.heap[b]? = some (.cells cs t fr)) (v : Value) : (w.setCell ⟨b, i, none⟩ v).heap[b]? = some (.cells (cs.setIfInBounds i v) t fr) := by
  have hl := blk_lt h
  simp only [World.setCell]
  rw [Array.getElem?_modify]
  simp [h]
theorem alloc_new (w : World) (o : Obj) : (w.alloc o).heap[w.heap.size]? = some o := by show (w.heap.push o)[w.heap.size]? = _; simp
theorem row_slice {w : World} {base : Nat} {t : TypeId} {sz n : Nat} {v : Value} {xs : List Value} (h : w.ownsRow base t sz v n xs) : ∃ ao c, v = .slice ao n c := by
  rcases h.2 with ⟨h1, h2⟩ | ⟨g, c, cur, h1, _⟩
  · exact ⟨none, 0, by rw [h1, h2]⟩
  · exact ⟨_, c, h1⟩
theorem own_tch {S : Nat → Prop} {W W' : World} {base sz n : Nat} {t : TypeId} {v : Value} {xs : List Value} (h : W.ownsRow base t sz v n xs) (tc : Tch S W W') (hS : ∀ g, v.ownBlock = some g → ¬ S g) : W'.ownsRow base t sz v n xs := by
  obtain ⟨h1, h2⟩ := h
  refine ⟨h1, ?_⟩
  rcases h2 with h2 | ⟨g, c, cur, hv, hb, hh, hr⟩
  · exact Or.inl h2
  · exact Or.inr ⟨g, c, cur, hv, hb, by rw [tc.block g (blk_lt hh) (hS g (by rw [hv]; rfl))]; exact hh, hr⟩
theorem grown_at {W W1 w1 : World} {row : Option Nat} (t : Tch (fun _ => False) W W1) (h : W1.grownBy w1 row) : Tch (fun i => row = some i) W w1 :=
  (t.mono (fun _ _ h => h.elim)).trans' ⟨h.os, h.tape, h.output, h.size, fun k hk hn => h.block k hk (fun e => hn e.symm)⟩
theorem own_at {W : World} {base sz n : Nat} {t : TypeId} {ao : Option Addr} {c : Nat} {xs : List Value} (h : W.ownsRow base t sz (.slice ao n c) n xs) (hn : 0 < n) : ∃ g, ao = some ⟨g, 0, none⟩ ∧ g < W.heap.size ∧ At W g 0 xs := by
  rcases h.2 with ⟨_, h2⟩ | ⟨g, c', cur, hv, hb, hh, hc, hm, hs, ht⟩
  · omega
  · injection hv with h1
    subst h1
    refine ⟨g, rfl, blk_lt hh, fun j u hu => ?_⟩
    rw [Nat.zero_add, blk_cell hh, ← Array.getElem?_toList]
    rw [← ht, List.getElem?_take] at hu
    split at hu
    · exact hu
    · simp at hu
def rep (n : Nat) (cs : List Value) : List Value := (List.replicate n cs).flatten
theorem rep_len (n : Nat) (cs : List Value) : (rep n cs).length = n * cs.length := by simp [rep]
theorem rep_succ (n : Nat) (cs : List Value) : rep (n + 1) cs = rep n cs ++ cs := by
  unfold rep
  rw [List.replicate_succ', List.flatten_append]; simp
theorem rep_get (cs : List Value) : ∀ (n q j : Nat), q < n → j < cs.length → (rep n cs)[q * cs.length + j]? = cs[j]?
  | 0, q, j, h, _ => by omega
  | n + 1, q, j, h, hj => by
    rw [rep_succ]
    rcases Nat.lt_or_ge q n with hq | hq
    · have h1 : q * cs.length + j < (rep n cs).length := by
        rw [rep_len]
        have : (q + 1) * cs.length ≤ n * cs.length := Nat.mul_le_mul_right _ hq
        rw [Nat.add_mul] at this
        omega
      rw [List.getElem?_append_left h1]
      exact rep_get cs n q j hq hj
    · obtain rfl : q = n := by omega
      rw [List.getElem?_append_right (by rw [rep_len]; omega), rep_len]
      congr 1
      omega
end Go.Proofs.YteaagnlhkopgdaaGreatDoor.C
namespace Go.Proofs.YteaagnlhkopgdaaGreatDoor.C
open Go.RowKit Go
theorem info_val : (Tryz.prog.info? 52).map (fun i => (i.zero, i.size, i.bytes)) = some (some (.agg #[.int .i64 0, .int .i64 0, .string ⟨#[]⟩]), 3, 32) := by kernel_rfl
theorem info_col : (Tryz.prog.info? 54).map (fun i => (i.zero, i.size, i.bytes)) = some (some (.agg #[.string ⟨#[]⟩, .int .i64 0, .bool false]), 3, 32) := by kernel_rfl
theorem info_val3 : (Tryz.prog.info? 52).map (·.size) = some 3 := by kernel_rfl
theorem info_col3 : (Tryz.prog.info? 54).map (·.size) = some 3 := by kernel_rfl
theorem made3 (a b c : Value) (n : Nat) : madeCells #[a, b, c] (n * 3) = (rep n [a, b, c]).toArray := by
  apply Array.ext'
  apply List.ext_getElem?
  intro j
  show (madeCells #[a, b, c] (n * 3)).toList[j]? = (rep n [a, b, c])[j]?
  rw [Array.getElem?_toList]
  rcases Nat.lt_or_ge j (n * 3) with hj | hj
  · have h := rep_get [a, b, c] n (j / 3) (j % 3) (by omega) (by simp; omega)
    simp only [List.length_cons, List.length_nil, Nat.zero_add] at h
    rw [show j / 3 * 3 + j % 3 = j by omega] at h
    rw [h, Array.getElem?_eq_getElem (by rw [size_madeCells]; exact hj)]
    unfold madeCells
    have h3 : j % 3 < 3 := by omega
    rw [Array.getElem_map, Array.getElem_range]
    have e : (#[a, b, c] : Array Value).size = 3 := rfl
    rw [e]
    rcases (by omega : j % 3 = 0 ∨ j % 3 = 1 ∨ j % 3 = 2) with h | h | h <;> rw [h] <;> rfl
  · rw [Array.getElem?_eq_none (by rw [size_madeCells]; exact hj), List.getElem?_eq_none (by rw [rep_len]; simpa using hj)]
theorem rep_add (n m : Nat) (cs : List Value) : rep (n + m) cs = rep n cs ++ rep m cs := by
  unfold rep
  rw [← List.replicate_append_replicate, List.flatten_append]
theorem rep_drop (n m : Nat) (cs : List Value) : (rep (n + m) cs).drop (n * cs.length) = rep m cs := by
  rw [rep_add, ← rep_len n cs, List.drop_left]
theorem make_row (n : Nat) (w : World) (hn : 32 * n ≤ 281474976710656) :
    (Instr.makeSlice 26 (.int .i64 (n : Int)) (.int .i64 (n : Int))).run Tryz.prog w = .ok (.slice (some ⟨w.heap.size, 0, none⟩) n n) (w.alloc (.cells (rep n [.int .i64 0, .int .i64 0, .string ⟨#[]⟩]).toArray 52)) := by
  obtain ⟨i0, hi, hz0, hz1, hz2⟩ := info_parts info_val
  have h := run_make (P := Tryz.prog) w 26 52 i0 (.agg #[.int .i64 0, .int .i64 0, .string ⟨#[]⟩]) Tryz.underlying26 hi hz0 .i64 .i64 n n (by omega) (Int.le_refl _) (by rw [hz2]; omega) (by omega)
  rw [← made3]
  simpa [hz1, Value.cells] using h
theorem make_col (n : Nat) (w : World) (hn : 32 * n ≤ 281474976710656) :
    (Instr.makeSlice 22 (.int .i64 (n : Int)) (.int .i64 (n : Int))).run Tryz.prog w = .ok (.slice (some ⟨w.heap.size, 0, none⟩) n n) (w.alloc (.cells (rep n [.string ⟨#[]⟩, .int .i64 0, .bool false]).toArray 54)) := by
  obtain ⟨i0, hi, hz0, hz1, hz2⟩ := info_parts info_col
  have h := run_make (P := Tryz.prog) w 22 54 i0 (.agg #[.string ⟨#[]⟩, .int .i64 0, .bool false]) Tryz.underlying22 hi hz0 .i64 .i64 n n (by omega) (Int.le_refl _) (by rw [hz2]; omega) (by omega)
  rw [← made3]
  simpa [hz1, Value.cells] using h
theorem add_plain (b o j : Nat) : (⟨b, o, none⟩ : Addr).add j = ⟨b, o + j, none⟩ := by unfold Addr.add; split <;> simp_all
theorem run_copy_row3 {P : Program} (w : World) (dT sT ty elem : TypeId) (g o dLen dCap : Nat) (a : Addr) (sLen sCap : Nat) (cur : Array Value) (t : TypeId) (cs : List Value)
    (hu : P.underlying dT = some (.slice elem)) (hs : (P.info? elem).map (·.size) = some 3)
    (hg : w.heap[g]? = some (.cells cur t (0, 0))) (hn : cs.length = Nat.min sLen dLen * 3)
    (hsrc : ∀ j v, cs[j]? = some v → w.cell? (a.add j) = some v) (hfit : o + cs.length ≤ cur.size) (h1 : ∀ v ∈ cs, v.oneCell' = true) :
    (Builtin.copy_ #[dT, sT] ty #[.slice (some ⟨g, o, none⟩) dLen dCap, .slice (some a) sLen sCap]).run P w =
      .ok (goInt (Nat.min sLen dLen)) (w.setRow g (cur.toList.take o ++ cs ++ cur.toList.drop (o + cs.length)).toArray) := by
  have hl := run_loadCells_list (P := P) w a cs hsrc
  have hst := run_storeCells_at P g o t cs 0 cur w hg (by simpa using hfit) h1
  cases hq : P.info? elem with
  | none => simp [hq] at hs
  | some i =>
    have hi : i.size = 3 := by simpa [hq] using hs
    simp [Builtin.copy_, run_underlying hu, Builtin.lenOf, Builtin.firstCells, sizeOf, typeInfo, hq, hi, ← hn, hl, hst]
theorem copy_in {P : Program} (W : World) (dT elem t : TypeId) (g dLen dCap : Nat) (so : Option Addr) (n cs : Nat) (cur : Array Value) (xs : List Value)
    (hu : P.underlying dT = some (.slice elem)) (hs : (P.info? elem).map (·.size) = some 3)
    (hg : W.heap[g]? = some (.cells cur t (0, 0))) (hl : xs.length = n * 3) (hnd : n ≤ dLen) (hfit : n * 3 ≤ cur.size) (h1 : ∀ v ∈ xs, v.oneCell' = true) (hsl : SL W so xs) (hso : so = none → cs = 0) :
    ∃ W', (∀ ty, (Builtin.copy_ #[dT, dT] ty #[.slice (some ⟨g, 0, none⟩) dLen dCap, .slice so n cs]).run P W = .ok (.int .i64 n) W') ∧ W'.heap[g]? = some (.cells (xs ++ cur.toList.drop (n * 3)).toArray t (0, 0)) ∧ Tch (fun i => i = g) W W' := by
  rcases Nat.eq_zero_or_pos n with rfl | hn
  · have hx : xs = [] := List.eq_nil_of_length_eq_zero (by omega)
    subst hx
    refine ⟨W, fun ty => ?_, by simpa using hg, Tch.refl _ _⟩
    cases hq : P.info? elem with
    | none => simp [hq] at hs
    | some i =>
      cases so with
      | none => obtain rfl := hso rfl; simp [Builtin.copy_, run_underlying hu, Builtin.lenOf, Builtin.firstCells, sizeOf, typeInfo, hq, storeCells, goInt]
      | some s => simp [Builtin.copy_, run_underlying hu, Builtin.lenOf, Builtin.firstCells, sizeOf, typeInfo, hq, storeCells, goInt, loadCells, loadCellsFrom]
  · obtain ⟨gs, o, rfl, ha⟩ := hsl (by rintro rfl; simp at hl; omega)
    have e : Nat.min n dLen = n := Nat.min_eq_left hnd
    refine ⟨W.setRow g (cur.toList.take 0 ++ xs ++ cur.toList.drop (0 + xs.length)).toArray, fun ty => ?_, ?_, ?_⟩
    · have hr := run_copy_row3 (P := P) W dT dT ty elem g 0 dLen dCap ⟨gs, o, none⟩ n cs cur t xs hu hs hg (by rw [e]; exact hl) (fun j v hv => by rw [add_plain]; exact ha j v hv) (by omega) h1
      rw [hr, e]; rfl
    · rw [setRow_heap W g cur _ t (0, 0) hg]
      simp [hl]
    · exact ⟨rfl, rfl, rfl, by simp [World.setRow], fun k _ hk => setRow_other W g k _ hk⟩
theorem eq_val (a b : Val) : ∃ d : Bool, (d = true ↔ a = b) ∧ ∀ w, (Op.equalIn 10000 52 (.agg #[.int .i64 a.k, .int .i64 a.n, .string a.s]) (.agg #[.int .i64 b.k, .int .i64 b.n, .string b.s])).run Tryz.prog w = .ok d w := by
  have u3 := Tryz.underlying3
  have u9 := Tryz.underlying9
  have hS : Tryz.prog.underlying 52 = some (.struct (Tryz.prog.fieldsOf 52)) := by kernel_rfl
  have hp : Tryz.prog.stoodInHeld 52 = false := by kernel_rfl
  refine ⟨decide (a.k = b.k ∧ a.n = b.n ∧ a.s = b.s), ?_, fun w => ?_⟩
  · simp only [decide_eq_true_eq]
    exact ⟨Val.ext', fun h => by subst h; exact ⟨rfl, rfl, rfl⟩⟩
  · rw [show (10000 : Nat) = 9999 + 1 from rfl, run_equalIn_agg w 9999 52 _ _ hS hp]
    simp only [Program.fieldsOf, Tryz.underlying52]
    go_simp
    have hs : (a.s.toList = b.s.toList) ↔ a.s = b.s := by
      rw [ByteArray.toList_eq, ByteArray.toList_eq]
      exact ⟨fun h => ByteArray.ext (Array.ext' h), fun h => by rw [h]⟩
    by_cases h1 : a.k = b.k <;> by_cases h2 : a.n = b.n <;> by_cases h3 : a.s = b.s <;> simp [h1, h2, h3, hs]
theorem ne_val (a b : Val) : ∃ d : Bool, (d = true ↔ a ≠ b) ∧ ∀ w, (binOp .neq 52 (.agg #[.int .i64 a.k, .int .i64 a.n, .string a.s]) (.agg #[.int .i64 b.k, .int .i64 b.n, .string b.s])).run Tryz.prog w = .ok (.bool d) w := by
  obtain ⟨d, h1, h2⟩ := eq_val a b
  refine ⟨!d, ?_, fun w => ?_⟩
  · cases d <;> simp_all
  · rw [run_neq_struct, h2]; rfl
theorem eq_col (a b : Col) : ∃ d : Bool, (d = true ↔ a = b) ∧ ∀ w, (Op.equalIn 10000 54 (.agg #[.string a.nm, .int .i64 a.k, .bool a.nl]) (.agg #[.string b.nm, .int .i64 b.k, .bool b.nl])).run Tryz.prog w = .ok d w := by
  have u3 := Tryz.underlying3
  have u9 := Tryz.underlying9
  have u4 := Tryz.underlying4
  have hS : Tryz.prog.underlying 54 = some (.struct (Tryz.prog.fieldsOf 54)) := by kernel_rfl
  have hp : Tryz.prog.stoodInHeld 54 = false := by kernel_rfl
  refine ⟨decide (a.nm = b.nm ∧ a.k = b.k ∧ a.nl = b.nl), ?_, fun w => ?_⟩
  · simp only [decide_eq_true_eq]
    exact ⟨Col.ext', fun h => by subst h; exact ⟨rfl, rfl, rfl⟩⟩
  · rw [show (10000 : Nat) = 9999 + 1 from rfl, run_equalIn_agg w 9999 54 _ _ hS hp]
    simp only [Program.fieldsOf, Tryz.underlying54]
    go_simp
    have hs : (a.nm.toList = b.nm.toList) ↔ a.nm = b.nm := by
      rw [ByteArray.toList_eq, ByteArray.toList_eq]
      exact ⟨fun h => ByteArray.ext (Array.ext' h), fun h => by rw [h]⟩
    by_cases h1 : a.nm = b.nm <;> by_cases h2 : a.k = b.k <;> by_cases h3 : a.nl = b.nl <;> simp [h1, h2, h3, hs]
theorem ne_col (a b : Col) : ∃ d : Bool, (d = true ↔ a ≠ b) ∧ ∀ w, (binOp .neq 54 (.agg #[.string a.nm, .int .i64 a.k, .bool a.nl]) (.agg #[.string b.nm, .int .i64 b.k, .bool b.nl])).run Tryz.prog w = .ok (.bool d) w := by
  obtain ⟨d, h1, h2⟩ := eq_col a b
  refine ⟨!d, ?_, fun w => ?_⟩
  · cases d <;> simp_all
  · rw [run_neq_struct, h2]; rfl
theorem eql_col (a b : Col) : ∃ d : Bool, (d = true ↔ a = b) ∧ ∀ w, (binOp .eql 54 (.agg #[.string a.nm, .int .i64 a.k, .bool a.nl]) (.agg #[.string b.nm, .int .i64 b.k, .bool b.nl])).run Tryz.prog w = .ok (.bool d) w := by
  obtain ⟨d, h1, h2⟩ := eq_col a b
  refine ⟨d, h1, fun w => ?_⟩
  rw [run_eql_struct, h2]; rfl
end Go.Proofs.YteaagnlhkopgdaaGreatDoor.C
