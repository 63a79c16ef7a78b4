import Derived.Test.YtjiblajnfnmjnaaGreatDoorVForm
import Derived.Test.YtjiblajnfnmjnaaGreatDoorCPure
import Derived.Deep.DeepHandedRow
import Derived.Deep.AppendLies
import Derived.Maps.AppendAt
import Derived.Lib.BufferMore
import Derived.Laws.CopyRow
namespace Go.Proofs.YtjiblajnfnmjnaaGreatDoor.C
open Go.RowKit
def At (w : World) (g o : Nat) (cs : List Value) : Prop := ∀ j u, cs[j]? = some u → w.cell? ⟨g, o + j, none⟩ = some u
theorem At.lt {w : World} {g o : Nat} {cs : List Value} (h : At w g o cs) (hc : cs ≠ []) : g < w.heap.size := by
  cases cs with
  | nil => exact absurd rfl hc
  | cons a l => exact cell_lt (h 0 a rfl)
theorem At.tch {S : Nat → Prop} {w w' : World} {g o : Nat} {cs : List Value} (h : At w g o cs) (t : Tch S w w') (hg : cs ≠ [] → ¬ S g) : At w' g o cs := fun j u hu => by
  have hc : cs ≠ [] := by rintro rfl; simp at hu
  rw [t.cell (p := ⟨g, o + j, none⟩) (h.lt hc) (hg hc)]; exact h j u hu
def SL (w : World) (ao : Option Addr) (cs : List Value) : Prop := cs ≠ [] → ∃ g o, ao = some ⟨g, o, none⟩ ∧ At w g o cs
theorem SL.tch {S : Nat → Prop} {w w' : World} {ao : Option Addr} {cs : List Value} (h : SL w ao cs) (t : Tch S w w') (hS : ∀ g o, ao = some ⟨g, o, none⟩ → ¬ S g) : SL w' ao cs := fun hc => by
  obtain ⟨g, o, e, ha⟩ := h hc
  exact ⟨g, o, e, ha.tch t (fun _ => hS g o e)⟩
theorem SL.no {w w' : World} {ao : Option Addr} {cs : List Value} (h : SL w ao cs) (t : Tch (fun _ => False) w w') : SL w' ao cs := h.tch t (fun _ _ _ h => h)
theorem SL.nil (w : World) (ao : Option Addr) : SL w ao [] := fun h => absurd rfl h
section
variable {α : Type} (f g h : α → Value)
def f3 (l : List α) : List Value := l.flatMap (fun a => [f a, g a, h a])
theorem f3_len : ∀ l : List α, (f3 f g h l).length = l.length * 3
  | [] => rfl
  | a :: l => by
    have := f3_len l
    unfold f3 at this ⊢
    simp only [List.flatMap_cons, List.length_append, List.length_cons, List.length_nil, this]; omega
theorem f3_get : ∀ (l : List α) (k : Nat) (hk : k < l.length), (f3 f g h l)[k * 3]? = some (f l[k]) ∧ (f3 f g h l)[k * 3 + 1]? = some (g l[k]) ∧ (f3 f g h l)[k * 3 + 2]? = some (h l[k])
  | [], k, hk => by simp at hk
  | a :: l, 0, _ => by simp [f3]
  | a :: l, k + 1, hk => by
    have := f3_get l k (by simpa using hk)
    unfold f3 at this ⊢
    have e1 : (k + 1) * 3 = k * 3 + 3 := by omega
    simp only [List.flatMap_cons, List.getElem_cons_succ]
    rw [e1]
    refine ⟨?_, ?_, ?_⟩
    · rw [List.getElem?_append_right (by simp)]; simpa using this.1
    · rw [List.getElem?_append_right (by simp)]; simpa using this.2.1
    · rw [List.getElem?_append_right (by simp)]; simpa using this.2.2
theorem f3_append (l m : List α) : f3 f g h (l ++ m) = f3 f g h l ++ f3 f g h m := by simp [f3]
theorem f3_one (hf : ∀ a, (f a).oneCell' = true ∧ (g a).oneCell' = true ∧ (h a).oneCell' = true) (l : List α) : ∀ u ∈ f3 f g h l, u.oneCell' = true := fun u hu => by
  unfold f3 at hu
  rw [List.mem_flatMap] at hu
  obtain ⟨a, _, hu⟩ := hu
  simp only [List.mem_cons, List.not_mem_nil, or_false] at hu
  rcases hu with rfl | rfl | rfl
  · exact (hf a).1
  · exact (hf a).2.1
  · exact (hf a).2.2
theorem f3_nil {l : List α} (hl : l ≠ []) : f3 f g h l ≠ [] := fun e => by
  have := f3_len f g h l
  rw [e] at this
  have := List.length_pos_iff.2 hl
  simp at *; omega
theorem f3_take (l : List α) (k : Nat) : f3 f g h (l.take k) = (f3 f g h l).take (k * 3) := by
  induction l generalizing k with
  | nil => simp [f3]
  | cons a l ih =>
    cases k with
    | zero => simp [f3]
    | succ k =>
      have := ih k
      unfold f3 at this ⊢
      rw [List.take_succ_cons, List.flatMap_cons, List.flatMap_cons, this, show (k + 1) * 3 = k * 3 + 1 + 1 + 1 by omega]
      simp
end
def vcl (l : List Val) : List Value := f3 (fun v => .int .i64 v.k) (fun v => .int .i64 v.n) (fun v => .string v.s) l
def ccl (l : List Col) : List Value := f3 (fun c => .string c.nm) (fun c => .int .i64 c.k) (fun c => .bool c.nl) l
theorem vcl_len (l : List Val) : (vcl l).length = l.length * 3 := f3_len ..
theorem ccl_len (l : List Col) : (ccl l).length = l.length * 3 := f3_len ..
theorem vcl_one (l : List Val) : ∀ u ∈ vcl l, u.oneCell' = true := f3_one _ _ _ (fun _ => ⟨rfl, rfl, rfl⟩) l
theorem ccl_one (l : List Col) : ∀ u ∈ ccl l, u.oneCell' = true := f3_one _ _ _ (fun _ => ⟨rfl, rfl, rfl⟩) l
theorem At.val {w : World} {g o : Nat} {l : List Val} (h : At w g o (vcl l)) (k : Nat) (hk : k < l.length) : w.cell? ⟨g, o + k * 3, none⟩ = some (.int .i64 l[k].k) ∧ w.cell? ⟨g, o + k * 3 + 1, none⟩ = some (.int .i64 l[k].n) ∧ w.cell? ⟨g, o + k * 3 + 2, none⟩ = some (.string l[k].s) := by
  obtain ⟨h0, h1, h2⟩ := f3_get (fun v : Val => Value.int .i64 v.k) (fun v => .int .i64 v.n) (fun v => .string v.s) l k hk
  exact ⟨h _ _ h0, by have := h _ _ h1; rwa [← Nat.add_assoc] at this, by have := h _ _ h2; rwa [← Nat.add_assoc] at this⟩
theorem At.col {w : World} {g o : Nat} {l : List Col} (h : At w g o (ccl l)) (k : Nat) (hk : k < l.length) : w.cell? ⟨g, o + k * 3, none⟩ = some (.string l[k].nm) ∧ w.cell? ⟨g, o + k * 3 + 1, none⟩ = some (.int .i64 l[k].k) ∧ w.cell? ⟨g, o + k * 3 + 2, none⟩ = some (.bool l[k].nl) := by
  obtain ⟨h0, h1, h2⟩ := f3_get (fun c : Col => Value.string c.nm) (fun c => .int .i64 c.k) (fun c => .bool c.nl) l k hk
  exact ⟨h _ _ h0, by have := h _ _ h1; rwa [← Nat.add_assoc] at this, by have := h _ _ h2; rwa [← Nat.add_assoc] at this⟩
theorem SL.col {w : World} {ao : Option Addr} {l : List Col} (h : SL w ao (ccl l)) {k : Nat} (hk : k < l.length) : ∃ g o, ao = some ⟨g, o, none⟩ ∧ At w g o (ccl l) := h (f3_nil _ _ _ (by rintro rfl; simp at hk))
theorem SL.val {w : World} {ao : Option Addr} {l : List Val} (h : SL w ao (vcl l)) {k : Nat} (hk : k < l.length) : ∃ g o, ao = some ⟨g, o, none⟩ ∧ At w g o (vcl l) := h (f3_nil _ _ _ (by rintro rfl; simp at hk))
theorem SL.takeC {w : World} {ao : Option Addr} {l : List Col} (h : SL w ao (ccl l)) (k : Nat) : SL w ao (ccl (l.take k)) := fun hc => by
  have e : ccl (l.take k) = (ccl l).take (k * 3) := f3_take ..
  rw [e] at hc ⊢
  obtain ⟨g, o, h1, h2⟩ := h (by rintro e; rw [e] at hc; simp at hc)
  refine ⟨g, o, h1, fun j u hu => h2 j u ?_⟩
  rw [List.getElem?_take] at hu
  split at hu
  · exact hu
  · simp at hu
abbrev tA (id ver : Int) (nm : ByteArray) (cv : Value) (key : Int) : Value := .agg #[.int .i64 id, .int .i64 ver, .string nm, cv, .int .i64 key]
open Go.RowKit Go
section
variable {P : Program} (w : World)
theorem run_append_keeps (base : Nat) (t ty e : TypeId) (i : TypeInfo) (z : Value) (size bytes : Nat) (ht : P.underlying t = some (.slice e)) (hi : P.info? e = some i) (hz : i.zero = some z)
    (hsize : i.size = size) (hby : i.bytes = bytes) (hzs : z.cells.size = size) (hsz : 0 < size)
    (v : Value) (n : Nat) (xs : List Value) (hown : w.ownsRow base e size v n xs)
    (a : Addr) (m c : Nat) (news : List Value) (hl : news.length = m * size) (hnews : ∀ j u, news[j]? = some u → w.cell? (a.add j) = some u) (h1 : ∀ u ∈ news, u.oneCell' = true)
    (h63 : n + m ≤ maxLen) (hbytes : (n + m) * bytes ≤ 140737488355328) (hbase : base ≤ w.heap.size) :
    ∃ v' w', (Builtin.append_ #[t, t] ty #[v, .slice (some a) m c]).run P w = .ok v' w' ∧ w'.ownsRow base e size v' (n + m) (xs ++ news) ∧ w.grownBy w' v.ownBlock ∧ (v'.ownBlock = v.ownBlock ∨ v'.ownBlock = some w.heap.size) ∧
      ∀ b j, b < w.heap.size → (v.ownBlock = some b → j < n * size) → w'.cell? ⟨b, j, none⟩ = w.cell? ⟨b, j, none⟩ := by
  obtain ⟨v', w', hr, h2, h3, _, h5⟩ := run_append_own_at (P := P) w base t ty e i z size bytes ht hi hz hsize hby hzs hsz v n xs hown a m c news hl hnews h1 h63 hbytes hbase
  refine ⟨v', w', hr, h2, h3, h5, fun b j hb hj => ?_⟩
  by_cases hvb : v.ownBlock = some b
  · rcases hown.2 with ⟨rfl, rfl⟩ | ⟨g, cap, cur, rfl, hbg, hg, hnc, hcm, hcs, htake⟩
    · cases hvb
    · have hgb : g = b := by simpa [Value.ownBlock] using hvb
      subst hgb
      have hj' := hj hvb
      by_cases hroom : n + m ≤ cap
      · have hfit : n * i.size + news.length ≤ cur.size := by rw [hl, hcs, hsize, ← Nat.add_mul]; exact Nat.mul_le_mul_right _ hroom
        have hr2 := run_append_room (P := P) w t ty e i ht hi g n cap cur hg a m c news (by rw [hsize]; exact hl) hnews h1 hroom hfit
        rw [hr] at hr2
        simp only [Result.ok.injEq] at hr2
        obtain ⟨rfl, rfl⟩ := hr2
        rw [h2.cellAt j (by rw [Nat.add_mul]; omega), hown.cellAt j hj', List.getElem?_append_left (by rw [hown.1]; exact hj')]
      · have holds : ∀ j u, xs[j]? = some u → w.cell? ((⟨g, 0, none⟩ : Addr).add j) = some u := hown.cells (g := g) rfl
        have hr2 := run_append_grow (P := P) w t ty e i z ht hi hz ⟨g, 0, none⟩ n cap xs (by rw [hsize]; exact hown.1) holds a m c news (by rw [hsize]; exact hl) hnews (by omega) (by simp only [maxLen] at h63; omega) (by rw [hby]; exact growslice_fits (by omega) hbytes)
        rw [hr] at hr2
        simp only [Result.ok.injEq] at hr2
        obtain ⟨_, rfl⟩ := hr2
        exact World.cell?_of_block (heap_alloc_old w.drew _ hb)
  · exact World.cell?_of_block (h3.block b hb (fun e => hvb e.symm))
end
theorem wpList_append_keeps {P : Program} (w : World) {ops : Array Oper} {rest : List Oper} {o : Oper} {a : Act} {Q : Exit → Act → World → Prop} (hgd : o.guard = none) (s x : Operand) (t : TypeId)
    (ho : o.op = .call { callee := .builtin .append, args := #[s, x], argTypes := #[t, t] })
    (base : Nat) (e : TypeId) (i : TypeInfo) (z : Value) (size bytes : Nat) (ht : P.underlying t = some (.slice e)) (hi : P.info? e = some i) (hz : i.zero = some z)
    (hsize : i.size = size) (hby : i.bytes = bytes) (hzs : z.cells.size = size) (hsz : 0 < size)
    (v : Value) (n : Nat) (xs : List Value) (hs : a.eval s = v) (hown : w.ownsRow base e size v n xs)
    (ad : Addr) (m c : Nat) (news : List Value) (hx : a.eval x = .slice (some ad) m c) (hl : news.length = m * size) (hnews : ∀ j u, news[j]? = some u → w.cell? (ad.add j) = some u) (h1 : ∀ u ∈ news, u.oneCell' = true)
    (h63 : n + m ≤ maxLen) (hbytes : (n + m) * bytes ≤ 140737488355328) (hbase : base ≤ w.heap.size)
    (h : ∀ v' w', w'.ownsRow base e size v' (n + m) (xs ++ news) → w.grownBy w' v.ownBlock → (v'.ownBlock = v.ownBlock ∨ v'.ownBlock = some w.heap.size) → (∀ b j, b < w.heap.size → (v.ownBlock = some b → j < n * size) → w'.cell? ⟨b, j, none⟩ = w.cell? ⟨b, j, none⟩) → wpList P ops Q rest (a.put o.dst v') w') :
    wpList P ops Q (o :: rest) a w := by
  refine wpList_plain hgd fun K hK => ?_
  obtain ⟨v', w', hr, h2, h3, h4, h5⟩ := run_append_keeps (P := P) w base t o.type e i z size bytes ht hi hz hsize hby hzs hsz v n xs hown ad m c news hl hnews h1 h63 hbytes hbase
  unfold Oper.wp execOp
  simp only [ho, resolve, invoke, builtin, Sem.run_bind, Sem.run_pure, Result.andThen_ok, List.map_toArray, List.map_cons, List.map_nil, hs, hx, hr]
  exact hK _ _ (h v' w' h2 h3 h4 h5)
theorem blk_lt {w : World} {b : Nat} {o : Obj} (h : w.heap[b]? = some o) : b < w.heap.size := (Array.getElem?_eq_some_iff.1 h).1
theorem blk_cell {w : World} {b : Nat} {cs : Array Value} {t : TypeId} {fr : Nat × Nat} (h : w.heap[b]? = some (.cells cs t fr)) (i : Nat) : w.cell? ⟨b, i, none⟩ = cs[i]? := by
  simp [World.cell?, h]
theorem blk_frozen {w : World} {b : Nat} {cs : Array Value} {t : TypeId} (h : w.heap[b]? = some (.cells cs t (0, 0))) (i : Nat) : w.frozen? ⟨b, i, none⟩ = false := by
  simp [World.frozen?, h]
theorem blk_set {w : World} {b i : Nat} {cs : Array Value} {t : TypeId} {fr : Nat × Nat} (h : w.heap[b]? = some (.cells cs t fr)) (v : Value) : (w.setCell ⟨b, i, none⟩ v).heap[b]? = some (.cells (cs.setIfInBounds i v) t fr) := by
  have hl := blk_lt h
  simp only [World.setCell]
  rw [Array.getElem?_modify]
  simp [h]
theorem alloc_new (w : World) (o : Obj) : (w.alloc o).heap[w.heap.size]? = some o := by show (w.heap.push o)[w.heap.size]? = _; simp
theorem row_slice {w : World} {base : Nat} {t : TypeId} {sz n : Nat} {v : Value} {xs : List Value} (h : w.ownsRow base t sz v n xs) : ∃ ao c, v = .slice ao n c := by
  rcases h.2 with ⟨h1, h2⟩ | ⟨g, c, cur, h1, _⟩
  · exact ⟨none, 0, by rw [h1, h2]⟩
  · exact ⟨_, c, h1⟩
theorem own_tch {S : Nat → Prop} {W W' : World} {base sz n : Nat} {t : TypeId} {v : Value} {xs : List Value} (h : W.ownsRow base t sz v n xs) (tc : Tch S W W') (hS : ∀ g, v.ownBlock = some g → ¬ S g) : W'.ownsRow base t sz v n xs := by
  obtain ⟨h1, h2⟩ := h
  refine ⟨h1, ?_⟩
  rcases h2 with h2 | ⟨g, c, cur, hv, hb, hh, hr⟩
  · exact Or.inl h2
  · exact Or.inr ⟨g, c, cur, hv, hb, by rw [tc.block g (blk_lt hh) (hS g (by rw [hv]; rfl))]; exact hh, hr⟩
theorem grown_at {W W1 w1 : World} {row : Option Nat} (t : Tch (fun _ => False) W W1) (h : W1.grownBy w1 row) : Tch (fun i => row = some i) W w1 :=
  (t.mono (fun _ _ h => h.elim)).trans' ⟨h.os, h.tape, h.output, h.size, fun k hk hn => h.block k hk (fun e => hn e.symm)⟩
theorem own_at {W : World} {base sz n : Nat} {t : TypeId} {ao : Option Addr} {c : Nat} {xs : List Value} (h : W.ownsRow base t sz (.slice ao n c) n xs) (hn : 0 < n) : ∃ g, ao = some ⟨g, 0, none⟩ ∧ g < W.heap.size ∧ At W g 0 xs := by
  rcases h.2 with ⟨_, h2⟩ | ⟨g, c', cur, hv, hb, hh, hc, hm, hs, ht⟩
  · omega
  · injection hv with h1
    subst h1
    refine ⟨g, rfl, blk_lt hh, fun j u hu => ?_⟩
    rw [Nat.zero_add, blk_cell hh, ← Array.getElem?_toList]
    rw [← ht, List.getElem?_take] at hu
    split at hu
    · exact hu
    · simp at hu
theorem info_val : (Tryz.prog.info? 58).map (fun i => (i.zero, i.size, i.bytes)) = some (some (.agg #[.int .i64 0, .int .i64 0, .string ⟨#[]⟩]), 3, 32) := by kernel_rfl
theorem info_col : (Tryz.prog.info? 43).map (fun i => (i.zero, i.size, i.bytes)) = some (some (.agg #[.string ⟨#[]⟩, .int .i64 0, .bool false]), 3, 32) := by kernel_rfl
theorem add_plain (b o j : Nat) : (⟨b, o, none⟩ : Addr).add j = ⟨b, o + j, none⟩ := by unfold Addr.add; split <;> simp_all
theorem eq_val (a b : Val) : ∃ d : Bool, (d = true ↔ a = b) ∧ ∀ w, (Op.equalIn 10000 58 (.agg #[.int .i64 a.k, .int .i64 a.n, .string a.s]) (.agg #[.int .i64 b.k, .int .i64 b.n, .string b.s])).run Tryz.prog w = .ok d w := by
  have u3 := Tryz.underlying3
  have u9 := Tryz.underlying9
  have hS : Tryz.prog.underlying 58 = some (.struct (Tryz.prog.fieldsOf 58)) := by kernel_rfl
  have hp : Tryz.prog.stoodInHeld 58 = false := by kernel_rfl
  refine ⟨decide (a.k = b.k ∧ a.n = b.n ∧ a.s = b.s), ?_, fun w => ?_⟩
  · simp only [decide_eq_true_eq]
    exact ⟨Val.ext', fun h => by subst h; exact ⟨rfl, rfl, rfl⟩⟩
  · rw [show (10000 : Nat) = 9999 + 1 from rfl, run_equalIn_agg w 9999 58 _ _ hS hp]
    simp only [Program.fieldsOf, Tryz.underlying58]
    go_simp
    have hs : (a.s.toList = b.s.toList) ↔ a.s = b.s := by
      rw [ByteArray.toList_eq, ByteArray.toList_eq]
      exact ⟨fun h => ByteArray.ext (Array.ext' h), fun h => by rw [h]⟩
    by_cases h1 : a.k = b.k <;> by_cases h2 : a.n = b.n <;> by_cases h3 : a.s = b.s <;> simp [h1, h2, h3, hs]
theorem ne_val (a b : Val) : ∃ d : Bool, (d = true ↔ a ≠ b) ∧ ∀ w, (binOp .neq 58 (.agg #[.int .i64 a.k, .int .i64 a.n, .string a.s]) (.agg #[.int .i64 b.k, .int .i64 b.n, .string b.s])).run Tryz.prog w = .ok (.bool d) w := by
  obtain ⟨d, h1, h2⟩ := eq_val a b
  refine ⟨!d, ?_, fun w => ?_⟩
  · cases d <;> simp_all
  · rw [run_neq_struct, h2]; rfl
theorem eq_col (a b : Col) : ∃ d : Bool, (d = true ↔ a = b) ∧ ∀ w, (Op.equalIn 10000 43 (.agg #[.string a.nm, .int .i64 a.k, .bool a.nl]) (.agg #[.string b.nm, .int .i64 b.k, .bool b.nl])).run Tryz.prog w = .ok d w := by
  have u3 := Tryz.underlying3
  have u9 := Tryz.underlying9
  have u4 := Tryz.underlying4
  have hS : Tryz.prog.underlying 43 = some (.struct (Tryz.prog.fieldsOf 43)) := by kernel_rfl
  have hp : Tryz.prog.stoodInHeld 43 = false := by kernel_rfl
  refine ⟨decide (a.nm = b.nm ∧ a.k = b.k ∧ a.nl = b.nl), ?_, fun w => ?_⟩
  · simp only [decide_eq_true_eq]
    exact ⟨Col.ext', fun h => by subst h; exact ⟨rfl, rfl, rfl⟩⟩
  · rw [show (10000 : Nat) = 9999 + 1 from rfl, run_equalIn_agg w 9999 43 _ _ hS hp]
    simp only [Program.fieldsOf, Tryz.underlying43]
    go_simp
    have hs : (a.nm.toList = b.nm.toList) ↔ a.nm = b.nm := by
      rw [ByteArray.toList_eq, ByteArray.toList_eq]
      exact ⟨fun h => ByteArray.ext (Array.ext' h), fun h => by rw [h]⟩
    by_cases h1 : a.nm = b.nm <;> by_cases h2 : a.k = b.k <;> by_cases h3 : a.nl = b.nl <;> simp [h1, h2, h3, hs]
theorem ne_col (a b : Col) : ∃ d : Bool, (d = true ↔ a ≠ b) ∧ ∀ w, (binOp .neq 43 (.agg #[.string a.nm, .int .i64 a.k, .bool a.nl]) (.agg #[.string b.nm, .int .i64 b.k, .bool b.nl])).run Tryz.prog w = .ok (.bool d) w := by
  obtain ⟨d, h1, h2⟩ := eq_col a b
  refine ⟨!d, ?_, fun w => ?_⟩
  · cases d <;> simp_all
  · rw [run_neq_struct, h2]; rfl
end Go.Proofs.YtjiblajnfnmjnaaGreatDoor.C
