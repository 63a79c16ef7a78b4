import Derived.Lib.Bytealg
import Derived.Lib.Small
import Derived.Test.YtmfbhhloabkecaaGreatDoorVLift
import Derived.Test.YtmfbhhloabkecaaGreatDoorVDec2
import Derived.Deep.DeepHandedRow
import Derived.Deep.AppendLies
import Derived.Maps.AppendAt
import Derived.Lib.BufferMore
namespace Go.Proofs.YtmfbhhloabkecaaGreatDoor.C
open Go.Lib
def nullV : Val := ⟨0, 0, ⟨#[]⟩⟩
structure Col where
  nm : ByteArray
  k : Int
  nl : Bool
theorem Col.ext' {a b : Col} (h : a.nm = b.nm ∧ a.k = b.k ∧ a.nl = b.nl) : a = b := by
  obtain ⟨ak, an, sa⟩ := a
  obtain ⟨bk, bn, sb⟩ := b
  simp at h
  simp [h]
structure Tbl where
  id : Int
  ver : Int
  nm : ByteArray
  cols : List Col
  key : Int
def ltr (b : UInt8) : Bool := decide (97 ≤ b.toNat) && decide (b.toNat ≤ 122)
def dgt (b : UInt8) : Bool := decide (48 ≤ b.toNat) && decide (b.toNat ≤ 57)
def sgn (b : UInt8) : Bool := ltr b || dgt b || decide (b.toNat = 95)
def nmOk (s : ByteArray) : Bool := match s.data.toList with
  | [] => false
  | a :: l => decide (l.length ≤ 15) && ltr a && l.all sgn
def kdOk (k : Int) : Bool := decide (k = 1) || decide (k = 2) || decide (k = 3)
def colE (ahead : List Col) (c : Col) : Int := if nmOk c.nm = false then 50 else if ahead.any (fun a => decide (a.nm = c.nm)) then 54 else if kdOk c.k = false then 1 else 0
def colsGo (ahead : List Col) : List Col → Int
  | [] => 0
  | c :: l => if colE ahead c ≠ 0 then colE ahead c else colsGo (ahead ++ [c]) l
def colsE (l : List Col) : Int := if l.length < 1 ∨ 8 < l.length then 55 else colsGo [] l
def keyOk (l : List Col) (k : Int) : Bool := decide (0 ≤ k) && (match l[k.toNat]? with
  | none => false
  | some c => decide (c.k ≠ 3) && !c.nl)
def numOk (n : Int) : Bool := decide (1 ≤ n) && decide (n ≤ 2147483647)
def rightE (t : Tbl) : Int := if numOk t.id = false ∨ numOk t.ver = false then 1 else if nmOk t.nm = false then 50 else if colsE t.cols ≠ 0 then colsE t.cols else if keyOk t.cols t.key = false then 56 else 0
def fullR (t : Tbl) (r : List Val) : List Val := r ++ List.replicate (t.cols.length - r.length) nullV
def fitsAll : List Col → List Val → Bool
  | [], _ => true
  | _ :: _, [] => true
  | c :: l, v :: m => decide (fitE v c.k c.nl = 0) && fitsAll l m
def fitR (t : Tbl) (r : List Val) : List Val × Int := if rightE t ≠ 0 then ([], rightE t) else if t.cols.length < r.length then ([], 57) else if fitsAll t.cols (fullR t r) = false then ([], 57) else (fullR t r, 0)
theorem colsGo_step (l : List Col) (k : Nat) (hk : k < l.length) : colsGo (l.take k) (l.drop k) = if colE (l.take k) l[k] ≠ 0 then colE (l.take k) l[k] else colsGo (l.take (k + 1)) (l.drop (k + 1)) := by
  rw [List.drop_eq_getElem_cons hk, colsGo, List.take_append_getElem hk]
theorem colsGo_end (l : List Col) : colsGo (l.take l.length) (l.drop l.length) = 0 := by simp [colsGo]
theorem fitsAll_iff : ∀ (l : List Col) (m : List Val), l.length = m.length → (fitsAll l m = true ↔ ∀ i (h : i < l.length) (h' : i < m.length), fitE m[i] l[i].k l[i].nl = 0)
  | [], [], _ => by simp [fitsAll]
  | [], _ :: _, h => by simp at h
  | _ :: _, [], h => by simp at h
  | c :: l, v :: m, h => by
    have ih := fitsAll_iff l m (by simpa using h)
    unfold fitsAll
    rw [Bool.and_eq_true, decide_eq_true_iff, ih]
    constructor
    · rintro ⟨h1, h2⟩ i hi hi'
      rcases i with _ | i
      · simpa using h1
      · simpa using h2 i (by simpa using hi) (by simpa using hi')
    · intro h1
      exact ⟨h1 0 (by simp) (by simp), fun i hi hi' => h1 (i + 1) (by simpa using hi) (by simpa using hi')⟩
theorem fullR_len {t : Tbl} {r : List Val} (h : r.length ≤ t.cols.length) : (fullR t r).length = t.cols.length := by simp [fullR]; omega
theorem nmOk_iff (s : ByteArray) : nmOk s = true ↔ (1 ≤ s.size ∧ s.size ≤ 16) ∧ (∀ h : 0 < s.size, ltr s[0] = true) ∧ ∀ i (h : i < s.size), sgn s[i] = true := by
  obtain ⟨⟨l⟩⟩ := s
  unfold nmOk
  show (match l with | [] => false | a :: l => decide (l.length ≤ 15) && ltr a && l.all sgn) = true ↔ (1 ≤ l.length ∧ l.length ≤ 16) ∧ (∀ h : 0 < l.length, ltr l[0] = true) ∧ ∀ i (h : i < l.length), sgn l[i] = true
  cases l with
  | nil => simp
  | cons a l =>
    simp only [Bool.and_eq_true, decide_eq_true_iff, List.all_eq_true, List.length_cons]
    constructor
    · rintro ⟨⟨h1, h2⟩, h3⟩
      refine ⟨by omega, fun _ => by simpa using h2, fun i hi => ?_⟩
      rcases i with _ | i
      · simp [sgn, h2]
      · simpa using h3 _ (List.getElem_mem (by simpa using hi))
    · rintro ⟨h1, h2, h3⟩
      refine ⟨⟨by omega, by simpa using h2 (by simp)⟩, fun x hx => ?_⟩
      obtain ⟨i, hi, rfl⟩ := List.getElem_of_mem hx
      exact h3 (i + 1) (by simpa using hi)
end Go.Proofs.YtmfbhhloabkecaaGreatDoor.C
namespace Go.Proofs.YtmfbhhloabkecaaGreatDoor.C
open Go.RowKit
def At (w : World) (g o : Nat) (cs : List Value) : Prop := ∀ j u, cs[j]? = some u → w.cell? ⟨g, o + j, none⟩ = some u
theorem At.lt {w : World} {g o : Nat} {cs : List Value} (h : At w g o cs) (hc : cs ≠ []) : g < w.heap.size := by
  cases cs with
  | nil => exact absurd rfl hc
  | cons a l => exact cell_lt (h 0 a rfl)
theorem At.tch {S : Nat → Prop} {w w' : World} {g o : Nat} {cs : List Value} (h : At w g o cs) (t : Tch S w w') (hg : cs ≠ [] → ¬ S g) : At w' g o cs := fun j u hu => by
  have hc : cs ≠ [] := by rintro rfl; simp at hu
  rw [t.cell (p := ⟨g, o + j, none⟩) (h.lt hc) (hg hc)]; exact h j u hu
def SL (w : World) (ao : Option Addr) (cs : List Value) : Prop := cs ≠ [] → ∃ g o, ao = some ⟨g, o, none⟩ ∧ At w g o cs
theorem SL.tch {S : Nat → Prop} {w w' : World} {ao : Option Addr} {cs : List Value} (h : SL w ao cs) (t : Tch S w w') (hS : ∀ g o, ao = some ⟨g, o, none⟩ → ¬ S g) : SL w' ao cs := fun hc => by
  obtain ⟨g, o, e, ha⟩ := h hc
  exact ⟨g, o, e, ha.tch t (fun _ => hS g o e)⟩
theorem SL.no {w w' : World} {ao : Option Addr} {cs : List Value} (h : SL w ao cs) (t : Tch (fun _ => False) w w') : SL w' ao cs := h.tch t (fun _ _ _ h => h)
theorem SL.nil (w : World) (ao : Option Addr) : SL w ao [] := fun h => absurd rfl h
section
variable {α : Type} (f g h : α → Value)
def f3 (l : List α) : List Value := l.flatMap (fun a => [f a, g a, h a])
theorem f3_len : ∀ l : List α, (f3 f g h l).length = l.length * 3
  | [] => rfl
  | a :: l => by
    have := f3_len l
    unfold f3 at this ⊢
    simp only [List.flatMap_cons, List.length_append, List.length_cons, List.length_nil, this]; omega
theorem f3_get : ∀ (l : List α) (k : Nat) (hk : k < l.length), (f3 f g h l)[k * 3]? = some (f l[k]) ∧ (f3 f g h l)[k * 3 + 1]? = some (g l[k]) ∧ (f3 f g h l)[k * 3 + 2]? = some (h l[k])
  | [], k, hk => by simp at hk
  | a :: l, 0, _ => by simp [f3]
  | a :: l, k + 1, hk => by
    have := f3_get l k (by simpa using hk)
    unfold f3 at this ⊢
    have e1 : (k + 1) * 3 = k * 3 + 3 := by omega
    simp only [List.flatMap_cons, List.getElem_cons_succ]
    rw [e1]
    refine ⟨?_, ?_, ?_⟩
    · rw [List.getElem?_append_right (by simp)]; simpa using this.1
    · rw [List.getElem?_append_right (by simp)]; simpa using this.2.1
    · rw [List.getElem?_append_right (by simp)]; simpa using this.2.2
theorem f3_append (l m : List α) : f3 f g h (l ++ m) = f3 f g h l ++ f3 f g h m := by simp [f3]
theorem f3_one (hf : ∀ a, (f a).oneCell' = true ∧ (g a).oneCell' = true ∧ (h a).oneCell' = true) (l : List α) : ∀ u ∈ f3 f g h l, u.oneCell' = true := fun u hu => by
  unfold f3 at hu
  rw [List.mem_flatMap] at hu
  obtain ⟨a, _, hu⟩ := hu
  simp only [List.mem_cons, List.not_mem_nil, or_false] at hu
  rcases hu with rfl | rfl | rfl
  · exact (hf a).1
  · exact (hf a).2.1
  · exact (hf a).2.2
theorem f3_nil {l : List α} (hl : l ≠ []) : f3 f g h l ≠ [] := fun e => by
  have := f3_len f g h l
  rw [e] at this
  have := List.length_pos_iff.2 hl
  simp at *; omega
theorem f3_take (l : List α) (k : Nat) : f3 f g h (l.take k) = (f3 f g h l).take (k * 3) := by
  induction l generalizing k with
  | nil => simp [f3]
  | cons a l ih =>
    cases k with
    | zero => simp [f3]
    | succ k =>
      have := ih k
      unfold f3 at this ⊢
      rw [List.take_succ_cons, List.flatMap_cons, List.flatMap_cons, this, show (k + 1) * 3 = k * 3 + 1 + 1 + 1 by omega]
      simp
end
def vcl (l : List Val) : List Value := f3 (fun v => .int .i64 v.k) (fun v => .int .i64 v.n) (fun v => .string v.s) l
def ccl (l : List Col) : List Value := f3 (fun c => .string c.nm) (fun c => .int .i64 c.k) (fun c => .bool c.nl) l
theorem vcl_len (l : List Val) : (vcl l).length = l.length * 3 := f3_len ..
theorem ccl_len (l : List Col) : (ccl l).length = l.length * 3 := f3_len ..
theorem vcl_one (l : List Val) : ∀ u ∈ vcl l, u.oneCell' = true := f3_one _ _ _ (fun _ => ⟨rfl, rfl, rfl⟩) l
theorem ccl_one (l : List Col) : ∀ u ∈ ccl l, u.oneCell' = true := f3_one _ _ _ (fun _ => ⟨rfl, rfl, rfl⟩) l
theorem At.val {w : World} {g o : Nat} {l : List Val} (h : At w g o (vcl l)) (k : Nat) (hk : k < l.length) : w.cell? ⟨g, o + k * 3, none⟩ = some (.int .i64 l[k].k) ∧ w.cell? ⟨g, o + k * 3 + 1, none⟩ = some (.int .i64 l[k].n) ∧ w.cell? ⟨g, o + k * 3 + 2, none⟩ = some (.string l[k].s) := by
  obtain ⟨h0, h1, h2⟩ := f3_get (fun v : Val => Value.int .i64 v.k) (fun v => .int .i64 v.n) (fun v => .string v.s) l k hk
  exact ⟨h _ _ h0, by have := h _ _ h1; rwa [← Nat.add_assoc] at this, by have := h _ _ h2; rwa [← Nat.add_assoc] at this⟩
theorem At.col {w : World} {g o : Nat} {l : List Col} (h : At w g o (ccl l)) (k : Nat) (hk : k < l.length) : w.cell? ⟨g, o + k * 3, none⟩ = some (.string l[k].nm) ∧ w.cell? ⟨g, o + k * 3 + 1, none⟩ = some (.int .i64 l[k].k) ∧ w.cell? ⟨g, o + k * 3 + 2, none⟩ = some (.bool l[k].nl) := by
  obtain ⟨h0, h1, h2⟩ := f3_get (fun c : Col => Value.string c.nm) (fun c => .int .i64 c.k) (fun c => .bool c.nl) l k hk
  exact ⟨h _ _ h0, by have := h _ _ h1; rwa [← Nat.add_assoc] at this, by have := h _ _ h2; rwa [← Nat.add_assoc] at this⟩
theorem SL.col {w : World} {ao : Option Addr} {l : List Col} (h : SL w ao (ccl l)) {k : Nat} (hk : k < l.length) : ∃ g o, ao = some ⟨g, o, none⟩ ∧ At w g o (ccl l) := h (f3_nil _ _ _ (by rintro rfl; simp at hk))
theorem SL.val {w : World} {ao : Option Addr} {l : List Val} (h : SL w ao (vcl l)) {k : Nat} (hk : k < l.length) : ∃ g o, ao = some ⟨g, o, none⟩ ∧ At w g o (vcl l) := h (f3_nil _ _ _ (by rintro rfl; simp at hk))
theorem SL.takeC {w : World} {ao : Option Addr} {l : List Col} (h : SL w ao (ccl l)) (k : Nat) : SL w ao (ccl (l.take k)) := fun hc => by
  have e : ccl (l.take k) = (ccl l).take (k * 3) := f3_take ..
  rw [e] at hc ⊢
  obtain ⟨g, o, h1, h2⟩ := h (by rintro e; rw [e] at hc; simp at hc)
  refine ⟨g, o, h1, fun j u hu => h2 j u ?_⟩
  rw [List.getElem?_take] at hu
  split at hu
  · exact hu
  · simp at hu
abbrev tA (id ver : Int) (nm : ByteArray) (cv : Value) (key : Int) : Value := .agg #[.int .i64 id, .int .i64 ver, .string nm, cv, .int .i64 key]
end Go.Proofs.YtmfbhhloabkecaaGreatDoor.C
namespace Go.Proofs.YtmfbhhloabkecaaGreatDoor.C
open Go.RowKit Go
section
variable {P : Program} (w : World)
theorem run_append_keeps (base : Nat) (t ty e : TypeId) (i : TypeInfo) (z : Value) (size bytes : Nat) (ht : P.underlying t = some (.slice e)) (hi : P.info? e = some i) (hz : i.zero = some z)
    (hsize : i.size = size) (hby : i.bytes = bytes) (hzs : z.cells.size = size) (hsz : 0 < size)
    (v : Value) (n : Nat) (xs : List Value) (hown : w.ownsRow base e size v n xs)
    (a : Addr) (m c : Nat) (news : List Value) (hl : news.length = m * size) (hnews : ∀ j u, news[j]? = some u → w.cell? (a.add j) = some u) (h1 : ∀ u ∈ news, u.oneCell' = true)
    (h63 : n + m ≤ maxLen) (hbytes : (n + m) * bytes ≤ 140737488355328) (hbase : base ≤ w.heap.size) :
    ∃ v' w', (Builtin.append_ #[t, t] ty #[v, .slice (some a) m c]).run P w = .ok v' w' ∧ w'.ownsRow base e size v' (n + m) (xs ++ news) ∧ w.grownBy w' v.ownBlock ∧ (v'.ownBlock = v.ownBlock ∨ v'.ownBlock = some w.heap.size) ∧
      ∀ b j, b < w.heap.size → (v.ownBlock = some b → j < n * size) → w'.cell? ⟨b, j, none⟩ = w.cell? ⟨b, j, none⟩ := by
  obtain ⟨v', w', hr, h2, h3, _, h5⟩ := run_append_own_at (P := P) w base t ty e i z size bytes ht hi hz hsize hby hzs hsz v n xs hown a m c news hl hnews h1 h63 hbytes hbase
  refine ⟨v', w', hr, h2, h3, h5, fun b j hb hj => ?_⟩
  by_cases hvb : v.ownBlock = some b
  · rcases hown.2 with ⟨rfl, rfl⟩ | ⟨g, cap, cur, rfl, hbg, hg, hnc, hcm, hcs, htake⟩
    · cases hvb
    · have hgb : g = b := by simpa [Value.ownBlock] using hvb
      subst hgb
      have hj' := hj hvb
      by_cases hroom : n + m ≤ cap
      · have hfit : n * i.size + news.length ≤ cur.size := by rw [hl, hcs, hsize, ← Nat.add_mul]; exact Nat.mul_le_mul_right _ hroom
        have hr2 := run_append_room (P := P) w t ty e i ht hi g n cap cur hg a m c news (by rw [hsize]; exact hl) hnews h1 hroom hfit
        rw [hr] at hr2
        simp only [Result.ok.injEq] at hr2
        obtain ⟨rfl, rfl⟩ := hr2
        rw [h2.cellAt j (by rw [Nat.add_mul]; omega), hown.cellAt j hj', List.getElem?_append_left (by rw [hown.1]; exact hj')]
      · have holds : ∀ j u, xs[j]? = some u → w.cell? ((⟨g, 0, none⟩ : Addr).add j) = some u := hown.cells (g := g) rfl
        have hr2 := run_append_grow (P := P) w t ty e i z ht hi hz ⟨g, 0, none⟩ n cap xs (by rw [hsize]; exact hown.1) holds a m c news (by rw [hsize]; exact hl) hnews (by omega) (by simp only [maxLen] at h63; omega) (by rw [hby]; exact growslice_fits (by omega) hbytes)
        rw [hr] at hr2
        simp only [Result.ok.injEq] at hr2
        obtain ⟨_, rfl⟩ := hr2
        exact World.cell?_of_block (heap_alloc_old w.drew _ hb)
  · exact World.cell?_of_block (h3.block b hb (fun e => hvb e.symm))
end
theorem wpList_append_keeps {P : Program} (w : World) {ops : Array Oper} {rest : List Oper} {o : Oper} {a : Act} {Q : Exit → Act → World → Prop} (hgd : o.guard = none) (s x : Operand) (t : TypeId)
    (ho : o.op = .call { callee := .builtin .append, args := #[s, x], argTypes := #[t, t] })
    (base : Nat) (e : TypeId) (i : TypeInfo) (z : Value) (size bytes : Nat) (ht : P.underlying t = some (.slice e)) (hi : P.info? e = some i) (hz : i.zero = some z)
    (hsize : i.size = size) (hby : i.bytes = bytes) (hzs : z.cells.size = size) (hsz : 0 < size)
    (v : Value) (n : Nat) (xs : List Value) (hs : a.eval s = v) (hown : w.ownsRow base e size v n xs)
    (ad : Addr) (m c : Nat) (news : List Value) (hx : a.eval x = .slice (some ad) m c) (hl : news.length = m * size) (hnews : ∀ j u, news[j]? = some u → w.cell? (ad.add j) = some u) (h1 : ∀ u ∈ news, u.oneCell' = true)
    (h63 : n + m ≤ maxLen) (hbytes : (n + m) * bytes ≤ 140737488355328) (hbase : base ≤ w.heap.size)
    (h : ∀ v' w', w'.ownsRow base e size v' (n + m) (xs ++ news) → w.grownBy w' v.ownBlock → (v'.ownBlock = v.ownBlock ∨ v'.ownBlock = some w.heap.size) → (∀ b j, b < w.heap.size → (v.ownBlock = some b → j < n * size) → w'.cell? ⟨b, j, none⟩ = w.cell? ⟨b, j, none⟩) → wpList P ops Q rest (a.put o.dst v') w') :
    wpList P ops Q (o :: rest) a w := by
  refine wpList_plain hgd fun K hK => ?_
  obtain ⟨v', w', hr, h2, h3, h4, h5⟩ := run_append_keeps (P := P) w base t o.type e i z size bytes ht hi hz hsize hby hzs hsz v n xs hown ad m c news hl hnews h1 h63 hbytes hbase
  unfold Oper.wp execOp
  simp only [ho, resolve, invoke, builtin, Sem.run_bind, Sem.run_pure, Result.andThen_ok, List.map_toArray, List.map_cons, List.map_nil, hs, hx, hr]
  exact hK _ _ (h v' w' h2 h3 h4 h5)
end Go.Proofs.YtmfbhhloabkecaaGreatDoor.C
namespace Go.Proofs.YtmfbhhloabkecaaGreatDoor.C
open Go.RowKit
theorem blk_lt {w : World} {b : Nat} {o : Obj} (h : w.heap[b]? = some o) : b < w.heap.size := (Array.getElem?_eq_some_iff.1 h).1
theorem blk_cell {w : World} {b : Nat} {cs : Array Value} {t : TypeId} {fr : Nat × Nat} (h : w.heap[b]? = some (.cells cs t fr)) (i : Nat) : w.cell? ⟨b, i, none⟩ = cs[i]? := by
  simp [World.cell?, h]
theorem blk_frozen {w : World} {b : Nat} {cs : Array Value} {t : TypeId} (h : w.heap[b]? = some (.cells cs t (0, 0))) (i : Nat) : w.frozen? ⟨b, i, none⟩ = false := by
  simp [World.frozen?, h]
theorem blk_set {w : World} {b i : Nat} {cs : Array Value} {t : TypeId} {fr : Nat × Nat} (h : w.heap[b]? = some (.cells cs t fr)) (v : Value) : (w.setCell ⟨b, i, none⟩ v).heap[b]? = some (.cells (cs.setIfInBounds i v) t fr) := by
  have hl := blk_lt h
  simp only [World.setCell]
  rw [Array.getElem?_modify]
  simp [h]
theorem alloc_new (w : World) (o : Obj) : (w.alloc o).heap[w.heap.size]? = some o := by show (w.heap.push o)[w.heap.size]? = _; simp
theorem row_slice {w : World} {base : Nat} {t : TypeId} {sz n : Nat} {v : Value} {xs : List Value} (h : w.ownsRow base t sz v n xs) : ∃ ao c, v = .slice ao n c := by
  rcases h.2 with ⟨h1, h2⟩ | ⟨g, c, cur, h1, _⟩
  · exact ⟨none, 0, by rw [h1, h2]⟩
  · exact ⟨_, c, h1⟩
theorem own_tch {S : Nat → Prop} {W W' : World} {base sz n : Nat} {t : TypeId} {v : Value} {xs : List Value} (h : W.ownsRow base t sz v n xs) (tc : Tch S W W') (hS : ∀ g, v.ownBlock = some g → ¬ S g) : W'.ownsRow base t sz v n xs := by
  obtain ⟨h1, h2⟩ := h
  refine ⟨h1, ?_⟩
  rcases h2 with h2 | ⟨g, c, cur, hv, hb, hh, hr⟩
  · exact Or.inl h2
  · exact Or.inr ⟨g, c, cur, hv, hb, by rw [tc.block g (blk_lt hh) (hS g (by rw [hv]; rfl))]; exact hh, hr⟩
theorem grown_at {W W1 w1 : World} {row : Option Nat} (t : Tch (fun _ => False) W W1) (h : W1.grownBy w1 row) : Tch (fun i => row = some i) W w1 :=
  (t.mono (fun _ _ h => h.elim)).trans' ⟨h.os, h.tape, h.output, h.size, fun k hk hn => h.block k hk (fun e => hn e.symm)⟩
theorem own_at {W : World} {base sz n : Nat} {t : TypeId} {ao : Option Addr} {c : Nat} {xs : List Value} (h : W.ownsRow base t sz (.slice ao n c) n xs) (hn : 0 < n) : ∃ g, ao = some ⟨g, 0, none⟩ ∧ g < W.heap.size ∧ At W g 0 xs := by
  rcases h.2 with ⟨_, h2⟩ | ⟨g, c', cur, hv, hb, hh, hc, hm, hs, ht⟩
  · omega
  · injection hv with h1
    subst h1
    refine ⟨g, rfl, blk_lt hh, fun j u hu => ?_⟩
    rw [Nat.zero_add, blk_cell hh, ← Array.getElem?_toList]
    rw [← ht, List.getElem?_take] at hu
    split at hu
    · exact hu
    · simp at hu
def rep (n : Nat) (cs : List Value) : List Value := (List.replicate n cs).flatten
theorem rep_len (n : Nat) (cs : List Value) : (rep n cs).length = n * cs.length := by simp [rep]
theorem rep_succ (n : Nat) (cs : List Value) : rep (n + 1) cs = rep n cs ++ cs := by
  unfold rep
  rw [List.replicate_succ', List.flatten_append]; simp
theorem rep_get (cs : List Value) : ∀ (n q j : Nat), q < n → j < cs.length → (rep n cs)[q * cs.length + j]? = cs[j]?
  | 0, q, j, h, _ => by omega
  | n + 1, q, j, h, hj => by
    rw [rep_succ]
    rcases Nat.lt_or_ge q n with hq | hq
    · have h1 : q * cs.length + j < (rep n cs).length := by
        rw [rep_len]
        have : (q + 1) * cs.length ≤ n * cs.length := Nat.mul_le_mul_right _ hq
        rw [Nat.add_mul] at this
        omega
      rw [List.getElem?_append_left h1]
      exact rep_get cs n q j hq hj
    · obtain rfl : q = n := by omega
      rw [List.getElem?_append_right (by rw [rep_len]; omega), rep_len]
      congr 1
      omega
end Go.Proofs.YtmfbhhloabkecaaGreatDoor.C
