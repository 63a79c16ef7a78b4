import Derived.Test.YtmegkmhcfehnkaaGreatDoorVRights
import Derived.Test.YtmegkmhcfehnkaaGreatDoorBarv
import Derived.Deep.AppendLies
import Derived.Deep.RegionHeld3
import Derived.Maps.AppendAt
import Derived.Lib.BufferMore
import Derived.BigQuiet
/- lent and asLent of the law: rows. -/
namespace Go.Proofs.YtmegkmhcfehnkaaGreatDoor
open Go.RowKit Go.Sort

theorem req_nil_no (ad : Addr) (n c : Nat) (w : World) : (binOp .eql 31 (.slice (some ad) n c) (.slice none 0 0)).run Tryz.prog w = .ok (.bool false) w := Lib.run_eql_slice_some_nil w ad n c Tryz.underlying31
theorem req_nil_yes (w : World) : (binOp .eql 31 (.slice none 0 0) (.slice none 0 0)).run Tryz.prog w = .ok (.bool true) w := Lib.run_eql_slice_nil_nil w 0 0 Tryz.underlying31
/-- An append onto a slice of one's own at a step of a region that draws its order. -/
theorem step_append_own_at {P : Program} (w : World) {ops : Array Oper} {o : Oper} {a : Act} {K : Act → World → Prop} {Q : Exit → Act → World → Prop} {E : Prop} (hgd : o.guard = none) (s x : Operand) (t : TypeId)
    (ho : o.op = .call { callee := .builtin .append, args := #[s, x], argTypes := #[t, t] })
    (base : Nat) (e : TypeId) (i : TypeInfo) (z : Value) (size bytes : Nat) (ht : P.underlying t = some (.slice e)) (hi : P.info? e = some i) (hz : i.zero = some z)
    (hsize : i.size = size) (hby : i.bytes = bytes) (hzs : z.cells.size = size) (hsz : 0 < size)
    (v : Value) (n : Nat) (xs : List Value) (hs : a.eval s = v) (hown : w.ownsRow base e size v n xs)
    (ad : Addr) (m c : Nat) (news : List Value) (hx : a.eval x = .slice (some ad) m c) (hl : news.length = m * size) (hnews : ∀ j u, news[j]? = some u → w.cell? (ad.add j) = some u) (h1 : ∀ u ∈ news, u.oneCell' = true)
    (h63 : n + m ≤ maxLen) (hbytes : (n + m) * bytes ≤ 140737488355328) (hbase : base ≤ w.heap.size)
    (h : ∀ v' w', w'.ownsRow base e size v' (n + m) (xs ++ news) → w.grownBy w' v.ownBlock → (v' = .slice none 0 0 ↔ v = .slice none 0 0 ∧ m = 0) → (v'.ownBlock = v.ownBlock ∨ v'.ownBlock = some w.heap.size) → K (a.put o.dst v') w') :
    if Region.wanted o (yielded ops a.tmps) = true then Oper.wp P o a w K Q else E := by
  have hw : Region.wanted o (yielded ops a.tmps) = true := by simp [Region.wanted, hgd]
  rw [if_pos hw]
  obtain ⟨v', w', hr, h2, h3, h4, h5⟩ := run_append_own_at (P := P) w base t o.type e i z size bytes ht hi hz hsize hby hzs hsz v n xs hown ad m c news hl hnews h1 h63 hbytes hbase
  unfold Oper.wp execOp
  simp only [ho, resolve, invoke, builtin, Sem.run_bind, Sem.run_pure, Result.andThen_ok, List.map_toArray, List.map_cons, List.map_nil, hs, hx, hr]
  exact h v' w' h2 h3 h4 h5
theorem grown_tch2 {b : Nat} {w w' : World} {row : Option Nat} (h : w.grownBy w' row) (hr : ∀ g, row = some g → b ≤ g) : Tch (fun i => b ≤ i) w w' :=
  ⟨h.os, h.tape, h.output, h.size, fun k hk hn => h.block k hk (fun e => hn (hr k e.symm))⟩

theorem alloc_new (w : World) (o : Obj) : (w.alloc o).heap[w.heap.size]? = some o := by show (w.heap.push o)[w.heap.size]? = _; simp
theorem own_cap3 {w : World} {base : Nat} {t : TypeId} {g n cap : Nat} {xs : List Value} (h : w.ownsRow base t 3 (.slice (some ⟨g, 0, none⟩) n cap) n xs) : base ≤ g ∧ n ≤ cap ∧ ∃ cur, w.heap[g]? = some (.cells cur t (0, 0)) ∧ cur.size = cap * 3 ∧ cur.toList.take (n * 3) = xs := by
  rcases h.2 with ⟨h1, _⟩ | ⟨g', cap', cur, h1, h2, h3, h4, h5, h6, h7⟩
  · cases h1
  · simp only [Value.slice.injEq, Option.some.injEq, Addr.mk.injEq] at h1
    obtain ⟨⟨rfl, _⟩, _, rfl⟩ := h1
    exact ⟨h2, h4, cur, h3, h6, h7⟩
def markV : Val := ⟨-7, 0, ⟨#[]⟩⟩
def markX : Obj := .cells #[.int .i64 (-7), .int .i64 0, .string ⟨#[]⟩, .int .i64 (-7), .int .i64 0, .string ⟨#[]⟩, .int .i64 (-7), .int .i64 0, .string ⟨#[]⟩, .int .i64 (-7), .int .i64 0, .string ⟨#[]⟩] 23
theorem mark_news (W : World) : ∀ j u, (rcl [markV, markV, markV, markV])[j]? = some u → (W.alloc markX).cell? ((⟨W.heap.size, 0, none⟩ : Addr).add j) = some u := World.news_of_block (alloc_new W markX)
theorem mark_news2 (W W' : World) (h : (W.alloc markX).drew.grownBy W' none) : ∀ j u, (rcl [markV, markV, markV, markV])[j]? = some u → W'.cell? ((⟨W.heap.size, 0, none⟩ : Addr).add j) = some u :=
  World.news_of_block (w := W') (B := W.heap.size) (by rw [h.block W.heap.size (by simp) (by simp)]; exact alloc_new W markX)
def lentV (l : List Val) : List Val := l ++ [markV, markV, markV, markV]
theorem lentV_len (l : List Val) : (lentV l).length = l.length + 4 := by simp [lentV]
theorem lentV_lt (l : List Val) (k : Nat) (hk : k < l.length) (h : k < (lentV l).length) : (lentV l)[k] = l[k] := by simp [lentV, hk]
theorem lentV_ge (l : List Val) (k : Nat) (hk : ¬ k < l.length) (h : k < (lentV l).length) : (lentV l)[k] = markV := by
  unfold lentV at h ⊢
  rw [List.getElem_append_right (by omega)]
  have hk4 : k - l.length < 4 := by simp at h; omega
  have : ∀ m, (hm : m < 4) → ([markV, markV, markV, markV] : List Val)[m]'(by simpa using hm) = markV := by
    intro m hm
    obtain rfl | rfl | rfl | rfl : m = 0 ∨ m = 1 ∨ m = 2 ∨ m = 3 := by omega
    all_goals rfl
  exact this _ hk4
end Go.Proofs.YtmegkmhcfehnkaaGreatDoor
