/- XactKeeps: its state in the world. -/
import Derived.Test.YtkokmgoplldcfaaXKeep0
import Derived.Test.YtkokmgoplldcfaaXArg
namespace Go.Proofs.Ytkokmgoplldcfaa
open Go.RowKit Go Go.Sort

/-- A snapshot that is kept, where its lists lie. -/
structure EW where
  e : Ent
  so : Option Addr
  sc : Nat
  ss : Option Addr
  sd : Nat
def bcl (l : List Bool) : List Value := l.map (fun x => Value.bool x)
theorem bcl_len (l : List Bool) : (bcl l).length = l.length := by simp [bcl]
theorem bcl_snoc (l : List Bool) (x : Bool) : bcl (l ++ [x]) = bcl l ++ [.bool x] := by simp [bcl]
def ecs (x : EW) : List Value := [.int .i64 x.e.mn, .int .i64 x.e.nx, .slice x.so x.e.on.length x.sc, .slice x.ss x.e.se.length x.sd, .int .i64 x.e.nx]
def ecl (E : List EW) : List Value := E.flatMap ecs
theorem ecl_len : ∀ l : List EW, (ecl l).length = l.length * 5
  | [] => rfl
  | a :: l => by
    have := ecl_len l
    unfold ecl at this ⊢
    simp only [List.flatMap_cons, List.length_append, ecs, List.length_cons, List.length_nil, this]; omega
theorem ecl_snoc (l : List EW) (x : EW) : ecl (l ++ [x]) = ecl l ++ ecs x := by simp [ecl]
theorem ecl_get : ∀ (l : List EW) (k : Nat) (x : EW), l[k]? = some x → ∀ j u, (ecs x)[j]? = some u → (ecl l)[k * 5 + j]? = some u
  | [], k, x, hk => by simp at hk
  | a :: l, 0, x, hk => by
    simp only [List.getElem?_cons_zero, Option.some.injEq] at hk
    subst hk
    intro j u hu
    unfold ecl
    simp only [List.flatMap_cons, Nat.zero_mul, Nat.zero_add]
    rw [List.getElem?_append_left (List.getElem?_eq_some_iff.1 hu).1]; exact hu
  | a :: l, k + 1, x, hk => by
    have ih := ecl_get l k x (by simpa using hk)
    intro j u hu
    have h := ih j u hu
    unfold ecl at h ⊢
    simp only [List.flatMap_cons]
    rw [show (k + 1) * 5 + j = k * 5 + j + 5 by omega, List.getElem?_append_right (by simp [ecs])]
    simpa [ecs] using h
theorem ecs_one (x : EW) : ∀ u ∈ ecs x, u.oneCell' = true := fun u hu => by
  simp only [ecs, List.mem_cons, List.not_mem_nil, or_false] at hu
  rcases hu with rfl | rfl | rfl | rfl | rfl <;> rfl
def gcells (g : Nat → Bool) : List Value := (List.range 400).map (fun j => Value.bool (g j))
theorem gcells_len (g : Nat → Bool) : (gcells g).length = 400 := by simp [gcells]
theorem gcells_at (g : Nat → Bool) {j : Nat} (hj : j < 400) : (gcells g)[j]? = some (.bool (g j)) := by simp [gcells, List.getElem?_range hj]
theorem gcells_set (g : Nat → Bool) (k : Nat) (v : Bool) : (gcells g).set k (.bool v) = gcells (fun j => if j = k then v else g j) := by
  apply List.ext_getElem?
  intro j
  by_cases hj : j < 400
  · by_cases hk : k = j
    · subst hk
      rw [List.getElem?_set_self (by rw [gcells_len]; exact hj), gcells_at _ hj]
      simp
    · rw [List.getElem?_set_ne hk, gcells_at _ hj, gcells_at _ hj, if_neg (fun e => hk e.symm)]
  · rw [List.getElem?_eq_none (by rw [List.length_set, gcells_len]; omega), List.getElem?_eq_none (by rw [gcells_len]; omega)]
theorem gcells_congr {g h : Nat → Bool} (e : ∀ j, g j = h j) : gcells g = gcells h := by
  unfold gcells
  exact List.map_congr_left (fun j _ => by rw [e])
/-- Which are gone. -/
def gOf (m : Mg) (j : Nat) : Bool := decide (1 ≤ j ∧ j < m.nx ∧ m.state j = 4)

structure RW (w : World) (F : Nat → Prop) (x : EW) : Prop where
  o : w.ownsRow 0 3 1 (.slice x.so x.e.on.length x.sc) x.e.on.length (icl x.e.on)
  oF : ∀ g, (Value.slice x.so x.e.on.length x.sc).ownBlock = some g → F g
  s : w.ownsRow 0 4 1 (.slice x.ss x.e.se.length x.sd) x.e.se.length (bcl x.e.se)
  sF : ∀ g, (Value.slice x.ss x.e.se.length x.sd).ownBlock = some g → F g
theorem RW.kept {w w' : World} {F : Nat → Prop} {x : EW} (h : RW w F x) (k : Kept F w w') : RW w' F x :=
  ⟨own_tch h.o k (fun g hg hn => hn (h.oF g hg)), h.oF, own_tch h.s k (fun g hg hn => hn (h.sF g hg)), h.sF⟩
theorem RW.mono {w : World} {F F' : Nat → Prop} {x : EW} (h : RW w F x) (hF : ∀ i, F i → F' i) : RW w F' x := ⟨h.o, fun g hg => hF g (h.oF g hg), h.s, fun g hg => hF g (h.sF g hg)⟩

/-- The state of the law. -/
structure LW (w : World) (N b G : Nat) (wr : World) (kv : Value) (g : Nat → Bool) (m : Mg) (E : List EW) (F : Nat → Prop) : Prop where
  mf : MF wr b m F
  all : All m
  lo : ∀ i, i < N → F i
  fg : F G
  ga : wr.heap[G]? = some (.cells (gcells g).toArray 4 (0, 0))
  row : wr.ownsRow 0 47 5 kv E.length (ecl E)
  rowF : ∀ i, kv.ownBlock = some i → F i
  rn : ∀ i, kv.ownBlock = some i → N ≤ i
  ent : ∀ x ∈ E, RW wr F x
  ok : ∀ x ∈ E, EntOK m x.e
  sg : ∀ x ∈ E, ∀ g, (Value.slice x.ss x.e.se.length x.sd).ownBlock = some g → g ≠ G
  t : Tch (fun _ => False) w wr
theorem LW.step {w wr w' : World} {N b G : Nat} {kv : Value} {g : Nat → Bool} {m m' : Mg} {E : List EW} {F : Nat → Prop} (h : LW w N b G wr kv g m E F) (hN : N = w.heap.size) (hm : MF w' b m' F) (k : Kept F wr w') (s : St m m') : LW w N b G w' kv g m' E F := by
  refine ⟨hm, s.all h.all, h.lo, h.fg, ?_, own_tch h.row k (fun i hi hn => hn (h.rowF i hi)), h.rowF, h.rn, fun x hx => (h.ent x hx).kept k, fun x hx => s.ent h.mf.wf hm.wf h.all (h.ok x hx), h.sg, h.t.trans k (fun i hi hn => hn (h.lo i (by omega)))⟩
  rw [k.block G (blk_lt h.ga) (fun hn => hn h.fg)]; exact h.ga
theorem LW.no {w wr w' : World} {N b G : Nat} {kv : Value} {g : Nat → Bool} {m : Mg} {E : List EW} {F : Nat → Prop} (h : LW w N b G wr kv g m E F) (hN : N = w.heap.size) (t : Tch (fun _ => False) wr w') : LW w N b G w' kv g m E F :=
  h.step hN (h.mf.no t) (kept_of t) (St.refl m)
theorem LW.gone {w wr : World} {N b G : Nat} {kv : Value} {g : Nat → Bool} {m : Mg} {E : List EW} {F : Nat → Prop} (h : LW w N b G wr kv g m E F) (hN : N ≤ G) (hNw : N = w.heap.size) (j : Nat) (v : Bool) : LW w N b G (wr.setCell ⟨G, j, none⟩ (.bool v)) kv (fun i => if i = j then v else g i) m E F := by
  have t : Tch (fun i => i = G) wr (wr.setCell ⟨G, j, none⟩ (.bool v)) := Tch.setCell _ _ _ _ rfl
  refine ⟨h.mf.tch t (fun i _ e => by rw [e]; exact h.fg), h.all, h.lo, h.fg, ?_, own_tch h.row t (fun i hi e => ?_), h.rowF, h.rn, fun x hx => ⟨own_tch (h.ent x hx).o t (fun i hi e => ?_), (h.ent x hx).oF, own_tch (h.ent x hx).s t (fun i hi e => h.sg x hx i hi e), (h.ent x hx).sF⟩, h.ok, h.sg, h.t.trans t (fun i hi e => by omega)⟩
  · rw [blk_set h.ga]
    have := gcells_set g j v
    rw [← this]
    simp
  · obtain ⟨cur, hc⟩ := own_blk h.row hi
    rw [e, h.ga] at hc; cases hc
  · obtain ⟨cur, hc⟩ := own_blk (h.ent x hx).o hi
    rw [e, h.ga] at hc; cases hc
theorem LW.g {w wr : World} {N b G : Nat} {kv : Value} {g g' : Nat → Bool} {m : Mg} {E : List EW} {F : Nat → Prop} (h : LW w N b G wr kv g m E F) (e : ∀ j, g j = g' j) : LW w N b G wr kv g' m E F := by
  rw [show g' = g from funext (fun j => (e j).symm)]; exact h
/-- What is there of a kept snapshot. -/
theorem LW.at {w wr : World} {N b G : Nat} {kv : Value} {g : Nat → Bool} {m : Mg} {E : List EW} {F : Nat → Prop} (h : LW w N b G wr kv g m E F) {a : Nat} {x : EW} (ha : E[a]? = some x) : ∃ kg kc, kv = .slice (some ⟨kg, 0, none⟩) E.length kc ∧ wr.cell? ⟨kg, a * 5, none⟩ = some (.int .i64 x.e.mn) ∧ wr.cell? ⟨kg, a * 5 + 1, none⟩ = some (.int .i64 x.e.nx) ∧ wr.cell? ⟨kg, a * 5 + 2, none⟩ = some (.slice x.so x.e.on.length x.sc) ∧ wr.cell? ⟨kg, a * 5 + 3, none⟩ = some (.slice x.ss x.e.se.length x.sd) ∧ wr.cell? ⟨kg, a * 5 + 4, none⟩ = some (.int .i64 x.e.nx) := by
  have hl := (List.getElem?_eq_some_iff.1 ha).1
  rcases h.row.2 with ⟨_, h0⟩ | ⟨kg, kc, cur, hv, _, hg, _, _, hs, ht⟩
  · omega
  · have hc : ∀ j u, (ecl E)[j]? = some u → wr.cell? ⟨kg, j, none⟩ = some u := fun j u hu => by
      have h9 := h.row.cells (g := kg) (by rw [hv]; rfl) j u hu
      rw [add_plain, Nat.zero_add] at h9
      exact h9
    have hx := ecl_get E a x ha
    exact ⟨kg, kc, hv, hc _ _ (by have := hx 0 _ rfl; simpa using this), hc _ _ (hx 1 _ rfl), hc _ _ (hx 2 _ rfl), hc _ _ (hx 3 _ rfl), hc _ _ (hx 4 _ rfl)⟩
/-- What it saw. -/
theorem RW.saw {w : World} {F : Nat → Prop} {x : EW} (h : RW w F x) {j : Nat} (hj : j < x.e.se.length) : ∃ sg, x.ss = some ⟨sg, 0, none⟩ ∧ w.cell? ⟨sg, j, none⟩ = some (.bool (x.e.se.getD j false)) := by
  rcases h.s.2 with ⟨_, h0⟩ | ⟨sg, kc, cur, hv, _, hg, _, _, hs, ht⟩
  · omega
  · injection hv with hv
    refine ⟨sg, hv, ?_⟩
    have h9 := h.s.cells (g := sg) (by rw [hv]; rfl) j (.bool (x.e.se.getD j false)) (by simp [bcl, List.getElem?_eq_getElem hj])
    rw [add_plain, Nat.zero_add] at h9
    exact h9
theorem RW.ir {w : World} {F : Nat → Prop} {x : EW} (h : RW w F x) : IR w x.so (ints x.e.on) := IR.of_own h.o
end Go.Proofs.Ytkokmgoplldcfaa
