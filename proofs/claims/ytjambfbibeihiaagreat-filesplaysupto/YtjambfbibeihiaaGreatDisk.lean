import Derived.Test.YtjambfbibeihiaaGreatPure
import Derived.Test.YtjambfbibeihiaaGreatProg
import Derived.WalkKit
import Derived.WalkSpells
import Derived.WalkLawsBesides
import Derived.Deep.DeepMust
import Derived.Outline
import Derived.Deep.QuietTactic
import Derived.BigQuiet
import Derived.Lib.Strings
import Derived.Lib.BufferRead
import Derived.Lib.BufferMore
import Derived.Defers
import Derived.Laws.Rows
import Derived.Maps.RangeWalk
import Derived.Maps.AppendAt
/- What a call may turn ('Tch'); a file and a disk of package files in memory ('FB', 'DW', 'DK'). -/
namespace Go.Proofs.YtjambfbibeihiaaGreat
set_option maxRecDepth 100000
open Go.RowKit Go.ChangeMaps
open Go.Maps (Keyed)

structure Tch (S : Nat → Prop) (w w' : World) : Prop where
  os : w'.os = w.os
  tape : w'.tape = w.tape
  output : w'.output = w.output
  size : w.heap.size ≤ w'.heap.size
  block : ∀ k, k < w.heap.size → ¬ S k → w'.heap[k]? = w.heap[k]?

theorem Tch.refl (S : Nat → Prop) (w : World) : Tch S w w := ⟨rfl, rfl, rfl, Nat.le_refl _, fun _ _ _ => rfl⟩
theorem Tch.trans {S T : Nat → Prop} {a b c : World} (h : Tch S a b) (k : Tch T b c) (hT : ∀ i, i < a.heap.size → T i → S i) : Tch S a c :=
  ⟨k.os.trans h.os, k.tape.trans h.tape, k.output.trans h.output, Nat.le_trans h.size k.size,
    fun i hi hn => (k.block i (Nat.lt_of_lt_of_le hi h.size) (fun ht => hn (hT i hi ht))).trans (h.block i hi hn)⟩
theorem Tch.trans' {S : Nat → Prop} {a b c : World} (h : Tch S a b) (k : Tch S b c) : Tch S a c := h.trans k (fun _ _ h => h)
theorem Tch.mono {S T : Nat → Prop} {a b : World} (h : Tch S a b) (hT : ∀ i, i < a.heap.size → S i → T i) : Tch T a b :=
  ⟨h.os, h.tape, h.output, h.size, fun i hi hn => h.block i hi (fun hs => hn (hT i hi hs))⟩
theorem Tch.drew {S : Nat → Prop} {a b : World} (h : Tch S a b) : Tch S a b.drew := ⟨h.os, h.tape, h.output, h.size, h.block⟩
theorem Tch.drewL {S : Nat → Prop} {a b : World} (h : Tch S a b) : Tch S a.drew b := ⟨h.os, h.tape, h.output, h.size, h.block⟩
theorem Tch.of_drew {S : Nat → Prop} {a b : World} (h : Tch S a.drew b) : Tch S a b := ⟨h.os, h.tape, h.output, h.size, h.block⟩
theorem Tch.drewN {S : Nat → Prop} {a b : World} (h : Tch S a b) (n : Nat) : Tch S a (b.drewN n) := by
  have hb : Below b.heap.size b (b.drewN n) := below_drewN (Below.refl _ _) n
  exact ⟨hb.os.trans h.os, hb.tape.trans h.tape, hb.output.trans h.output, Nat.le_trans h.size hb.size, fun i hi hn => (hb.block i (Nat.lt_of_lt_of_le hi h.size)).trans (h.block i hi hn)⟩
theorem Tch.of_below {S : Nat → Prop} {B : Nat} {a b : World} (h : Below B a b) (hB : a.heap.size ≤ B) : Tch S a b := ⟨h.os, h.tape, h.output, h.size, fun i hi _ => h.block i (by omega)⟩
theorem Tch.below {S : Nat → Prop} {B : Nat} {a b : World} (h : Tch S a b) (hB : B ≤ a.heap.size) (hS : ∀ k, k < B → ¬ S k) : Below B a b :=
  ⟨h.os, h.tape, h.output, h.size, fun i hi => h.block i (by omega) (hS i hi)⟩
theorem Tch.setCell (S : Nat → Prop) (w : World) (p : Addr) (v : Value) (hp : S p.block) : Tch S w (w.setCell p v) :=
  ⟨rfl, rfl, rfl, by simp [World.setCell], fun k _ hn => Below.heap_setCell _ _ _ _ (fun e => hn (e ▸ hp))⟩
theorem Tch.alloc (S : Nat → Prop) (w : World) (o : Obj) : Tch S w (w.alloc o) :=
  ⟨rfl, rfl, rfl, by simp, fun k hk _ => Below.heap_alloc _ _ _ hk⟩
theorem Tch.allocR {S : Nat → Prop} {a b : World} (h : Tch S a b) (o : Obj) : Tch S a (b.alloc o) := h.trans' (Tch.alloc S b o)
theorem Tch.setCellR {S : Nat → Prop} {a b : World} (h : Tch S a b) (p : Addr) (v : Value) (hp : S p.block) : Tch S a (b.setCell p v) := h.trans' (Tch.setCell S b p v hp)
theorem Tch.cell {S : Nat → Prop} {w w' : World} (h : Tch S w w') {p : Addr} (hp : p.block < w.heap.size) (hn : ¬ S p.block) : w'.cell? p = w.cell? p := World.cell?_of_block (w := w) (h.block p.block hp hn)
theorem Tch.frozen {S : Nat → Prop} {w w' : World} (h : Tch S w w') {p : Addr} (hp : p.block < w.heap.size) (hn : ¬ S p.block) : w'.frozen? p = w.frozen? p := World.frozen?_of_block (w := w) (h.block p.block hp hn)
theorem Tch.of_grown {S : Nat → Prop} {w w' : World} {row : Option Nat} (h : w.grownBy w' row) (hS : ∀ g, row = some g → S g) : Tch S w w' :=
  ⟨h.os, h.tape, h.output, h.size, fun k hk hn => h.block k hk (fun e => hn (hS k e.symm))⟩

theorem blk_lt {w : World} {b : Nat} {o : Obj} (h : w.heap[b]? = some o) : b < w.heap.size := (Array.getElem?_eq_some_iff.1 h).1
theorem cell_lt {w : World} {p : Addr} {v : Value} (h : w.cell? p = some v) : p.block < w.heap.size := by
  rcases Nat.lt_or_ge p.block w.heap.size with h1 | h1
  · exact h1
  · simp [World.cell?, Array.getElem?_eq_none h1] at h
theorem blk_cell {w : World} {b : Nat} {cs : Array Value} {t : TypeId} {fr : Nat × Nat} (h : w.heap[b]? = some (.cells cs t fr)) (i : Nat) : w.cell? ⟨b, i, none⟩ = cs[i]? := by
  simp [World.cell?, h]
theorem blk_frozen {w : World} {b : Nat} {cs : Array Value} {t : TypeId} (h : w.heap[b]? = some (.cells cs t (0, 0))) (i : Nat) : w.frozen? ⟨b, i, none⟩ = false := by
  simp [World.frozen?, h]
theorem blk_set {w : World} {b i : Nat} {cs : Array Value} {t : TypeId} {fr : Nat × Nat} (h : w.heap[b]? = some (.cells cs t fr)) (v : Value) : (w.setCell ⟨b, i, none⟩ v).heap[b]? = some (.cells (cs.setIfInBounds i v) t fr) := by
  have hl := blk_lt h
  simp only [World.setCell]
  rw [Array.getElem?_modify]
  simp [h]

/-- How an element of the map reads: by its block. -/
def ptrElem (v : Value) : Option (DataW Unit × List MemPlace) :=
  match v with
  | .pointer none => some (.lit (.int .i64 (-1)), [])
  | .pointer (some a) => if a = ⟨a.block, 0, none⟩ then some (.lit (.int .i64 a.block), []) else none
  | _ => none
theorem ptrElem_some (b : Nat) : ptrElem (.pointer (some ⟨b, 0, none⟩)) = some (.lit (.int .i64 b), []) := by simp [ptrElem]
theorem ptrElem_none : ptrElem (.pointer none) = some (.lit (.int .i64 (-1)), []) := rfl
theorem ptrElem_inv {v : Value} {z : DataW Unit × List MemPlace} {b : Nat} (h : ptrElem v = some z) (hz : z.1 = .lit (.int .i64 b)) : v = .pointer (some ⟨b, 0, none⟩) := by
  unfold ptrElem at h
  split at h
  · cases h; simp at hz
  · split at h
    · rename_i a ha
      cases h
      simp only [DataW.lit.injEq, Lit.int.injEq, true_and] at hz
      have hz' : a.block = b := by omega
      rw [ha, hz']
    · cases h
  · cases h
theorem ptrElem_inv_none {v : Value} {z : DataW Unit × List MemPlace} (h : ptrElem v = some z) (hz : z.1 = .lit (.int .i64 (-1))) : v = .pointer none := by
  unfold ptrElem at h
  split at h
  · rfl
  · split at h
    · cases h; simp at hz
    · cases h
  · cases h

/-- The map of a disk, as a datum: each name's block. -/
def encD (gm : List (Nm × (Nat × Fl))) : DataW Unit := .map (gm.map fun p => (.string p.1, .lit (.int .i64 p.2.1)))
theorem enc_ins (x : Nm × (Nat × Fl)) : ∀ gm : List (Nm × (Nat × Fl)), DataW.insert ((.string x.1, .lit (.int .i64 x.2.1)) : Lit × DataW Unit) (gm.map fun p => (.string p.1, .lit (.int .i64 p.2.1))) = (insL x gm).map fun p => (.string p.1, .lit (.int .i64 p.2.1))
  | [] => rfl
  | z :: r => by
    unfold insL
    have ih := enc_ins x r
    by_cases hb : bytesBefore x.1 z.1 = true
    · rw [if_pos hb, List.map_cons, DataW.insert]
      exact if_pos hb
    · rw [if_neg hb, List.map_cons, List.map_cons, DataW.insert, ← ih]
      exact if_neg hb
theorem enc_del (n : Nm) (gm : List (Nm × (Nat × Fl))) : (gm.map fun p => ((.string p.1, .lit (.int .i64 p.2.1)) : Lit × DataW Unit)).filter (notKey (.string n)) = (delL n gm).map fun p => (.string p.1, .lit (.int .i64 p.2.1)) := by
  unfold delL
  rw [List.filter_map]
  congr 1
theorem encD_put (gm : List (Nm × (Nat × Fl))) (n : Nm) (a : Nat × Fl) : (encD gm).put (.string n) (.lit (.int .i64 a.1)) = encD (putL n a gm) := by
  unfold encD
  rw [DataW.put_eq, putKey, enc_del]
  congr 1
  exact enc_ins (n, a) _
theorem encD_del (gm : List (Nm × (Nat × Fl))) (n : Nm) : (encD gm).del (.string n) = encD (delL n gm) := by
  unfold encD
  rw [DataW.del_eq, delKey, enc_del]
theorem encD_at (n : Nm) (zd : DataW Unit) : ∀ gm : List (Nm × (Nat × Fl)), (encD gm).atKey (.string n) zd = match getL n gm with | some a => .lit (.int .i64 a.1) | none => zd
  | [] => rfl
  | z :: r => by
    have ih := encD_at n zd r
    unfold encD DataW.atKey getL at *
    simp only [List.map_cons, List.find?_cons, Lit.sameKey] at ih ⊢
    cases hz : (z.1 == n)
    · simp only []
      exact ih
    · simp
theorem encD_size (gm : List (Nm × (Nat × Fl))) : Maps.size (encD gm) = gm.length := by simp [encD, Maps.size]
theorem encD_has (n : Nm) (gm : List (Nm × (Nat × Fl))) : Maps.has (encD gm) (.string n) = (getL n gm).isSome := by
  cases h : getL n gm with
  | none =>
    have := getL_none h
    simp only [encD, Maps.has, Option.isSome_none]
    rw [List.any_eq_false]
    intro x hx
    obtain ⟨p, hp, rfl⟩ := List.mem_map.1 hx
    simpa [Lit.sameKey] using this p hp
  | some a =>
    simp only [encD, Maps.has, Option.isSome_some, List.any_eq_true]
    exact ⟨_, List.mem_map.2 ⟨_, getL_mem h, rfl⟩, by simp [Lit.sameKey]⟩

theorem law_str : Keyed Tryz.prog 9 := Maps.string_keyed Tryz.underlying9
theorem zero_ptr (w : World) : (zeroValue 73).run Tryz.prog w = .ok (.pointer none) w := by kernel_rfl

/-- A map's block holds no more than it reads as. -/
theorem owns_tight {H : Type} {P : Program} {k : TypeId} {R : Value → Option (DataW H × List MemPlace)} {w : World} {b n : Nat} {D : DataW H} (h : w.ownsMap P k R b n D) : w.ownsMap P k R b (Maps.size D) D := by
  obtain ⟨es, clock, hb, F, _, rfl⟩ := h
  exact ⟨es, clock, hb, F, by simp [Maps.size, length_sorted], rfl⟩
theorem ownsMap_tch {H : Type} {P : Program} {k : TypeId} {R : Value → Option (DataW H × List MemPlace)} {S : Nat → Prop} {w w' : World} {b n : Nat} {D : DataW H} (h : w.ownsMap P k R b n D) (t : Tch S w w') (hb : ¬ S b) : w'.ownsMap P k R b n D := by
  have hl := h.lt
  obtain ⟨es, clock, hh, r⟩ := h
  exact ⟨es, clock, (t.block b hl hb).trans hh, r⟩
theorem ownsRow_tch' {S : Nat → Prop} {w w' : World} {base : Nat} {t : TypeId} {n : Nat} {v : Value} {xs : List Value} (h : w.ownsRow base t 1 v n xs) (tc : Tch S w w') (hS : ∀ g, v.ownBlock = some g → ¬ S g) : w'.ownsRow base t 1 v n xs := by
  obtain ⟨h1, h2⟩ := h
  refine ⟨h1, ?_⟩
  rcases h2 with h2 | ⟨g, cap, cur, hv, hg, hh, r⟩
  · exact Or.inl h2
  · exact Or.inr ⟨g, cap, cur, hv, hg, by rw [tc.block g (blk_lt hh) (hS g (by rw [hv]; rfl))]; exact hh, r⟩

/-- A file at block fb. σ: whose each block is. -/
structure FB (w : World) (σ : Nat → Option Nat) (fb : Nat) (f : Fl) : Prop where
  lab : σ fb = some fb
  blk : ∃ v, w.heap[fb]? = some (.cells #[v, .int .i64 f.la] 76 (0, 0)) ∧ w.ownsRow 0 5 1 v f.bs.length (Lib.byteCells f.bs) ∧ ∀ g, v.ownBlock = some g → σ g = some fb
  le : f.la ≤ f.bs.length
theorem FB.lt {w : World} {σ : Nat → Option Nat} {fb : Nat} {f : Fl} (h : FB w σ fb f) : fb < w.heap.size := by
  obtain ⟨v, h1, _⟩ := h.blk
  exact blk_lt h1
theorem FB.tch {S : Nat → Prop} {w w' : World} {σ σ' : Nat → Option Nat} {fb : Nat} {f : Fl} (h : FB w σ fb f) (t : Tch S w w') (hS : ∀ i, i < w.heap.size → S i → σ i ≠ some fb) (hσ : ∀ i, i < w.heap.size → σ' i = σ i) : FB w' σ' fb f := by
  have hl := h.lt
  obtain ⟨v, h1, h2, h3⟩ := h.blk
  refine ⟨(hσ fb hl).trans h.lab, ⟨v, ?_, ?_, ?_⟩, h.le⟩
  · rw [t.block fb hl (fun hs => hS fb hl hs h.lab)]; exact h1
  · refine ownsRow_tch' h2 t (fun g hg hs => ?_)
    have hgl := (h2.lt g hg).2
    exact hS g hgl hs (h3 g hg)
  · intro g hg
    rw [hσ g (h2.lt g hg).2]; exact h3 g hg

/-- The cells of a disk. -/
def dcells (d : Dsk) (mb : Nat) : Array Value := #[.int .i64 d.cap, .int .i64 d.used, .map (some mb), .bool d.dead, .int .i64 d.die, .int .i64 d.fail]
/-- A disk at block b, its map's block, the blocks of its files. -/
structure DW (w : World) (b : Nat) (d : Dsk) (σ : Nat → Option Nat) (mb : Nat) (gm : List (Nm × (Nat × Fl))) : Prop where
  blk : w.heap[b]? = some (.cells (dcells d mb) 72 (0, 0))
  lb : σ b = some b
  lm : σ mb = some b
  m : d.m = mapL (·.2) gm
  own : w.ownsMap Tryz.prog 9 ptrElem mb gm.length (encD gm)
  fs : ∀ p ∈ gm, FB w σ p.2.1 p.2.2
  inj : ∀ p ∈ gm, ∀ q ∈ gm, p.2.1 = q.2.1 → p.1 = q.1
  room : d.used ≤ d.cap
  cap : d.cap ≤ 1000000000
  die : d.die ≤ 9223372036854775807
  fail : d.fail ≤ 9223372036854775807
  lt : ∀ i, σ i ≠ none → i < w.heap.size
def DK (w : World) (b : Nat) (d : Dsk) (σ : Nat → Option Nat) : Prop := ∃ mb gm, DW w b d σ mb gm

/-- From w and σ on, to w' and σ': none but the disk's own blocks are turned, none changes its owner. -/
structure Stp (w : World) (σ : Nat → Option Nat) (w' : World) (σ' : Nat → Option Nat) : Prop where
  tch : Tch (fun i => σ i ≠ none) w w'
  ext : ∀ i, i < w.heap.size → σ' i = σ i
theorem Stp.refl (w : World) (σ : Nat → Option Nat) : Stp w σ w σ := ⟨Tch.refl _ _, fun _ _ => rfl⟩
theorem Stp.trans {w w' w'' : World} {σ σ' σ'' : Nat → Option Nat} (h : Stp w σ w' σ') (k : Stp w' σ' w'' σ'') : Stp w σ w'' σ'' :=
  ⟨h.tch.trans k.tch (fun i hi hs => by rw [h.ext i hi] at hs; exact hs), fun i hi => (k.ext i (Nat.lt_of_lt_of_le hi h.tch.size)).trans (h.ext i hi)⟩
theorem Stp.of_no {w w' : World} {σ : Nat → Option Nat} (h : Tch (fun _ => False) w w') : Stp w σ w' σ := ⟨h.mono (fun _ _ h => h.elim), fun _ _ => rfl⟩

theorem DW.bl {w : World} {b : Nat} {d : Dsk} {σ : Nat → Option Nat} {mb : Nat} {gm : List (Nm × (Nat × Fl))} (h : DW w b d σ mb gm) : b < w.heap.size := blk_lt h.blk
theorem DW.ne {w : World} {b : Nat} {d : Dsk} {σ : Nat → Option Nat} {mb : Nat} {gm : List (Nm × (Nat × Fl))} (h : DW w b d σ mb gm) : mb ≠ b := by
  intro e
  obtain ⟨es, clock, hh, _⟩ := h.own
  rw [e, h.blk] at hh; cases hh
theorem DW.tch {S : Nat → Prop} {w w' : World} {b : Nat} {d : Dsk} {σ : Nat → Option Nat} {mb : Nat} {gm : List (Nm × (Nat × Fl))} (h : DW w b d σ mb gm) (t : Tch S w w') (hS : ∀ i, i < w.heap.size → S i → σ i = none) : DW w' b d σ mb gm := by
  have hb := h.bl
  have hm := h.own.lt
  refine ⟨?_, h.lb, h.lm, h.m, ?_, ?_, h.inj, h.room, h.cap, h.die, h.fail, fun i hi => Nat.lt_of_lt_of_le (h.lt i hi) t.size⟩
  · rw [t.block b hb (fun hs => by have := hS b hb hs; rw [h.lb] at this; cases this)]; exact h.blk
  · exact ownsMap_tch h.own t (fun hs => by have := hS mb hm hs; rw [h.lm] at this; cases this)
  · intro p hp
    exact (h.fs p hp).tch t (fun i hi hs => by rw [hS i hi hs]; exact fun h => by cases h) (fun _ _ => rfl)
theorem DK.tch {S : Nat → Prop} {w w' : World} {b : Nat} {d : Dsk} {σ : Nat → Option Nat} (h : DK w b d σ) (t : Tch S w w') (hS : ∀ i, i < w.heap.size → S i → σ i = none) : DK w' b d σ := by
  obtain ⟨mb, gm, h⟩ := h
  exact ⟨mb, gm, h.tch t hS⟩
theorem DK.no {w w' : World} {b : Nat} {d : Dsk} {σ : Nat → Option Nat} (h : DK w b d σ) (t : Tch (fun _ => False) w w') : DK w' b d σ := h.tch t (fun _ _ h => h.elim)
theorem DW.no {w w' : World} {b : Nat} {d : Dsk} {σ : Nat → Option Nat} {mb : Nat} {gm : List (Nm × (Nat × Fl))} (h : DW w b d σ mb gm) (t : Tch (fun _ => False) w w') : DW w' b d σ mb gm := h.tch t (fun _ _ h => h.elim)
theorem DW.apart {w : World} {b : Nat} {d : Dsk} {σ : Nat → Option Nat} {mb : Nat} {gm : List (Nm × (Nat × Fl))} (h : DW w b d σ mb gm) : Apart gm := by
  obtain ⟨es, he, hp, _⟩ := h.own.entries law_str
  unfold encD at he
  cases he
  rw [List.pairwise_map] at hp
  exact hp.imp (fun h e => h (by rw [e]))
theorem DW.used {w : World} {b : Nat} {d : Dsk} {σ : Nat → Option Nat} {mb : Nat} {gm : List (Nm × (Nat × Fl))} (h : DW w b d σ mb gm) : d.used = sumL (fun a => lenF a.2) gm := by
  unfold Dsk.used; rw [h.m, sumL_mapL]
theorem DW.get {w : World} {b : Nat} {d : Dsk} {σ : Nat → Option Nat} {mb : Nat} {gm : List (Nm × (Nat × Fl))} (h : DW w b d σ mb gm) (n : Nm) : getL n d.m = (getL n gm).map (·.2) := by
  rw [h.m, getL_mapL]

/-- The map's look-up. -/
theorem DW.look {w : World} {b : Nat} {d : Dsk} {σ : Nat → Option Nat} {mb : Nat} {gm : List (Nm × (Nat × Fl))} (h : DW w b d σ mb gm) {s : ByteArray} (hs : s.size ≤ maxLen) :
    (Instr.lookup 70 (.map (some mb)) (.string s) false).run Tryz.prog w = .ok (match getL s.data.toList gm with | some a => .pointer (some ⟨a.1, 0, none⟩) | none => .pointer none) w := by
  obtain ⟨v, ps, hrun, hv⟩ := h.own.lookup law_str Tryz.underlying70 (zero_ptr w) ptrElem_none (WideMaps.keyOf_string_mk Tryz.underlying9 hs)
  rw [hrun]
  rw [encD_at] at hv
  cases hg : getL s.data.toList gm with
  | none => rw [hg] at hv; rw [ptrElem_inv_none hv rfl]
  | some a => rw [hg] at hv; rw [ptrElem_inv hv rfl]
end Go.Proofs.YtjambfbibeihiaaGreat
