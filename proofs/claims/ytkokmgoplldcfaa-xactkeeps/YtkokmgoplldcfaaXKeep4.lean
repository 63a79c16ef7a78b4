/- XactKeeps: a snapshot is kept. -/
import Derived.Test.YtkokmgoplldcfaaXKeep3
namespace Go.Proofs.Ytkokmgoplldcfaa
open Go.RowKit Go Go.Sort

theorem info_saw : (Try.prog.info? 47).map (fun i => (i.zero, i.size, i.bytes)) = some (some (.agg #[.int .i64 0, .int .i64 0, .slice none 0 0, .slice none 0 0, .int .i64 0]), 5, 72) := by kernel_rfl
theorem MF.freshS {w w' : World} {b : Nat} {m : Mg} {F S : Nat → Prop} (h : MF w b m F) (t : Tch S w w') (hS : ∀ i, i < w.heap.size → S i → F i) : MF w' b m (fun i => F i ∨ w.heap.size ≤ i ∧ i < w'.heap.size) := by
  obtain ⟨σ, mb, bl, h, hF⟩ := h
  refine ⟨σ, mb, bl, h.tch t (fun i hi hs => (hF i (hS i hi hs)).1), fun i hi => ?_⟩
  rcases hi with hi | ⟨h1, h2⟩
  · exact ⟨(hF i hi).1, Nat.lt_of_lt_of_le (hF i hi).2 t.size⟩
  · refine ⟨?_, h2⟩
    cases hs : σ i with
    | none => rfl
    | some a => have := h.lt i (by rw [hs]; exact fun h => by cases h); omega
def seN (m : Mg) (i : Nat) : List Bool := (List.range i).map (fun j : Nat => m.sees (m.on.headD m.nx : Nat) m.nx (ints m.on) 0 j)
theorem seN_snoc (m : Mg) (i : Nat) : seN m (i + 1) = seN m i ++ [m.sees (m.on.headD m.nx : Nat) m.nx (ints m.on) 0 i] := by simp [seN, List.range_succ]
theorem seN_len (m : Mg) (i : Nat) : (seN m i).length = i := by simp [seN]
theorem KO.snap {w wv w9 w10 : World} {N b G k : Nat} {kv v' : Value} {m : Mg} {E : List EW} {F : Nat → Prop} (h : LW w N b G wv kv (gOf m) m E F) (hN : N = w.heap.size) (hE : E.length ≤ k)
    {so ss : Option Addr} {sc sd : Nat} (t9 : Tch (fun _ => False) wv w9) (ho : w9.ownsRow wv.heap.size 3 1 (.slice so m.on.length sc) m.on.length (icl m.on)) (hs : w9.ownsRow wv.heap.size 4 1 (.slice ss m.nx sd) m.nx (bcl (seN m m.nx)))
    (hr : w10.ownsRow 0 47 5 v' (E.length + 1) (ecl E ++ [.int .i64 (m.on.headD m.nx : Nat), .int .i64 m.nx, .slice so m.on.length sc, .slice ss m.nx sd, .int .i64 m.nx])) (hg : w9.grownBy w10 kv.ownBlock) (hv : v'.ownBlock = kv.ownBlock ∨ v'.ownBlock = some w9.heap.size) : KO w N b G w10 v' m k := by
  have t10 := grown_at (Tch.refl (fun _ => False) w9) hg
  have T : Tch (fun i => kv.ownBlock = some i) wv w10 := (t9.mono (fun _ _ h => h.elim)).trans t10 (fun _ _ h => h)
  have hkl : ∀ i, kv.ownBlock = some i → i < wv.heap.size := fun i hi => by
    obtain ⟨cur, hc⟩ := own_blk h.row hi
    exact blk_lt hc
  have hsz9 : wv.heap.size ≤ w9.heap.size := t9.size
  have hsz10 : w9.heap.size ≤ w10.heap.size := t10.size
  have hGw : G < wv.heap.size := blk_lt h.ga
  have hlen : ((⟨m.on.headD m.nx, m.nx, m.on, seN m m.nx⟩ : Ent)).se.length = m.nx := seN_len m m.nx
  refine ⟨m, E ++ [⟨⟨m.on.headD m.nx, m.nx, m.on, seN m m.nx⟩, so, sc, ss, sd⟩], fun i => F i ∨ wv.heap.size ≤ i ∧ i < w10.heap.size, ⟨h.mf.freshS T (fun i _ hi => h.rowF i hi), h.all, fun i hi => Or.inl (h.lo i hi), Or.inl h.fg, ?_, ?_, ?_, ?_, ?_, ?_, ?_, ?_⟩, St.refl m, Nat.le_succ _, by simp; omega⟩
  · rw [T.block G hGw (fun e => ?_)]; exact h.ga
    obtain ⟨cur, hc⟩ := own_blk h.row e
    rw [h.ga] at hc; cases hc
  · rw [ecl_snoc]
    simp only [List.length_append, List.length_cons, List.length_nil, ecs, hlen]
    exact hr
  · intro i hi
    rcases hv with e | e
    · rw [e] at hi; exact Or.inl (h.rowF i hi)
    · have hi' := hi
      rw [e] at hi'
      injection hi' with hi'
      obtain ⟨cur, hc⟩ := own_blk hr hi
      exact Or.inr ⟨by omega, blk_lt hc⟩
  · intro i hi
    rcases hv with e | e
    · rw [e] at hi; exact h.rn i hi
    · rw [e] at hi
      injection hi with hi
      have := h.t.size
      omega
  · intro x hx
    rcases List.mem_append.1 hx with hx | hx
    · have h0 := h.ent x hx
      refine ⟨own_tch h0.o T (fun g hg' e => ?_), fun g hg' => Or.inl (h0.oF g hg'), own_tch h0.s T (fun g hg' e => ?_), fun g hg' => Or.inl (h0.sF g hg')⟩
      · obtain ⟨c1, e1⟩ := own_blk h0.o hg'
        obtain ⟨c2, e2⟩ := own_blk h.row e
        rw [e1] at e2; cases e2
      · obtain ⟨c1, e1⟩ := own_blk h0.s hg'
        obtain ⟨c2, e2⟩ := own_blk h.row e
        rw [e1] at e2; cases e2
    · obtain rfl := List.mem_singleton.1 hx
      have f1 : ∀ (t : TypeId) (v : Value) (n : Nat) (xs : List Value), w9.ownsRow wv.heap.size t 1 v n xs → w10.ownsRow 0 t 1 v n xs ∧ ∀ g, v.ownBlock = some g → F g ∨ wv.heap.size ≤ g ∧ g < w10.heap.size := fun t v n xs hh => by
        refine ⟨own_low (own_tch hh t10 (fun g hg' e => by have := row_ge hh hg'; have := hkl g e; omega)) (Nat.zero_le _), fun g hg' => ?_⟩
        obtain ⟨c1, e1⟩ := own_blk hh hg'
        have := blk_lt e1
        exact Or.inr ⟨row_ge hh hg', by omega⟩
      refine ⟨(f1 _ _ _ _ ho).1, (f1 _ _ _ _ ho).2, ?_, ?_⟩
      · simp only [hlen]; exact (f1 _ _ _ _ hs).1
      · simp only [hlen]; exact (f1 _ _ _ _ hs).2
  · intro x hx
    rcases List.mem_append.1 hx with hx | hx
    · exact h.ok x hx
    · obtain rfl := List.mem_singleton.1 hx
      exact ent_new h.mf.wf hlen (fun j hj => by simp [seN, List.getElem?_range hj])
  · intro x hx g hg'
    rcases List.mem_append.1 hx with hx | hx
    · exact h.sg x hx g hg'
    · obtain rfl := List.mem_singleton.1 hx
      simp only [hlen] at hg'
      have := row_ge hs hg'
      omega
  · exact h.t.trans T (fun i hi e => by
      have := h.rn i e
      omega)
end Go.Proofs.Ytkokmgoplldcfaa
