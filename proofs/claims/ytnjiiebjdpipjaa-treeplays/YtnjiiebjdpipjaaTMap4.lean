import Derived.Test.YtnjiiebjdpipjaaTMap3
import Derived.Test.YtnjiiebjdpipjaaOrdv
/- The document's map: Delete. -/
namespace Go.Proofs.Ytnjiiebjdpipjaa
open Go.RowKit Go

/-- A row from which an element goes. -/
theorem del_row {P : Program} {W : World} (t e : TypeId) (i : TypeInfo) (ht : P.underlying t = some (.slice e)) (hi : P.info? e = some i) (hsize : i.size = 1) {g n c r : Nat} {xs : List Value} (h : W.ownsRow 0 e 1 (.slice (some ⟨g, 0, none⟩) n c) n xs) (h1 : ∀ u ∈ xs, u.oneCell' = true) (hr : r < n) :
    ∃ A : Addr, (if c = r + 1 then some (⟨g, 0, none⟩ : Addr) else some ⟨g, r + 1, none⟩) = some A ∧ ∀ W2, Tch (fun _ => False) W W2 → ∃ w', (Builtin.append_ #[t, t] t #[.slice (some ⟨g, 0, none⟩) r c, .slice (some A) (n - (r + 1)) (c - (r + 1))]).run P W2 = .ok (.slice (some ⟨g, 0, none⟩) (r + (n - (r + 1))) c) w' ∧
      w'.ownsRow 0 e 1 (.slice (some ⟨g, 0, none⟩) (r + (n - (r + 1))) c) (r + (n - (r + 1))) (xs.take r ++ xs.drop (r + 1)) ∧ Tch (fun i => i = g) W w' := by
  obtain ⟨A, hA, hS⟩ := src_tail h (r := r + 1) (by omega)
  refine ⟨A, hA, fun W2 t2 => ?_⟩
  have hl : xs.length = n := by have := h.1; omega
  have ho := own_tch h t2 (fun _ _ h => h)
  obtain ⟨g', cap, cur, e', _, hg, hnc, hcm, hcs, htk⟩ := own_open ho (by omega)
  injection e' with e1 _ e3
  injection e1 with e1
  injection e1 with e1
  subst e1
  subst e3
  have hnews : ∀ j u, (xs.drop (r + 1))[j]? = some u → W2.cell? (A.add j) = some u := by
    rcases hS.no t2 with ⟨e9, _⟩ | ⟨a, c', e9, hc⟩
    · cases e9
    · injection e9 with e9
      injection e9 with e9
      subst e9
      exact hc
  have hln : (xs.drop (r + 1)).length = n - (r + 1) := by rw [List.length_drop, hl]
  have hcl : cur.toList.length = c := by rw [Array.length_toList, hcs]; omega
  have hrun := run_append_room (P := P) W2 t t e i ht hi g r c cur hg A (n - (r + 1)) (c - (r + 1)) (xs.drop (r + 1)) (by rw [hsize, hln]; omega) hnews (fun u hu => h1 u (List.mem_of_mem_drop hu)) (by omega) (by rw [hsize, hln, hcs]; omega)
  refine ⟨_, hrun, ⟨by rw [List.length_append, List.length_take, hln, hl]; omega, .inr ⟨g, c, _, rfl, Nat.zero_le _, setRow_blk hg, by omega, hcm, ?_, ?_⟩⟩, (t2.mono (fun _ _ h => h.elim)).trans' (setRow_tch _ _ _)⟩
  · simp only [List.size_toArray, List.length_append, List.length_take, List.length_drop, hsize, hcl, hl]
    omega
  · have e5 : cur.toList.take (r * i.size) = xs.take r := by
      rw [hsize, Nat.mul_one, ← htk, List.take_take, Nat.mul_one, Nat.min_eq_left (by omega)]
    rw [e5, Nat.mul_one]
    show (((xs.take r ++ xs.drop (r + 1)) ++ _)).take _ = _
    rw [List.take_append_of_le_length (by rw [List.length_append, List.length_take, hln, hl]; omega), List.take_of_length_le (by rw [List.length_append, List.length_take, hln, hl]; omega)]
theorem nod3 {a b c : Nat} (h : Nod [a, b, c]) : a ≠ b ∧ a ≠ c ∧ b ≠ c := by
  refine ⟨fun e => ?_, fun e => ?_, fun e => ?_⟩
  · have := h a
    rw [cnt_cons2, if_pos rfl, if_pos e.symm] at this
    omega
  · have := h a
    rw [cnt_cons2, if_pos rfl, if_pos (e.symm : c = a)] at this
    omega
  · have := h b
    rw [cnt_cons2, if_pos (rfl : b = b), if_pos (e.symm : c = b)] at this
    omega
/-- The slots that Delete leans on. -/
structure F55 (T : Array Value) (a b c : Value) : Prop where
  size : T.size = 55
  s0 : T.getD 0 undef = a
  s6 : T.getD 6 undef = b
  s7 : T.getD 7 undef = c
theorem arr55 (a : Array Value) (h : a.size = 55) : a = ((List.range 55).map (fun n => a.getD n undef)).toArray := by
  refine Array.ext (by simp [h]) (fun n h1 h2 => ?_)
  simp [Array.getD, h1]
theorem F55.use {T : Array Value} {a b c : Value} {P : Array Value → Prop} (h : F55 T a b c) (H : ∀ u : Nat → Value, P (List.toArray (a :: u 1 :: u 2 :: u 3 :: u 4 :: u 5 :: b :: c :: u 8 :: u 9 :: u 10 :: u 11 :: u 12 :: u 13 :: u 14 :: u 15 :: u 16 :: u 17 :: u 18 :: u 19 :: u 20 :: u 21 :: u 22 :: u 23 :: u 24 :: u 25 :: u 26 :: u 27 :: u 28 :: u 29 :: u 30 :: u 31 :: u 32 :: u 33 :: u 34 :: u 35 :: u 36 :: u 37 :: u 38 :: u 39 :: u 40 :: u 41 :: u 42 :: u 43 :: u 44 :: u 45 :: u 46 :: u 47 :: u 48 :: u 49 :: u 50 :: u 51 :: u 52 :: u 53 :: u 54 :: []))) : P T := by
  have h1 := arr55 T h.size
  obtain ⟨u, hu⟩ : ∃ u : Nat → Value, u = fun n => T.getD n undef := ⟨_, rfl⟩
  have e : ∀ n, T.getD n undef = u n := fun n => by rw [hu]
  have e0 : u 0 = a := (e 0).symm.trans h.s0
  have e6 : u 6 = b := (e 6).symm.trans h.s6
  have e7 : u 7 = c := (e 7).symm.trans h.s7
  have h2 : T = (List.toArray (a :: u 1 :: u 2 :: u 3 :: u 4 :: u 5 :: b :: c :: u 8 :: u 9 :: u 10 :: u 11 :: u 12 :: u 13 :: u 14 :: u 15 :: u 16 :: u 17 :: u 18 :: u 19 :: u 20 :: u 21 :: u 22 :: u 23 :: u 24 :: u 25 :: u 26 :: u 27 :: u 28 :: u 29 :: u 30 :: u 31 :: u 32 :: u 33 :: u 34 :: u 35 :: u 36 :: u 37 :: u 38 :: u 39 :: u 40 :: u 41 :: u 42 :: u 43 :: u 44 :: u 45 :: u 46 :: u 47 :: u 48 :: u 49 :: u 50 :: u 51 :: u 52 :: u 53 :: u 54 :: [])) := by
    refine h1.trans ?_
    rw [← hu]
    show List.toArray (u 0 :: u 1 :: u 2 :: u 3 :: u 4 :: u 5 :: u 6 :: u 7 :: u 8 :: u 9 :: u 10 :: u 11 :: u 12 :: u 13 :: u 14 :: u 15 :: u 16 :: u 17 :: u 18 :: u 19 :: u 20 :: u 21 :: u 22 :: u 23 :: u 24 :: u 25 :: u 26 :: u 27 :: u 28 :: u 29 :: u 30 :: u 31 :: u 32 :: u 33 :: u 34 :: u 35 :: u 36 :: u 37 :: u 38 :: u 39 :: u 40 :: u 41 :: u 42 :: u 43 :: u 44 :: u 45 :: u 46 :: u 47 :: u 48 :: u 49 :: u 50 :: u 51 :: u 52 :: u 53 :: u 54 :: []) = _
    rw [e0, e6, e7]
  rw [h2]
  exact H u
def rgns : Code → List Code
  | .region i ops d => [.region i ops d]
  | .loop c => rgns c
  | .seq a b => rgns a ++ rgns b
  | .block _ c => rgns c
  | .scope c => rgns c
  | .cond _ a b => rgns a ++ rgns b
  | _ => []
noncomputable def delReg0 : Code := (Try.f45.body.elim [] rgns).getD 5 .skip
noncomputable def delReg1 : Code := (Try.f45.body.elim [] rgns).getD 6 .skip
end Go.Proofs.Ytnjiiebjdpipjaa
