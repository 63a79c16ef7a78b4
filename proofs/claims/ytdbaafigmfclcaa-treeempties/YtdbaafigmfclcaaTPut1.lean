import Derived.Test.YtdbaafigmfclcaaTPut0
/- put: where the key is there. -/
namespace Go.Proofs.Ytdbaafigmfclcaa
open Go.RowKit Go

/-- The key is there: its value is set. -/
theorem put_there {h : Nat} {w w1 : World} {p i : Nat} {k : ByteArray} {v : GV} {t : Nd It h} {F : List Nat} (hN : NW h w p t F) (hn : Nod F) (hs : t.sub) (hl : t.its.length ≤ 15) (hso : Sorted (t.flat h)) (hF : Found t.its k i true) (t1 : Tch (fun _ => False) w w1) :
    ∃ g c old, w1.cell? ⟨p, 0, none⟩ = some (.slice (some ⟨g, 0, none⟩) t.its.length c) ∧ i < t.its.length ∧ w1.cell? ⟨g, i * 2 + 1, none⟩ = some (ev old) ∧ w1.frozen? ⟨g, i * 2 + 1, none⟩ = false ∧
      ∃ (t' : Nd It h), NW h (w1.setCell ⟨g, i * 2 + 1, none⟩ (ev v)) p t' F ∧ Tch (fun i => i ∈ F) w (w1.setCell ⟨g, i * 2 + 1, none⟩ (ev v)) ∧ t'.sub ∧ t'.its.length = t.its.length ∧ PutRel k v (t.flat h) (t'.flat h) old true := by
  have hN1 := hN.tch t1 (fun _ _ h => h)
  obtain ⟨iv, kv, qs, FF, hP, hK, rfl⟩ := NW_iff.1 hN1
  obtain ⟨it, hit, hk⟩ := hF.at_ rfl
  obtain ⟨hi, hit2⟩ := List.getElem?_eq_some_iff.1 hit
  obtain ⟨g, c, ei, -, -, -, j0, j1, jf⟩ := it_at hP.its hi
  subst ei
  rw [hit2] at j1
  have he := sub_even h t hs
  -- the node with the value set
  obtain ⟨t', ht', hfl, hsub', hkk⟩ : ∃ t' : Nd It h, t'.its = t.its.set i (k, v) ∧ PutRel k v (t.flat h) (t'.flat h) it.2 true ∧ t'.sub ∧ ∀ w qs FF, Kids h w t qs FF → Kids h w t' qs FF := by
    have hcut := list_cut t.its i it hit
    have hset : t.its.set i (k, v) = t.its.take i ++ (k, v) :: t.its.drop (i + 1) := by
      rw [List.set_eq_take_append_cons_drop, if_pos hi]
    have hitk : (k, it.2) = it := by rw [← hk]
    cases h with
    | zero =>
      refine ⟨t.its.set i (k, v), rfl, Or.inl ⟨rfl, t.its.take i, t.its.drop (i + 1), hF.lo, hF.behind rfl, ?_, hset⟩, trivial, fun _ _ _ h => h⟩
      rw [hitk]
      exact hcut.symm
    | succ h =>
      have hlen : t.2.length = t.1.length + 1 := he
      have hi' : i < t.1.length := hi
      refine ⟨(t.1.set i (k, v), t.2), rfl, Or.inl ⟨rfl, ?_⟩, ⟨by rw [List.length_set]; exact hlen, hs.2⟩, fun _ _ _ h => h⟩
      have e1 : t = ((t.its.take i ++ it :: t.its.drop (i + 1), t.2.take (i + 1) ++ t.2.drop (i + 1)) : Nd It (h + 1)) := Prod.ext hcut.symm (List.take_append_drop _ _).symm
      have m1 := item_mid h (t.its.take i) (t.its.drop (i + 1)) it (t.2.take (i + 1)) (t.2.drop (i + 1)) (by rw [List.length_take, List.length_take]; show min (i + 1) t.2.length = min i t.1.length + 1; omega)
      have m2 := item_mid h (t.its.take i) (t.its.drop (i + 1)) (k, v) (t.2.take (i + 1)) (t.2.drop (i + 1)) (by rw [List.length_take, List.length_take]; show min (i + 1) t.2.length = min i t.1.length + 1; omega)
      have e2 : Nd.flat (h + 1) t = mix (t.its.take i) ((t.2.take (i + 1)).map (Nd.flat h)) ++ it :: mix (t.its.drop (i + 1)) ((t.2.drop (i + 1)).map (Nd.flat h)) := by rw [← m1, ← e1]
      have e3 : Nd.flat (h + 1) ((t.1.set i (k, v), t.2) : Nd It (h + 1)) = mix (t.its.take i) ((t.2.take (i + 1)).map (Nd.flat h)) ++ (k, v) :: mix (t.its.drop (i + 1)) ((t.2.drop (i + 1)).map (Nd.flat h)) := by
        rw [← m2]
        have : ((t.1.set i (k, v), t.2) : Nd It (h + 1)) = ((t.its.take i ++ (k, v) :: t.its.drop (i + 1), t.2.take (i + 1) ++ t.2.drop (i + 1)) : Nd It (h + 1)) := Prod.ext hset (List.take_append_drop _ _).symm
        rw [this]
      refine ⟨_, _, fun e he' => ?_, fun e he' => ?_, by rw [hitk]; exact e2, e3⟩
      · rw [e2] at hso
        have := (List.pairwise_append.1 hso).2.2 e he' it (by simp)
        unfold KL at this
        rw [hk] at this
        exact this
      · rw [e2] at hso
        have := (List.pairwise_cons.1 (List.pairwise_append.1 hso).2.1).1 e he'
        unfold KL at this
        rw [hk] at this
        have := kc_flip k e.1
        unfold Hi
        omega
  have hlen' : t'.its.length = t.its.length := by rw [ht', List.length_set]
  have hfl' : (Nd.flat h t').length = (Nd.flat h t).length := by
    rcases hfl with ⟨_, hsu⟩ | ⟨e, _⟩
    · exact hsu.len
    · cases e
  have hsetv : t.its.set i (t.its[i].1, v) = t'.its := by rw [ht', hit2, hk]
  have hnf : Nod (fb p (.slice (some ⟨g, 0, none⟩) t.its.length c) kv) := fun b => by have := hn b; rw [List.count_append] at this; omega
  have ts : Tch (fun i => i = g) w1 (w1.setCell ⟨g, i * 2 + 1, none⟩ (ev v)) := Tch.setCell _ _ _ _ rfl
  have hFN : FN (w1.setCell ⟨g, i * 2 + 1, none⟩ (ev v)) p (.slice (some ⟨g, 0, none⟩) t.its.length c) kv t'.its qs (Nd.flat h t').length := by
    have ho := own_setv (x := v) hP.its hi
    rw [hsetv, hlen'] at ho
    refine ⟨?_, by rw [hlen']; exact ho, own_tch hP.kids ts (fun g' e e' => ?_)⟩
    · rw [hfl']
      exact hP.nd.tch ts (fun e => (nod_self hnf).1 (by rw [e]; rfl))
    · subst e'
      have := hnf g'
      rw [fb_count] at this
      have h1 := count_mem (mem_bl.2 e)
      have h2 := count_mem (mem_bl.2 (show (Value.slice (some ⟨g', 0, none⟩) t.its.length c).ownBlock = some g' from rfl))
      omega
  obtain ⟨r1, r2⟩ := NW.items (t' := t') hn hK rfl hFN rfl (ts.mono (fun i _ e => by rw [e]; rfl)) hkk
  exact ⟨g, c, it.2, hP.nd.cells.1, hi, j1, jf _, t', r1, (t1.mono (fun _ _ h => h.elim)).trans' r2, hsub', hlen', hfl⟩
end Go.Proofs.Ytdbaafigmfclcaa
