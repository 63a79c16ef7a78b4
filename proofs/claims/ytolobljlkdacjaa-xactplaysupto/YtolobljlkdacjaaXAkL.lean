import Derived.Test.YtolobljlkdacjaaXPw
/- Lists that come out within a step. -/
namespace Go.Proofs.Ytolobljlkdacjaa
open Go.RowKit Go

section
variable {w : World} {o : Nat → Nat} {β sb N : Nat} {bx : Array Value} {mb rb : Nat} {kv rv hv wv : Value} {ks : List (Int × Int × Value)} {A : List Value} {h : List Nat} {W W' : World} {o' : Nat → Nat} {m mc md : Mg}
theorem PW.list (p : PW w o β sb N bx mb rb kv rv hv wv ks A h W o' mc md) {k : Nat} (hk : k = 7 ∨ k = 8 ∨ k = 9) {v : Value} {l : List Nat} (t : Tch (fun _ => False) W W') (hr : W'.ownsRow W.heap.size 3 1 v l.length (icl l)) :
    PW w o β sb N bx mb rb kv rv hv wv ks A h W' (ext W o' (β + k)) mc md ∧ RowO W' (ext W o' (β + k)) (β + k) v l ∧ Ev (fun j => j = β + k) W o' W' (ext W o' (β + k)) := by
  have e := Ev.quiet (o := o') (β + k) t
  exact ⟨p.ev1 e (fun j hj => by unfold KS; omega) (by omega) (by omega) (by omega) (p.s.ev e (by omega)), RowO.fresh hr, e⟩
theorem PW.twice (p : PW w o β sb N bx mb rb kv rv hv wv ks A h W o' m m) {v1 v2 v3 : Value} {l : List Nat} (r1 : RowO W o' (β + 7) v1 l) (r2 : RowO W o' (β + 8) v2 l) (r3 : RowO W o' (β + 9) v3 l) (hl : l.length ≤ 2147483648) (hh : h.length ≤ 2147483648) (hA : A.length ≤ 99999000) :
    Calls Try.prog 55 #[.pointer (some ⟨sb, 0, none⟩), v1, v2, v3] W fun x w' => x = .returned (.bool true) ∧ ∃ o'' rv' wv' A', PW w o β sb N bx mb rb kv rv' v2 wv' ks A' l w' o'' m m ∧ RowO w' o'' (β + 9) v3 l ∧ A'.length = A.length + 40 ∧ Ev (KB β) W o' w' o'' := by
  refine (twice_any W o' β sb m mb rb kv rv hv wv ks A h l v1 v2 v3 p.s p.was p.held hh r1 r2 r3 hl hA).mono ?_
  rintro x w' ⟨rfl, o'', rv', wv', A', s, a4, a5, a9, hA', e⟩
  have hN := blk_lt p.bk
  have hk : ¬ KB β (β + 11) := fun h => by unfold KB at h; omega
  refine ⟨rfl, o'', rv', wv', A', ⟨s, a4, a5, p.ev.trans (e.mono (fun k hk => ⟨hk.1, by have := hk.2; omega⟩)), ?_, ?_⟩, a9, hA', e⟩
  · rw [e.old N hN (by rw [p.ob]; exact hk), p.ob]
  · rw [e.tch.block N hN (by rw [p.ob]; exact hk)]; exact p.bk
theorem PW.done {n : Nat} (p : PW w o β sb N bx mb rb kv rv hv wv ks A h W o' m m) (hh : h.length ≤ 2147483648) (hA : A.length ≤ n) : ∃ o' ks', Sd W o' β sb m ks' n ∧ Ev (KS β) w o W o' ∧ ks'.length ≤ ks.length + 1 :=
  ⟨o', ks, ⟨mb, rb, kv, rv, hv, wv, A, h, p.s, p.was, p.held, hh, hA⟩, p.ev, by omega⟩
theorem PW.wf (p : PW w o β sb N bx mb rb kv rv hv wv ks A h W o' mc md) : Wf mc := by
  obtain ⟨_, _, _, h1, _⟩ := p.s.mf
  exact h1.wf
end
theorem parts_len {m : Mg} (h : Wf m) (k : Int) : (partsL m k).length ≤ 2147483648 := by
  unfold partsL
  cases hf : fnd m.tx k with
  | none => simp
  | some z =>
    obtain ⟨t, i⟩ := z
    simp only []
    split
    · have h1 := survL_len t.st t.ps
      have h2 := h.ln t (fnd_mem hf).1
      omega
    · simp
end Go.Proofs.Ytolobljlkdacjaa
