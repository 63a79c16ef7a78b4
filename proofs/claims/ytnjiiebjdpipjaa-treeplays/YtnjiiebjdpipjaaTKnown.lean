import Derived.Test.YtnjiiebjdpipjaaTTGet
import Derived.Test.YtnjiiebjdpipjaaTNum
/- A tree of one's own. -/
namespace Go.Proofs.Ytnjiiebjdpipjaa
open Go.RowKit Go

/-- A tree of one's own: all its blocks are new. -/
def TO (w W : World) (b : Nat) (l : List It) (ht : Nat) : Prop := ∃ F, TW W b l ht F ∧ (∀ x ∈ F, w.heap.size ≤ x) ∧ Tch (fun _ => False) w W
theorem TO.no {w W W' : World} {b : Nat} {l : List It} {ht : Nat} (h : TO w W b l ht) (t : Tch (fun _ => False) W W') : TO w W' b l ht := by
  obtain ⟨F, h1, h2, h3⟩ := h
  exact ⟨F, h1.tch t (fun _ _ h => h), h2, h3.trans' t⟩
theorem TO.step {w W W' : World} {b : Nat} {l' : List It} {ht' : Nat} {F F' : List Nat} (h2 : ∀ x ∈ F, w.heap.size ≤ x) (h3 : Tch (fun _ => False) w W) (h' : TW W' b l' ht' F') (hf : Fits W.heap.size F F') (t : Tch (fun i => i ∈ F) W W') : TO w W' b l' ht' := by
  refine ⟨F', h', fun x hx => ?_, h3.trans t (fun i hi hm => by have := h2 i hm; omega)⟩
  rcases hf.old hx with h6 | h6
  · exact h2 x h6
  · exact Nat.le_trans h3.size h6
theorem TO.sorted {w W : World} {b : Nat} {l : List It} {ht : Nat} (h : TO w W b l ht) : Sorted l := by obtain ⟨F, h1, _, _⟩ := h; exact h1.2.1
theorem new_o (w : World) : Calls Try.prog 7 #[] w fun x w' => ∃ b, x = .returned (pv b) ∧ TO w w' b [] 0 := by
  refine (new_t w).mono ?_
  rintro x w' ⟨rfl, h1, h2⟩
  exact ⟨_, rfl, _, h1, fun x hx => by rw [List.mem_singleton.1 hx]; exact Nat.le_refl _, h2⟩
theorem put_o {w W : World} {b : Nat} {l : List It} {ht : Nat} (h : TO w W b l ht) (hl : l.length < 900000000000000000) (k : ByteArray) (v : GV) : Calls Try.prog 9 #[pv b, .string k, ev v] W fun x w' => ∃ l' ht' old th, x = .returned (.tuple #[ev old, .bool th]) ∧ TO w w' b l' ht' ∧ PutRel k v l l' old th := by
  obtain ⟨F, h1, h2, h3⟩ := h
  refine (put_t W b l ht F k v h1 hl).mono ?_
  rintro x w' ⟨l', ht', F', old, th, rfl, h4, h5, h6, h7⟩
  exact ⟨l', ht', old, th, rfl, TO.step h2 h3 h4 h6 h7, h5⟩
theorem del_o {w W : World} {b : Nat} {l : List It} {ht : Nat} (h : TO w W b l ht) (hl : l.length < 900000000000000000) (k : ByteArray) : Calls Try.prog 14 #[pv b, .string k] W fun x w' => ∃ l' ht' old th, x = .returned (.tuple #[ev old, .bool th]) ∧ TO w w' b l' ht' ∧ RemRel k l l' old th := by
  obtain ⟨F, h1, h2, h3⟩ := h
  refine (del_t W b l ht F k h1 hl).mono ?_
  rintro x w' ⟨l', ht', F', old, th, rfl, h4, h5, h6, h7⟩
  exact ⟨l', ht', old, th, rfl, TO.step h2 h3 h4 h6 h7, h5⟩
theorem get_o {w W : World} {b : Nat} {l : List It} {ht : Nat} (h : TO w W b l ht) (k : ByteArray) : Calls Try.prog 28 #[pv b, .string k] W fun x w' => ∃ v th, x = .returned (.tuple #[ev v, .bool th]) ∧ TO w w' b l ht ∧ GetRel k l v th := by
  obtain ⟨F, h1, h2, h3⟩ := h
  refine (get_t W b l ht F k h1).mono ?_
  rintro x w' ⟨⟨v, th, rfl, h4⟩, h5⟩
  exact ⟨v, th, rfl, ⟨F, h1.tch h5 (fun _ _ h => h), h2, h3.trans' h5⟩, h4⟩
theorem len_o {w W : World} {b : Nat} {l : List It} {ht : Nat} (h : TO w W b l ht) : Calls Try.prog 13 #[pv b] W fun x w' => x = .returned (.int .i64 l.length) ∧ w' = W := by
  obtain ⟨F, h1, h2, h3⟩ := h
  exact len_t W b l ht F h1
theorem TO.floors {w W : World} {b : Nat} {l : List It} {ht : Nat} (h : TO w W b l ht) : (l.length = 0 ∧ ht = 0) ∨ (1 ≤ l.length ∧ 1 ≤ ht ∧ 2 * 8 ^ (ht - 1) ≤ l.length + 1 ∧ l.length + 1 ≤ 16 ^ ht) := by
  obtain ⟨F, h1, h2, h3⟩ := h
  exact h1.floors
/-- There are few floors where there are few items. -/
theorem TO.low {w W : World} {b : Nat} {l : List It} {ht : Nat} (h : TO w W b l ht) (hl : l.length < 1000000) : ht ≤ 8 := by
  rcases h.floors with ⟨_, rfl⟩ | ⟨_, h2, h3, _⟩
  · omega
  · rcases Nat.lt_or_ge 8 ht with h9 | h9
    · exfalso
      have : 8 ^ 8 ≤ 8 ^ (ht - 1) := Nat.pow_le_pow_right (by omega) (by omega)
      have e : 8 ^ 8 = 16777216 := by decide
      omega
    · exact h9
theorem height_o {w W : World} {b : Nat} {l : List It} {ht : Nat} (h : TO w W b l ht) (hl : l.length < 1000000) : Calls Try.prog 12 #[pv b] W fun x w' => x = .returned (.int .i64 ht) ∧ w' = W := by
  have h9 := h.low hl
  obtain ⟨F, h1, h2, h3⟩ := h
  exact height_t W b l ht F h1 (by omega)
end Go.Proofs.Ytnjiiebjdpipjaa
/- known of the law. -/
namespace Go.Proofs.Ytnjiiebjdpipjaa
open Go.RowKit Go

theorem put_first {k : ByteArray} {v old : GV} {l : List It} {th : Bool} (h : PutRel k v [] l old th) : l = [(k, v)] := by
  rcases h with ⟨_, x, y, _, _, e, _⟩ | ⟨_, _, x, y, _, _, e, e2⟩
  · simp at e
  · obtain ⟨rfl, rfl⟩ : x = [] ∧ y = [] := by simpa using e.symm
    exact e2
theorem put_two {k k' : ByteArray} {v v' old : GV} {l : List It} {th : Bool} (h : PutRel k v [(k', v')] l old th) (hk : kc k' k > 0) : l = [(k, v), (k', v')] := by
  rcases h with ⟨_, x, y, hx, hy, e, _⟩ | ⟨_, _, x, y, hx, hy, e, e2⟩
  · exfalso
    have h1 : (k, old) ∈ [(k', v')] := by rw [e]; simp
    have h2 := List.mem_singleton.1 h1
    injection h2 with h2 _
    rw [h2] at hk
    have := kc_self k'
    omega
  · cases x with
    | nil => simp only [List.nil_append] at e e2; rw [e2, ← e]
    | cons a x =>
      exfalso
      simp only [List.cons_append, List.cons.injEq] at e
      have := hx a (by simp)
      rw [← e.1] at this
      unfold Lo at this
      simp only at this
      omega
theorem put_there2 {k k' : ByteArray} {v v' w' old : GV} {l : List It} {th : Bool} (h : PutRel k v [(k', v'), (k, w')] l old th) (hs : Sorted [(k', v'), (k, w')]) : old = w' ∧ th = true ∧ (k, v) ∈ l ∧ l.length = 2 := by
  rcases h with ⟨rfl, hsu⟩ | ⟨_, _, x, y, hx, hy, e, e2⟩
  · have hl := hsu.len
    obtain ⟨x, y, hx, hy, e, e2⟩ := hsu
    have h1 : (k, old) ∈ [(k', v'), (k, w')] := by rw [e]; simp
    exact ⟨sorted_uniq hs h1 (by simp), rfl, by rw [e2]; simp, by simpa using hl⟩
  · exfalso
    have h1 : (k, w') ∈ x ++ y := by rw [← e]; simp
    have := kc_self k
    rcases List.mem_append.1 h1 with h2 | h2
    · have := hx _ h2; unfold Lo at this; simp only at this; omega
    · have := hy _ h2; unfold Hi at this; simp only at this; omega
theorem get_there {k : ByteArray} {v v' : GV} {l : List It} {th : Bool} (h : GetRel k l v th) (hs : Sorted l) (hm : (k, v') ∈ l) : v = v' ∧ th = true := by
  rcases h with ⟨rfl, x, y, e, _⟩ | ⟨_, _, x, y, e, hx, hy⟩
  · exact ⟨sorted_uniq hs (by rw [e]; simp) hm, rfl⟩
  · exfalso
    rw [e] at hm
    have := kc_self k
    rcases List.mem_append.1 hm with h2 | h2
    · have := hx _ h2; unfold Lo at this; simp only at this; omega
    · have := hy _ h2; unfold Hi at this; simp only at this; omega
set_option maxHeartbeats 2000000 in
set_option maxRecDepth 100000 in
theorem known_any (w : World) : Calls Try.prog 6 #[] w fun x w' => x = .returned (.bool true) ∧ Tch (fun _ => False) w w' := by
  have q := new_o w
  go_enter Try.func6, Try.ntmps6
  go_wp2_with fail
  refine q.mono ?_
  rintro x w0 ⟨b, rfl, h0⟩
  clear q
  have q := put_o h0 (by simp) ⟨#[98]⟩ 2
  go_wp2_with fail
  refine q.mono ?_
  rintro x w1 ⟨l1, ht1, old1, th1, rfl, h1, r1⟩
  have e1 := put_first r1
  subst e1
  clear q r1 h0
  have q := put_o h1 (by simp) ⟨#[97]⟩ 1
  go_wp2_with fail
  refine q.mono ?_
  rintro x w2 ⟨l2, ht2, old2, th2, rfl, h2, r2⟩
  have e2 := put_two r2 (by decide)
  subst e2
  clear q r2 h1
  have q := put_o h2 (by simp) ⟨#[98]⟩ 5
  have hs2 := h2.sorted
  go_wp2_with fail
  refine q.mono ?_
  rintro x w3 ⟨l3, ht3, old3, th3, rfl, h3, r3⟩
  obtain ⟨rfl, rfl, hm3, hl3⟩ := put_there2 r3 hs2
  clear q r3 h2 hs2
  have q := get_o h3 ⟨#[98]⟩
  have hs3 := h3.sorted
  have Hm3 : Hid ((⟨#[98]⟩, 5) ∈ l3) := hm3
  have Hl3 : Hid (l3.length = 2) := hl3
  clear hm3 hl3
  go_wp2_with fail
  refine q.mono ?_
  rintro x w4 ⟨v4, th4, rfl, h4, r4⟩
  obtain ⟨rfl, rfl⟩ := get_there r4 hs3 Hm3.out
  have ql := len_o h4
  have qh := height_o h4 (by have := Hl3.out; omega)
  rw [Hl3.out] at ql
  have hh : ht3 = 1 := by
    rcases h4.floors with ⟨e, _⟩ | ⟨_, a2, a3, _⟩
    · have := Hl3.out; omega
    · rcases Nat.lt_or_ge 1 ht3 with h9 | h9
      · exfalso
        have : 8 ^ 1 ≤ 8 ^ (ht3 - 1) := Nat.pow_le_pow_right (by omega) (by omega)
        have := Hl3.out
        omega
      · omega
  subst hh
  have HT : Hid (Tch (fun _ => False) w w4) := by obtain ⟨F, _, _, t⟩ := h4; exact t
  clear q r4 h3 h4 hs3
  go_wp2_with (first
    | (go_at_call 13; refine ql.mono ?_; rintro x w5 ⟨rfl, hw⟩; subst hw; clear ql)
    | (go_at_call 12; refine qh.mono ?_; rintro x w5 ⟨rfl, hw⟩; subst hw; clear qh))
  go_ret
  exact ⟨rfl, HT.out⟩
end Go.Proofs.Ytnjiiebjdpipjaa
