import Derived.Test.YtdbaafigmfclcaaTTDel
/- New, Len, Height, Get of a tree. -/
namespace Go.Proofs.Ytdbaafigmfclcaa
open Go.RowKit Go

theorem new_t (w : World) : Calls Try.prog 7 #[] w fun x w' => x = .returned (pv w.heap.size) ∧ TW w' w.heap.size [] 0 [w.heap.size] ∧ Tch (fun _ => False) w w' := by
  have hnB : Nod [w.heap.size] := fun x => by rw [List.count_singleton]; split <;> omega
  have HF : Hid (TW (w.alloc (.cells #[.pointer none] 64)) w.heap.size [] 0 [w.heap.size]) := ⟨hnB, List.Pairwise.nil, Or.inl ⟨rfl, rfl, rfl, alloc_new _ _⟩⟩
  go_enter Try.func7, Try.ntmps7
  go_wp2_with fail
  go_ret
  exact ⟨rfl, HF.out, Tch.alloc _ _ _⟩
theorem len_t (w : World) (b : Nat) (l : List It) (ht : Nat) (F : List Nat) (h : TW w b l ht F) : Calls Try.prog 13 #[pv b] w fun x w' => x = .returned (.int .i64 l.length) ∧ w' = w := by
  obtain ⟨h1, h2, ⟨rfl, rfl, rfl, hb⟩ | ⟨h, t, p, G, rfl, hb, hN, h3, h4, rfl, rfl⟩⟩ := h
  · have c0 : w.cell? ⟨b, 0, none⟩ = some (.pointer none) := by rw [blk_cell hb]; rfl
    have q := count_nil w
    clear hb h1 h2
    go_enter Try.func13, Try.ntmps13
    go_wp2_with (go_at_call 32; refine q.mono ?_; rintro x w1 ⟨rfl, rfl⟩)
    go_ret
    exact ⟨rfl, rfl⟩
  · have c0 : w.cell? ⟨b, 0, none⟩ = some (pv p) := by rw [blk_cell hb]; rfl
    obtain ⟨s, hs⟩ : ∃ s : Int, s = ((Nd.flat h t).length : Int) := ⟨_, rfl⟩
    have q := count_any p s w (by rw [hs]; exact hN.size.1)
    rw [← hs]
    clear hb h1 h2 hN h3 h4 hs
    go_enter Try.func13, Try.ntmps13
    go_wp2_with (go_at_call 32; refine q.mono ?_; rintro x w1 ⟨rfl, rfl⟩)
    go_ret
    exact ⟨rfl, rfl⟩
/-- What is told of a node at so many floors from the ground: nothing, or a pointer. -/
def Fl (w : World) (j : Nat) (v : Value) : Prop := (j = 0 ∧ v = .pointer none) ∨ ∃ (h : Nat) (t : Nd It h) (p : Nat) (G : List Nat), j = h + 1 ∧ v = pv p ∧ NW h w p t G ∧ t.ok
theorem Fl.kid {w : World} {h : Nat} {t : Nd It h} {p : Nat} {G : List Nat} (hN : NW h w p t G) (hok : t.ok) : ∃ v, Fl w h v ∧ Calls Try.prog 31 #[pv p, .int .i64 0] w fun x w' => x = .returned v ∧ w' = w := by
  obtain ⟨iv, kv, qs, FF, hP, hK, rfl⟩ := NW_iff.1 hN
  have hs := (ok_iff h t).1 hok
  have he := sub_even h t hs.2
  cases h with
  | zero =>
    have e : qs = [] := hK.1
    subst e
    exact ⟨.pointer none, Or.inl ⟨rfl, rfl⟩, kid_none p 0 iv kv _ _ w hP⟩
  | succ h =>
    obtain ⟨ks, rfl, e2, rfl, h3⟩ := hK
    have h9 : t.2.length = t.1.length + 1 := he
    have hts := hs.2.2
    cases ks with
    | nil => rw [e2] at h9; simp at h9
    | cons x ks =>
      have hx := h3 x (by simp)
      refine ⟨pv x.1, Or.inr ⟨h, x.2.1, x.1, x.2.2, rfl, rfl, hx, (hts x.2.1 (by rw [e2]; simp)).1⟩, ?_⟩
      have h15 : t.1.length ≤ 15 := hs.1
      have := kid_some p 0 iv kv _ _ _ w hP (by simp) (by rw [List.length_map]; have h10 := congrArg List.length e2; rw [List.length_map] at h10; omega)
      simpa using this
set_option maxHeartbeats 2000000 in
set_option maxRecDepth 100000 in
theorem height_t (w : World) (b : Nat) (l : List It) (ht : Nat) (F : List Nat) (h : TW w b l ht F) (hht : ht < 1000000) : Calls Try.prog 12 #[pv b] w fun x w' => x = .returned (.int .i64 ht) ∧ w' = w := by
  obtain ⟨v, c0, HV⟩ : ∃ v, w.cell? ⟨b, 0, none⟩ = some v ∧ Hid (Fl w ht v) := by
    obtain ⟨h1, h2, ⟨rfl, rfl, rfl, hb⟩ | ⟨h, t, p, G, rfl, hb, hN, h3, h4, rfl, rfl⟩⟩ := h
    · exact ⟨_, by rw [blk_cell hb]; rfl, Or.inl ⟨rfl, rfl⟩⟩
    · exact ⟨_, by rw [blk_cell hb]; rfl, Or.inr ⟨h, t, p, G, rfl, rfl, hN, h3⟩⟩
  have hv1 : ∃ a, v = .pointer a := by
    rcases HV.out with ⟨_, e⟩ | ⟨_, _, p, _, _, e, _⟩
    · exact ⟨_, e⟩
    · exact ⟨_, e⟩
  obtain ⟨a, rfl⟩ := hv1
  clear h
  go_enter Try.func12, Try.ntmps12
  go_wp2_with fail
  clear c0
  go_loopg [3, 4] ht (fun kx s3 s4 wr => ∃ (i : Nat) (a : Option Addr), s3 = .int .i64 i ∧ s4 = .pointer a ∧ i + kx = ht ∧ wr = w ∧ Hid (Fl w kx (.pointer a)))
  case atStart => exact ⟨0, a, rfl, rfl, by omega, rfl, HV⟩
  case round =>
    clear HV
    obtain ⟨i, a', rfl, rfl, hi, rfl, HV⟩ := hrel
    rcases HV.out with ⟨e1, e2⟩ | ⟨h, t, p, G, e1, e2, hN, hok⟩
    · injection e2 with e2
      subst e2
      subst e1
      obtain rfl : i = ht := by omega
      go_wp2_with fail
      go_ret
      exact ⟨rfl, rfl⟩
    · injection e2 with e2
      subst e2
      obtain ⟨v, hv, q⟩ := Fl.kid hN hok
      have hv1 : ∃ a, v = .pointer a := by
        rcases hv with ⟨_, e⟩ | ⟨_, _, p, _, _, e, _⟩
        · exact ⟨_, e⟩
        · exact ⟨_, e⟩
      obtain ⟨a2, rfl⟩ := hv1
      have Hv : Hid (Fl wr h (.pointer a2)) := hv
      have hi6 : (i : Int) < 1000000 := by omega
      subst e1
      clear hN hok hv HV
      go_wp2_with (go_at_call 31; refine q.mono ?_; rintro x w1 ⟨rfl, hwx⟩; subst hwx; clear q)
      go_roundg h
      case measure => omega
      case rel => exact ⟨i + 1, a2, by go_num, rfl, by omega, rfl, Hv⟩
/-- What Get tells. -/
def GetRel (k : ByteArray) (l : List It) (v : GV) (th : Bool) : Prop := (th = true ∧ ∃ x y, l = x ++ (k, v) :: y ∧ (∀ e ∈ x, Lo k e) ∧ ∀ e ∈ y, Hi k e) ∨ (th = false ∧ v = gv0 ∧ Gap k l)
/-- A node in which a key is, if it is anywhere. -/
def Gt (w : World) (k : ByteArray) (l : List It) (j : Nat) (v : Value) : Prop := (j = 0 ∧ v = .pointer none ∧ Gap k l) ∨ ∃ (h : Nat) (t : Nd It h) (p : Nat) (G X Y : List _), j = h + 1 ∧ v = pv p ∧ NW h w p t G ∧ t.ok ∧ l = X ++ (t.flat h ++ Y) ∧ (∀ e ∈ X, Lo k e) ∧ ∀ e ∈ Y, Hi k e
end Go.Proofs.Ytdbaafigmfclcaa
