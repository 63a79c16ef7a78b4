import Derived.Test.YtmnhkgibplnnnaaVR1
/- MergePlays: how many rows hold a change: the heap's length, and the document's Held. -/
namespace Go.Proofs.Ytmnhkgibplnnnaa
open Go.RowKit Go

def liveB {α : Type} (rs : List (List α)) (i : Nat) : Bool := match rs[i]? with
  | some (_ :: _) => true
  | _ => false
theorem live_iff {α : Type} {rs : List (List α)} {i : Nat} : liveB rs i = true ↔ ∃ c u, rs[i]? = some (c :: u) := by
  unfold liveB
  split
  · rename_i c u e; exact ⟨fun _ => ⟨c, u, e⟩, fun _ => rfl⟩
  · rename_i h; exact ⟨fun e => (by cases e), fun ⟨c, u, e⟩ => (h c u e).elim⟩
def liveL {α : Type} (rs : List (List α)) (n : Nat) : List Nat := (List.range n).filter (liveB rs)
def cnt {α : Type} (rs : List (List α)) (n : Nat) : Nat := (liveL rs n).length
theorem cnt_succ {α : Type} (rs : List (List α)) (n : Nat) : cnt rs (n + 1) = cnt rs n + if liveB rs n then 1 else 0 := by
  unfold cnt liveL
  rw [List.range_succ, List.filter_append, List.length_append]
  congr 1
  by_cases h : liveB rs n = true
  · simp [h]
  · simp only [Bool.not_eq_true] at h; simp [h]
theorem cnt_le {α : Type} (rs : List (List α)) (n : Nat) : cnt rs n ≤ n := by
  unfold cnt liveL
  have := List.length_filter_le (liveB rs) (List.range n)
  simpa using this
theorem nd_len2 {α : Type} [DecidableEq α] : ∀ (l m : List α), l.Nodup → (∀ x ∈ l, x ∈ m) → l.length ≤ m.length
  | [], m, _, _ => Nat.zero_le _
  | a :: l, m, h, hm => by
    have ha := hm a (List.mem_cons_self ..)
    have hn := List.nodup_cons.1 h
    have := nd_len2 l (m.erase a) hn.2 (fun x hx => (List.mem_erase_of_ne (show x ≠ a from fun e => hn.1 (by rw [← e]; exact hx))).2 (hm x (List.mem_cons_of_mem _ hx)))
    rw [List.length_erase_of_mem ha] at this
    have h0 : 0 < m.length := List.length_pos_of_mem ha
    simp only [List.length_cons]
    omega
theorem nd_map {α β : Type} {f : α → β} : ∀ {l : List α}, l.Nodup → (∀ x ∈ l, ∀ y ∈ l, f x = f y → x = y) → (l.map f).Nodup
  | [], _, _ => List.nodup_nil
  | a :: l, h, hf => by
    have hn := List.nodup_cons.1 h
    rw [List.map_cons]
    refine List.nodup_cons.2 ⟨fun hm => ?_, nd_map hn.2 (fun x hx y hy => hf x (List.mem_cons_of_mem _ hx) y (List.mem_cons_of_mem _ hy))⟩
    obtain ⟨y, hy, e⟩ := List.mem_map.1 hm
    have := hf y (List.mem_cons_of_mem _ hy) a (List.mem_cons_self ..) e
    subst this
    exact hn.1 hy
theorem live_nd {α : Type} (rs : List (List α)) (n : Nat) : (liveL rs n).Nodup := List.Pairwise.filter _ List.nodup_range
theorem live_mem {α : Type} {rs : List (List α)} {n i : Nat} : i ∈ liveL rs n ↔ i < n ∧ ∃ c u, rs[i]? = some (c :: u) := by
  unfold liveL
  rw [List.mem_filter, List.mem_range, live_iff]
theorem its_cnt {α : Type} {k : α → Int} {rs : List (List α)} {tn : Nat → Int} {P : Nat → Nat} {L : List It} (h : Its k rs tn P L) (ht : Tn tn rs.length) : L.length = cnt rs rs.length := by
  have inj : ∀ x ∈ liveL rs rs.length, ∀ y ∈ liveL rs rs.length, tn x = tn y → x = y := fun x hx y hy e => by
    have h1 := (live_mem.1 hx).1
    have h2 := (live_mem.1 hy).1
    rcases Nat.lt_trichotomy x y with h3 | h3 | h3
    · have := ht x y h3 h2; omega
    · exact h3
    · have := ht y x h3 h1; omega
  have a : (L.map It.t).length ≤ ((liveL rs rs.length).map tn).length := nd_len2 _ _ h.nd (fun x hx => by
    obtain ⟨y, hy, rfl⟩ := List.mem_map.1 hx
    obtain ⟨j, c, u, e1, e2⟩ := (h.mem y).1 hy
    exact List.mem_map.2 ⟨j, live_mem.2 ⟨(List.getElem?_eq_some_iff.1 e1).1, c, u, e1⟩, by rw [e2]⟩)
  have b : ((liveL rs rs.length).map tn).length ≤ (L.map It.t).length := nd_len2 _ _ (nd_map (live_nd _ _) inj) (fun x hx => by
    obtain ⟨j, hj, rfl⟩ := List.mem_map.1 hx
    obtain ⟨_, c, u, e⟩ := live_mem.1 hj
    exact List.mem_map.2 ⟨⟨k c, tn j, P j⟩, (h.mem _).2 ⟨j, c, u, e, rfl⟩, rfl⟩)
  simp only [List.length_map] at a b
  unfold cnt
  omega
set_option maxHeartbeats 4000000 in
set_option maxRecDepth 1000000 in
theorem rvheld_any (base : Nat) (w : World) (rb : Nat) (vL vA : Value) (hd : List Value) (ls : List (List Rc)) (nx : List Nat) (h : RV base w rb vL vA hd ls nx) (hs : ls.length ≤ 1000000000) (hls : ∀ l ∈ ls, l.length ≤ 1000000000000) :
    Calls Try.prog 18 #[.pointer (some ⟨rb, 0, none⟩)] w fun e w' => e = .returned (.int .i64 (cnt (rsOf ls nx) ls.length : Nat)) ∧ Tch (fun _ => False) w w' := by
  obtain ⟨loL, lcL, rfl⟩ := row_slice h.oL
  obtain ⟨loA, lcA, rfl⟩ := row_slice h.oA
  obtain ⟨n, hn⟩ : ∃ n, n = ls.length := ⟨_, rfl⟩
  have HR0 : Hid _ := h
  have Hn : Hid (n = ls.length) := hn
  have HLS : Hid _ := hls
  have HF : Hid (∀ W, Tch (fun _ => False) w W → W.cell? ⟨rb, 0, none⟩ = some (.slice loL n lcL) ∧ W.cell? ⟨rb, 1, none⟩ = some (.slice loA n lcA)) := fun W t => by
    have hb := (t.block rb (blk_lt h.blk) (fun h => h)).trans h.blk
    rw [hn]; exact ⟨blk_cell hb 0, blk_cell hb 1⟩
  have hs' : n ≤ 1000000000 := by omega
  obtain ⟨rs, hrs⟩ : ∃ rs, rs = rsOf ls nx := ⟨_, rfl⟩
  have HRS : Hid (rs = rsOf ls nx) := hrs
  rw [← hrs, ← hn]
  clear h hls hs hn hrs
  go_enter Try.func18, Try.ntmps18
  go_wp2_with fail
  go_loopg [3, 4] n (fun kx s3 s4 wr => ∃ i m : Nat, s4 = .int .i64 i ∧ s3 = .int .i64 m ∧ n - i ≤ kx ∧ i ≤ n ∧ m ≤ i ∧ Hid (m = cnt rs i ∧ Tch (fun _ => False) w wr))
  case atStart => exact ⟨0, 0, rfl, rfl, by omega, by omega, by omega, (⟨rfl, Tch.refl _ _⟩ : 0 = cnt rs 0 ∧ Tch (fun _ => False) w w)⟩
  case round =>
    obtain ⟨i, m, rfl, rfl, hk, hin, hmi, J⟩ := hrel
    obtain ⟨a0, a1⟩ := HF.out wr J.out.2
    by_cases hi : i < n
    · have hi' : (i : Int) < (n : Int) := by omega
      obtain ⟨gL, gA, ao, cp, l, k, hloL, hloA, hl, hk0, hkl, hlc, hcm, rL, rA, -⟩ := (HR0.out.no J.out.2).at (j := i) (by rw [← Hn.out]; exact hi)
      subst hloL hloA
      have hri : rs[i]? = some (l.drop k) := by rw [HRS.out]; exact rsOf_get hl hk0
      have hlb : l.length ≤ 1000000000000 := HLS.out l (List.mem_of_getElem? hl)
      obtain ⟨lm, hlm⟩ : ∃ lm, lm = l.length := ⟨_, rfl⟩
      rw [← hlm] at rL hlc hkl hlb
      have hc := cnt_succ rs i
      by_cases hkl2 : k < lm
      · have hkl' : (k : Int) < (lm : Int) := by omega
        have hlv : liveB rs i = true := live_iff.2 ⟨_, _, by rw [hri, List.drop_eq_getElem_cons (by omega)]⟩
        rw [hlv] at hc
        have J2 : Hid (m + 1 = cnt rs (i + 1)) := by have := J.out.1; simp at hc; show m + 1 = _; omega
        clear hri hl hk0 hc hlv hlm
        go_wp2_with fail
        go_quiet (fail)
        have TQ : Hid (Tch (fun _ => False) w (wr.drewN nq)) := J.out.2.drewN nq
        clear a0 a1 rL rA
        go_wp2_with fail
        go_roundg (n - (i + 1))
        case measure => omega
        case rel => exact ⟨i + 1, m + 1, rfl, rfl, by omega, by omega, by omega, (⟨J2.out, TQ.out⟩ : m + 1 = cnt rs (i + 1) ∧ Tch (fun _ => False) w (wr.drewN nq))⟩
      · have hkl' : ¬ (k : Int) < (lm : Int) := by omega
        have hlv : liveB rs i = false := by
          cases hb : liveB rs i with
          | false => rfl
          | true =>
            obtain ⟨c, u, e⟩ := live_iff.1 hb
            rw [hri, List.drop_eq_nil_of_le (by omega)] at e
            simp at e
        rw [hlv] at hc
        have J2 : Hid (m = cnt rs (i + 1)) := by have := J.out.1; simp at hc; show m = _; omega
        clear hri hl hk0 hc hlv hlm
        go_wp2_with fail
        go_quiet (fail)
        have TQ : Hid (Tch (fun _ => False) w (wr.drewN nq)) := J.out.2.drewN nq
        clear a0 a1 rL rA
        go_wp2_with fail
        go_roundg (n - (i + 1))
        case measure => omega
        case rel => exact ⟨i + 1, m, rfl, rfl, by omega, by omega, by omega, (⟨J2.out, TQ.out⟩ : m = cnt rs (i + 1) ∧ Tch (fun _ => False) w (wr.drewN nq))⟩
    · have hi' : ¬ (i : Int) < (n : Int) := by omega
      obtain rfl : i = n := by omega
      go_wp2
      go_ret
      refine ⟨?_, J.out.2⟩
      have e := J.out.1
      rw [← e]
      rfl
end Go.Proofs.Ytmnhkgibplnnnaa
