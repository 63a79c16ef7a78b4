import Derived.Test.YtkcmpipipelgoaaD3
/- The document's Trim. -/
namespace Go.Proofs.Ytkcmpipipelgoaa
open Go.RowKit Go
set_option maxRecDepth 100000

/-- Does a Trim keep the note at a place? -/
def dkeep (L : List Dn) (x : Int) (k : Nat) (d : Dn) : Bool := decide (nwK L x d.i ≤ k) || (decide (nwK L x d.i = k + 1) && !d.g)
/-- Of the first notes those that a Trim keeps. -/
def kpN (L : List Dn) (x : Int) : Nat → List Dn
  | 0 => []
  | k + 1 => kpN L x k ++ (match L[k]? with | some d => if dkeep L x k d = true then [d] else [] | none => [])
theorem kpN_step {L : List Dn} {x : Int} {k : Nat} {d : Dn} (h : L[k]? = some d) : kpN L x (k + 1) = kpN L x k ++ (if dkeep L x k d = true then [d] else []) := by
  show kpN L x k ++ _ = _
  rw [h]
theorem kpN_len (L : List Dn) (x : Int) : ∀ k, (kpN L x k).length ≤ k
  | 0 => Nat.le_refl _
  | k + 1 => by
    have := kpN_len L x k
    show (kpN L x k ++ _).length ≤ _
    rw [List.length_append]
    have h2 : (match L[k]? with | some d => if dkeep L x k d = true then [d] else [] | none => [] : List Dn).length ≤ 1 := by
      split
      · split <;> simp
      · simp
    omega
theorem kpN_mem (L : List Dn) (x : Int) : ∀ k n, n ∈ kpN L x k → n ∈ L
  | 0, n, h => by cases h
  | k + 1, n, h => by
    have h' : n ∈ kpN L x k ++ _ := h
    rcases List.mem_append.1 h' with e | e
    · exact kpN_mem L x k n e
    · split at e
      · rename_i d hd
        split at e
        · rw [List.mem_singleton.1 e]; exact List.mem_of_getElem? hd
        · cases e
      · cases e
def Dh.tr (h : Dh) (x : Int) : Dh := if x ≤ h.b then h else ⟨x, max h.l x, kpN h.L x h.L.length⟩
def dtrN (h : Dh) (x : Int) : Int := if x ≤ h.b then 0 else (h.L.length : Int) - (kpN h.L x h.L.length).length
/-- The kept list is laid down. -/
theorem DW.kept {w w' : World} {F : Nat → Prop} {b : Nat} {lo o : Option Addr} {lc c : Nat} {h : Dh} (H : DW w F b lo lc h) (x y : Int) {L' : List Dn} (hL : ∀ n ∈ L', n ∈ h.L) (hF : ∀ g, F g → g < w.heap.size)
    (ho : w'.ownsRow w.heap.size 89 8 (.slice o L'.length c) L'.length (ncl L')) (t : Tch (fun _ => False) w w') :
    DW (((w'.setCell ⟨b, 2, none⟩ (.slice o L'.length c)).setCell ⟨b, 0, none⟩ (.int .i64 x)).setCell ⟨b, 1, none⟩ (.int .i64 y)) F b o c ⟨x, y, L'⟩ := by
  have hbl := blk_lt H.blk
  have b' : w'.heap[b]? = some (.cells #[.int .i64 h.b, .int .i64 h.l, .slice lo h.L.length lc] 86 (0, 0)) := (t.block b hbl (fun e => e)).trans H.blk
  have t2 : Tch (fun g => g = b) w' (((w'.setCell ⟨b, 2, none⟩ (.slice o L'.length c)).setCell ⟨b, 0, none⟩ (.int .i64 x)).setCell ⟨b, 1, none⟩ (.int .i64 y)) := ((Tch.setCell (fun g => g = b) w' ⟨b, 2, none⟩ _ rfl).setCellR ⟨b, 0, none⟩ _ rfl).setCellR ⟨b, 1, none⟩ _ rfl
  have hoF : ∀ g, ob o = some g → w.heap.size ≤ g ∧ g < w'.heap.size := fun g e => ho.lt g (by rw [ob_eq]; exact e)
  refine ⟨?_, own_low (own_tch ho t2 (fun g e e2 => ?_)) (Nat.zero_le _), H.fb, fun g e => ⟨fun e2 => ?_, ?_, ?_⟩, fun n hn => ?_⟩
  · have h0 := blk_set (i := 2) b' (.slice o L'.length c)
    have h1 := blk_set (i := 0) h0 (.int .i64 x)
    have h2 := blk_set (i := 1) h1 (.int .i64 y)
    rw [h2]
    rfl
  · rw [ob_eq] at e
    have := (hoF g e).1
    have e2' : g = b := e2
    omega
  · have := (hoF g e).1
    have := hF g e2
    omega
  · have := (hoF g e).1
    omega
  · exact Nat.lt_of_lt_of_le (hoF g e).2 t2.size
  · have h0 := H.nt n (hL n hn)
    have h1 := h0.tch t (fun g _ e => e.elim)
    have h2 := h1.tch t2 (fun g _ e => .inr (.inl e))
    refine ⟨h2.sl, h2.no, h2.le, fun g q e => ⟨fun e2 => ?_, (h2.nf g q e).2⟩⟩
    have h3 := h0.nf g q e
    rcases e2 with e2 | e2 | e2
    · exact h3.1 (.inl e2)
    · exact h3.1 (.inr (.inl e2))
    · have := (hoF g e2).1
      have := h3.2
      omega

set_option maxHeartbeats 4000000 in
theorem dtrim_f {w : World} {F : Nat → Prop} {b : Nat} {h : Dh} (H : DF w F b h) (x : Int) (hl : h.L.length ≤ 1099511627776) (hFl : ∀ g, F g → g < w.heap.size) :
    Calls Try.prog 39 #[.pointer (some ⟨b, 0, none⟩), .int .i64 x] w fun r w' => r = .returned (.int .i64 (dtrN h x)) ∧ DF w' F b (h.tr x) ∧ Tch (fun g => ¬ F g) w w' := by
  obtain ⟨lo, lc, H⟩ := H
  have HE : Hid (dtrN h x = if x ≤ h.b then 0 else (h.L.length : Int) - (kpN h.L x h.L.length).length) := rfl
  have HG : Hid (h.tr x = if x ≤ h.b then h else ⟨x, max h.l x, kpN h.L x h.L.length⟩) := rfl
  have HH : Hid (DW w F b lo lc h) := H
  have HFl : Hid (∀ g, F g → g < w.heap.size) := hFl
  have c0 : w.cell? ⟨b, 0, none⟩ = some (.int .i64 h.b) := blk_cell H.blk 0
  obtain ⟨m, hm⟩ : ∃ m, m = h.L.length := ⟨_, rfl⟩
  rw [← hm] at hl HE HG
  have Hm : Hid (m = h.L.length) := hm
  have HJ0 : Hid (w.ownsRow w.heap.size 89 8 (.slice none 0 0) 0 (ncl (kpN h.L x 0)) ∧ Tch (fun _ => False) w w) := ⟨World.ownsRow_nil _ _ _ _, Tch.refl _ _⟩
  clear H hm hFl
  go_enter Try.func39, Try.ntmps39
  by_cases hle : x ≤ h.b
  · have HE0 : Hid (dtrN h x = 0 ∧ h.tr x = h) := ⟨by rw [HE.out, if_pos hle], by rw [HG.out, if_pos hle]⟩
    go_wp2_with fail
    go_ret
    exact ⟨by rw [HE0.out.1]; rfl, by rw [HE0.out.2]; exact ⟨lo, lc, HH.out⟩, Tch.refl _ _⟩
  · have HE0 : Hid (dtrN h x = (m : Int) - (kpN h.L x m).length ∧ h.tr x = ⟨x, max h.l x, kpN h.L x m⟩) := ⟨by rw [HE.out, if_neg hle], by rw [HG.out, if_neg hle]⟩
    go_wp2_with fail
    clear c0
    go_loopg [5, 6, 7] m (fun kx s5 s6 s7 wr => ∃ (k n : Nat) (o : Option Addr) (c : Nat), s5 = .slice o n c ∧ s6 = .int .i64 k ∧ m - k ≤ kx ∧ k ≤ m ∧ n ≤ k ∧ Hid (n = (kpN h.L x k).length) ∧ Hid (wr.ownsRow w.heap.size 89 8 (.slice o n c) n (ncl (kpN h.L x k)) ∧ Tch (fun _ => False) w wr))
    case atStart => exact ⟨0, 0, none, 0, rfl, rfl, by omega, by omega, by omega, rfl, HJ0⟩
    case round =>
      rename World => wr
      obtain ⟨k, n, o, c, rfl, rfl, hkx, hkl, hnk, Hn, J⟩ := hrel
      have HHr := HH.out.tch J.out.2 (fun _ _ e => e.elim)
      have c2 : wr.cell? ⟨b, 2, none⟩ = some (.slice lo m lc) := by rw [Hm.out]; exact blk_cell HHr.blk 2
      by_cases hk : k < m
      · have hk' : (k : Int) < (m : Int) := by omega
        obtain ⟨d, hd⟩ : ∃ d, h.L[k]? = some d := ⟨_, List.getElem?_eq_getElem (by have := Hm.out; omega)⟩
        obtain ⟨g, hg, hat⟩ := HHr.at hd
        have z0 : wr.cell? ⟨g, k * 8, none⟩ = some (.int .i64 d.l) := hat 0 _ rfl (by omega)
        have z1 : wr.cell? ⟨g, k * 8 + 1, none⟩ = some (.int .i64 d.i) := hat 1 _ rfl (by omega)
        have z2 : wr.cell? ⟨g, k * 8 + 2, none⟩ = some (.bool d.g) := hat 2 _ rfl (by omega)
        have z3 : wr.cell? ⟨g, k * 8 + 3, none⟩ = some (.int .i64 d.t.id) := hat 3 _ rfl (by omega)
        have z4 : wr.cell? ⟨g, k * 8 + 4, none⟩ = some (.int .i64 d.t.ver) := hat 4 _ rfl (by omega)
        have z5 : wr.cell? ⟨g, k * 8 + 5, none⟩ = some (.string d.t.nm) := hat 5 _ rfl (by omega)
        have z6 : wr.cell? ⟨g, k * 8 + 6, none⟩ = some (.slice d.ao d.t.cols.length d.c) := hat 6 _ rfl (by omega)
        have z7 : wr.cell? ⟨g, k * 8 + 7, none⟩ = some (.int .i64 d.t.key) := hat 7 _ rfl (by omega)
        have q1 := newest_w HHr x d.i (by have := Hm.out; omega)
        obtain ⟨p, hp⟩ : ∃ p, p = (nwK h.L x d.i : Int) - 1 := ⟨_, rfl⟩
        rw [← hp] at q1
        have HS : Hid (kpN h.L x (k + 1) = kpN h.L x k ++ (if dkeep h.L x k d = true then [d] else [])) := kpN_step hd
        have HKp : Hid (dkeep h.L x k d = (decide (p < (k : Int)) || (decide (p = (k : Int)) && !d.g))) := by
          show _ = _
          unfold dkeep
          have e1 : decide (nwK h.L x d.i ≤ k) = decide (p < (k : Int)) := decide_eq_decide.2 (by omega)
          have e2 : decide (nwK h.L x d.i = k + 1) = decide (p = (k : Int)) := decide_eq_decide.2 (by omega)
          rw [e1, e2]
        rw [hg] at c2
        have hown : wr.ownsRow w.heap.size 89 8 (.slice o (kpN h.L x k).length c) (kpN h.L x k).length (ncl (kpN h.L x k)) := by rw [← Hn.out]; exact J.out.1
        obtain ⟨o2, cc2, w2, hr2, ho2, t2, _⟩ := notes_app hown d (by have := Hn.out; omega) J.out.2.size
        rw [← Hn.out] at hr2 ho2
        have HO2 : Hid (w2.ownsRow w.heap.size 89 8 (.slice o2 (n + 1) cc2) (n + 1) (ncl (kpN h.L x k ++ [d])) ∧ Tch (fun _ => False) w w2) := ⟨ho2, J.out.2.trans t2 (fun g hg e => by have := (hown.lt g (by rw [ob_eq]; exact e)).1; omega)⟩
        have HR2 : Hid _ := hr2
        have HKeep : Hid (dkeep h.L x k d = true → n + 1 = (kpN h.L x (k + 1)).length ∧ w2.ownsRow w.heap.size 89 8 (.slice o2 (n + 1) cc2) (n + 1) (ncl (kpN h.L x (k + 1)))) := fun e => by
          rw [HS.out, if_pos e]
          exact ⟨by rw [List.length_append, List.length_singleton, ← Hn.out], HO2.out.1⟩
        have HDrop : Hid (dkeep h.L x k d = false → n = (kpN h.L x (k + 1)).length ∧ wr.ownsRow w.heap.size 89 8 (.slice o n c) n (ncl (kpN h.L x (k + 1)))) := fun e => by
          rw [HS.out, if_neg (by rw [e]; decide), List.append_nil]
          exact ⟨Hn.out, J.out.1⟩
        clear hd hg hat hp HHr hown hr2 ho2 t2 HS
        go_wp2_with fail
        refine q1.mono ?_
        rintro e w9 ⟨rfl, hw9⟩
        subst hw9
        clear q1
        rcases Int.lt_trichotomy p (k : Int) with h1 | h1 | h1
        · have hgt : (k : Int) > p := h1
          have HK : Hid (dkeep h.L x k d = true) := by show _ = _; rw [HKp.out]; simp [h1]
          have hr2 := HR2.out
          clear HR2
          go_wp2_with (at_builtin; refine wpList_app _ rfl _ _ 84 rfl rfl _ _ rfl rfl hr2 ?_)
          go_roundg (m - (k + 1))
          case measure => omega
          case rel => exact ⟨k + 1, n + 1, o2, cc2, rfl, rfl, by omega, by omega, by omega, (HKeep.out HK.out).1, ⟨(HKeep.out HK.out).2, HO2.out.2⟩⟩
        · have hng : ¬ (k : Int) > p := by omega
          have heq : ((k : Int) == p) = true := by simp [h1]
          have Hpk : Hid (p = (k : Int)) := h1
          clear h1
          obtain ⟨dg, hdg⟩ : ∃ y, y = d.g := ⟨_, rfl⟩
          rw [← hdg] at z2 HKp
          have Hdg : Hid (dg = d.g) := hdg
          cases dg with
          | false =>
            rw [← hdg] at HR2
            clear hdg
            have HK : Hid (dkeep h.L x k d = true) := by show _ = _; rw [HKp.out]; simp [Hpk.out]
            have hr2 := HR2.out
            clear HR2
            go_wp2_with (at_builtin; refine wpList_app _ rfl _ _ 84 rfl rfl _ _ rfl rfl hr2 ?_)
            go_roundg (m - (k + 1))
            case measure => omega
            case rel => exact ⟨k + 1, n + 1, o2, cc2, rfl, rfl, by omega, by omega, by omega, (HKeep.out HK.out).1, ⟨(HKeep.out HK.out).2, HO2.out.2⟩⟩
          | true =>
            clear hdg
            have HK : Hid (dkeep h.L x k d = false) := by show _ = _; rw [HKp.out]; simp [Hpk.out]
            clear HR2
            go_wp2_with fail
            go_roundg (m - (k + 1))
            case measure => omega
            case rel => exact ⟨k + 1, n, o, c, rfl, rfl, by omega, by omega, by omega, (HDrop.out HK.out).1, ⟨(HDrop.out HK.out).2, J.out.2⟩⟩
        · have hng : ¬ (k : Int) > p := by omega
          have heq : ((k : Int) == p) = false := by simp; omega
          have HK : Hid (dkeep h.L x k d = false) := by show _ = _; rw [HKp.out]; simp; omega
          clear HR2
          go_wp2_with fail
          go_roundg (m - (k + 1))
          case measure => omega
          case rel => exact ⟨k + 1, n, o, c, rfl, rfl, by omega, by omega, by omega, (HDrop.out HK.out).1, ⟨(HDrop.out HK.out).2, J.out.2⟩⟩
      · have hk' : ¬ (k : Int) < (m : Int) := by omega
        have hkm : k = m := by omega
        subst hkm
        have c0 : wr.cell? ⟨b, 0, none⟩ = some (.int .i64 h.b) := blk_cell HHr.blk 0
        have c1 : wr.cell? ⟨b, 1, none⟩ = some (.int .i64 h.l) := blk_cell HHr.blk 1
        have cf := blk_frozen HHr.blk
        have hsub : IntKind.i64.wrap ((k : Int) - n) = (k : Int) - n := wrap_ok (by omega) (by omega)
        have HO : Hid (wr.ownsRow w.heap.size 89 8 (.slice o (kpN h.L x k).length c) (kpN h.L x k).length (ncl (kpN h.L x k))) := by show World.ownsRow _ _ _ _ _ _ _; rw [← Hn.out]; exact J.out.1
        have HF : Hid (DW (((wr.setCell ⟨b, 2, none⟩ (.slice o n c)).setCell ⟨b, 0, none⟩ (.int .i64 x)).setCell ⟨b, 1, none⟩ (.int .i64 (max h.l x))) F b o c ⟨x, max h.l x, kpN h.L x k⟩) := by
          have := HH.out.kept x (max h.l x) (kpN_mem h.L x k) HFl.out HO.out J.out.2
          rw [← Hn.out] at this
          exact this
        have HT9 : Hid (Tch (fun g => ¬ F g) w (((wr.setCell ⟨b, 2, none⟩ (.slice o n c)).setCell ⟨b, 0, none⟩ (.int .i64 x)).setCell ⟨b, 1, none⟩ (.int .i64 (max h.l x)))) :=
          (((J.out.2.mono (fun _ _ e => e.elim)).setCellR ⟨b, 2, none⟩ _ HH.out.fb).setCellR ⟨b, 0, none⟩ _ HH.out.fb).setCellR ⟨b, 1, none⟩ _ HH.out.fb
        have HE9 : Hid (dtrN h x = (k : Int) - n) := by show _ = _; rw [HE0.out.1, ← Hn.out]
        clear HHr
        go_wp2_with fail
        go_ret
        exact ⟨by rw [HE9.out]; rfl, by rw [HE0.out.2]; exact ⟨o, c, HF.out⟩, HT9.out⟩
end Go.Proofs.Ytkcmpipipelgoaa
