import Derived.Test.YtkcmpipipelgoaaHNum
import Derived.Test.YtkcmpipipelgoaaHAt
/- Trim. -/
namespace Go.Proofs.Ytkcmpipipelgoaa
open Go.RowKit Go
set_option maxRecDepth 100000

def fgS (h : Hs) (S : List Int) : Nat := (S.map (fun i => fgN (h.K i) h.b)).sum
/-- Behind the forgetting of some numbers. -/
def Hs.tr (h : Hs) (S : List Int) : Hs := ⟨h.b, h.l, fun i => if i ∈ S then (h.K i).drop (fgN (h.K i) h.b) else h.K i, fun i => if i ∈ S then fgF h i else h.f i, h.sz - fgS h S, h.T⟩
theorem fgS_snoc (h : Hs) (S : List Int) (i : Int) : fgS h (S ++ [i]) = fgS h S + fgN (h.K i) h.b := by simp [fgS]
theorem tr_K {h : Hs} {S : List Int} {i : Int} (hi : i ∉ S) : (h.tr S).K i = h.K i := if_neg hi
theorem tr_fg {h : Hs} {S : List Int} {i : Int} (hi : i ∉ S) : (h.tr S).fg i = h.tr (S ++ [i]) := by
  have eK := tr_K (h := h) hi
  have ef : (h.tr S).f i = h.f i := if_neg hi
  have hb : (h.tr S).b = h.b := rfl
  have e1 : ((h.tr S).fg i).K = (h.tr (S ++ [i])).K := by
    funext j
    show updK (h.tr S).K i (((h.tr S).K i).drop (fgN ((h.tr S).K i) h.b)) j = if j ∈ S ++ [i] then _ else _
    by_cases hj : j = i
    · subst hj
      rw [updK_same, eK, if_pos (by simp)]
    · rw [updK_ne _ _ hj]
      show (if j ∈ S then _ else _) = _
      by_cases hjS : j ∈ S
      · rw [if_pos hjS, if_pos (by simp [hjS])]
      · rw [if_neg hjS, if_neg (by simp [hjS, hj])]
  have e2 : ((h.tr S).fg i).f = (h.tr (S ++ [i])).f := by
    funext j
    show updK (h.tr S).f i (fgF (h.tr S) i) j = if j ∈ S ++ [i] then _ else _
    by_cases hj : j = i
    · subst hj
      rw [updK_same, if_pos (by simp)]
      unfold fgF
      rw [eK, ef, hb]
    · rw [updK_ne _ _ hj]
      show (if j ∈ S then _ else _) = _
      by_cases hjS : j ∈ S
      · rw [if_pos hjS, if_pos (by simp [hjS])]
      · rw [if_neg hjS, if_neg (by simp [hjS, hj])]
  have e3 : ((h.tr S).fg i).sz = (h.tr (S ++ [i])).sz := by
    show h.sz - fgS h S - fgN ((h.tr S).K i) h.b = h.sz - fgS h (S ++ [i])
    rw [eK, fgS_snoc]
    omega
  show Hs.mk _ _ _ _ _ _ = Hs.mk _ _ _ _ _ _
  rw [Hs.mk.injEq]
  exact ⟨rfl, rfl, e1, e2, e3, rfl⟩
theorem tr_nil (h : Hs) : h.tr [] = h := by
  show Hs.mk _ _ _ _ _ _ = _
  obtain ⟨b, l, K, f, sz, T⟩ := h
  simp [fgS]
theorem fgS_le (h : Hs) : ∀ S : List Int, fgS h S ≤ sumL h.K S
  | [] => Nat.le_refl _
  | a :: r => by
    have := fgS_le h r
    have h2 := fgN_le (h.K a) h.b
    rw [sumL_cons]
    show (fgN (h.K a) h.b :: r.map _).sum ≤ _
    rw [List.sum_cons]
    unfold fgS at this
    omega
/-- From a position on. -/
def Hs.beg (h : Hs) (x : Int) : Hs := ⟨x, max h.l x, h.K, h.f, h.sz, h.T⟩
/-- What a Trim gives. -/
def TrimOut (F : Nat → Prop) (b : Nat) (h : Hs) (x : Int) (r : Ending) (w' : World) : Prop :=
  (x ≤ h.b ∧ r = .returned (.int .i64 0) ∧ HF w' F b h) ∨ (h.b < x ∧ ∃ ids, IdsOf h.K ids ∧ r = .returned (.int .i64 (fgS (h.beg x) ids)) ∧ HF w' F b ((h.beg x).tr ids))
theorem nodup_of {ids : List Int} (h : ids.Pairwise (fun a b => a < b)) : ids.Nodup := h.imp (fun {a b} h => by omega)

set_option maxHeartbeats 2000000 in
theorem trim_f {w : World} {F : Nat → Prop} {b : Nat} {h : Hs} (H : HF w F b h) (x : Int) (hT : h.T < 17592186044416) :
    Calls Try.prog 12 #[.pointer (some ⟨b, 0, none⟩), .int .i64 x] w fun r w' => TrimOut F b h x r w' ∧ Tch (fun g => ¬ F g) w w' := by
  obtain ⟨mb, sb, ns, H⟩ := H
  obtain ⟨c0, c1, -, -⟩ := H.c
  have HH : Hid (HW w F b mb sb ns h) := H
  have HT' : Hid (h.T < 17592186044416) := hT
  have fr := blk_frozen H.blk
  clear H hT
  go_enter Try.func12, Try.ntmps12
  by_cases hle : x ≤ h.b
  · go_wp2_with fail
    go_ret
    exact ⟨.inl ⟨by omega, rfl, mb, sb, ns, HH.out⟩, Tch.refl _ _⟩
  · obtain ⟨w1, hw1⟩ : ∃ w1, w1 = (w.setCell ⟨b, 0, none⟩ (.int .i64 x)).setCell ⟨b, 1, none⟩ (.int .i64 (max h.l x)) := ⟨_, rfl⟩
    have t1 : Tch (fun g => g = b) w w1 := by rw [hw1]; exact (Tch.setCell (fun g => g = b) w ⟨b, 0, none⟩ _ rfl).setCellR ⟨b, 1, none⟩ _ rfl
    have b1 : w1.heap[b]? = some (.cells #[.int .i64 x, .int .i64 (max h.l x), .map (some mb), .map (some sb)] 73 (0, 0)) := by rw [hw1]; exact set4 (x1 := .int .i64 h.l) (by rw [blk_set HH.out.blk]; simp) _
    have H1 : HW w1 F b mb sb ns (h.beg x) :=
      { blk := b1, nm := HH.out.nm.tch t1 (fun e => HH.out.bm e.symm), sm := HH.out.sm.tch t1 (fun e => HH.out.bs e.symm), fb := HH.out.fb, fm := HH.out.fm, fs := HH.out.fs, bm := HH.out.bm, bs := HH.out.bs, ms := HH.out.ms,
        nt := fun i n hn => (HH.out.nt i n hn).tch t1 (fun g _ e => .inr (.inl e)), f0 := HH.out.f0, pl := HH.out.pl, sz := HH.out.sz, nl := HH.out.nl, id := HH.out.id, tot := HH.out.tot }
    have q1 := numbers_w H1 HT'.out
    have HH1 : Hid (HW w1 F b mb sb ns (h.beg x)) := H1
    have HT1 : Hid (Tch (fun g => g = b ∨ g = mb ∨ g = sb) w w1) := t1.mono (fun _ _ e => .inl e)
    have HW1 : Hid (w1 = _) := hw1
    clear hw1 t1 b1 H1
    go_upto_region 4 with (fail)
    rw [← HW1.out]
    clear c0 c1 fr
    go_wp2_with fail
    refine q1.mono ?_
    rintro e w2 ⟨v, ids, rfl, hids, hlen, hv, t2⟩
    obtain ⟨vo, vc, rfl⟩ := row_slice hv
    obtain ⟨L, hL⟩ : ∃ L, L = ids.length := ⟨_, rfl⟩
    have hlen' : L ≤ h.T := by rw [hL]; exact hlen
    rw [← hL] at hv ⊢
    have HL : Hid (L = ids.length) := hL
    have HI : Hid (IdsOf h.K ids) := hids
    have hLT : L < 17592186044416 := by have := HT'.out; omega
    have HV : Hid (w2.ownsRow w1.heap.size 3 1 (.slice vo L vc) L (ids.map encZ)) := hv
    have HT2 : Hid (Tch (fun g => g = b ∨ g = mb ∨ g = sb) w w2) := HT1.out.trans t2 (fun _ _ e => e.elim)
    have HH2 : Hid (HW w2 F b mb sb ns ((h.beg x).tr (ids.take 0))) := by
      have := HH1.out.tch t2 (fun _ _ e => e.elim)
      rw [List.take_zero, tr_nil]
      exact this
    have HS : Hid (∀ k, fgS (h.beg x) (ids.take k) ≤ h.T) := fun k => by
      have h1 := fgS_le (h.beg x) (ids.take k)
      have h2 := HH.out.tot (ids.take k) ((nodup_of HI.out.1).sublist (List.take_sublist k ids))
      have h3 := HH.out.sz
      have e : (h.beg x).K = h.K := rfl
      rw [e] at h1
      omega
    have hL9 : L ≤ 9223372036854775807 := by omega
    clear q1 hids hlen hv t2 hL
    go_wp2_with fail
    go_loopg [5, 7, 30] L (fun kx s5 s7 s30 wr => ∃ (k : Nat), s5 = .int .i64 (fgS (h.beg x) (ids.take k)) ∧ s30 = .int .i64 k ∧ L - k ≤ kx ∧ k ≤ L ∧ Hid (∃ ns', HW wr F b mb sb ns' ((h.beg x).tr (ids.take k)) ∧ Tch (fun g => g = b ∨ g = mb ∨ g = sb) w2 wr))
    case atStart => exact ⟨0, rfl, rfl, by omega, by omega, ns, HH2.out, Tch.refl _ _⟩
    case round =>
      rename World => wr
      obtain ⟨k, rfl, rfl, hkx, hkl, J⟩ := hrel
      obtain ⟨s, hs⟩ : ∃ s, s = fgS (h.beg x) (ids.take k) := ⟨_, rfl⟩
      have hsT : s ≤ h.T := by rw [hs]; exact HS.out k
      have hsb : s < 17592186044416 := by have := HT'.out; omega
      rw [← hs]
      have HSk : Hid (s = fgS (h.beg x) (ids.take k)) := hs
      clear hs
      by_cases hk : k < L
      · have hk' : (k : Int) < (L : Int) := by omega
        obtain ⟨ns', HJ, tJ⟩ := J.out
        obtain ⟨i, hi⟩ : ∃ i, ids[k]? = some i := ⟨_, List.getElem?_eq_getElem (by have := HL.out; omega)⟩
        obtain ⟨g, hg, hgl, hat⟩ := own_at HV.out (by omega)
        subst hg
        have hgb : ¬ (g = b ∨ g = mb ∨ g = sb) := fun e => by
          have h1 := row_ge HV.out (k := g) rfl
          have h2 := blk_lt HH1.out.blk
          have h3 := HH1.out.nm.lt
          have h4 := HH1.out.sm.lt
          omega
        have x0 : wr.cell? ⟨g, k, none⟩ = some (.int .i64 i) := by
          have : w2.cell? ⟨g, 0 + k, none⟩ = some (.int .i64 i) := hat k _ (by rw [List.getElem?_map, hi]; rfl)
          rw [Nat.zero_add] at this
          exact (tJ.cell (p := ⟨g, k, none⟩) (cell_lt this) hgb).trans this
        have hmem : i ∈ ids := List.mem_of_getElem? hi
        have hnot : i ∉ ids.take k := fun hm => by
          have hp := HI.out.1
          have hkl' : k < ids.length := (List.getElem?_eq_some_iff.1 hi).1
          have e1 : ids[k] = i := (List.getElem?_eq_some_iff.1 hi).2
          obtain ⟨j, hj, hje⟩ := List.mem_iff_getElem.1 hm
          have hjk : j < k := by rw [List.length_take] at hj; omega
          have e2 : ids[j] = i := by rw [List.getElem_take] at hje; exact hje
          have := List.pairwise_iff_getElem.1 hp j k (by omega) hkl' hjk
          omega
        have hne : ((h.beg x).tr (ids.take k)).K i ≠ [] := by rw [tr_K hnot]; exact (HI.out.2 i).1 hmem
        have q2 := forget_w HJ i (HH.out.id i ((HI.out.2 i).1 hmem)) (by have := HT'.out; show h.T < _; omega) hne
        rw [tr_K hnot, tr_fg hnot, show ids.take k ++ [i] = ids.take (k + 1) by rw [List.take_add_one, hi]; rfl] at q2
        have hs2 : fgS (h.beg x) (ids.take (k + 1)) = s + fgN (h.K i) x := by rw [List.take_add_one, hi, HSk.out]; exact fgS_snoc _ _ _
        obtain ⟨u, hu⟩ : ∃ u, u = fgN (h.K i) x := ⟨_, rfl⟩
        have eb : fgN ((h.beg x).K i) ((h.beg x).tr (ids.take k)).b = u := hu.symm
        rw [eb] at q2
        rw [← hu] at hs2
        have hub : s + u < 17592186044416 := by have := HS.out (k + 1); have := HT'.out; omega
        have HS2 : Hid (fgS (h.beg x) (ids.take (k + 1)) = s + u) := hs2
        have HTJ : Hid (Tch (fun g => g = b ∨ g = mb ∨ g = sb) w2 wr) := tJ
        clear hat hgb HJ tJ hi hmem hnot hne hs2 hu eb hgl
        go_wp2_with fail
        refine q2.mono ?_
        rintro e w3 ⟨rfl, h3, t3⟩
        have HJ3 : Hid (∃ ns', HW w3 F b mb sb ns' ((h.beg x).tr (ids.take (k + 1))) ∧ Tch (fun g => g = b ∨ g = mb ∨ g = sb) w2 w3) := by
          obtain ⟨ns3, h3⟩ := h3
          exact ⟨ns3, h3, HTJ.out.trans' t3⟩
        clear q2 h3 t3 x0
        go_wp2_with fail
        go_roundg (L - (k + 1))
        case measure => omega
        case rel => exact ⟨k + 1, by rw [HS2.out]; rfl, rfl, by omega, by omega, HJ3⟩
      · have hk' : ¬ (k : Int) < (L : Int) := by omega
        go_wp2_with fail
        go_ret
        obtain ⟨ns', HJ, tJ⟩ := J.out
        have e9 : ids.take k = ids := List.take_of_length_le (by have := HL.out; omega)
        rw [e9] at HJ
        refine ⟨.inr ⟨by omega, ids, HI.out, by rw [HSk.out, e9]; rfl, mb, sb, ns', HJ⟩, (HT2.out.trans' tJ).mono (fun g _ e => ?_)⟩
        rcases e with e | e | e
        · rw [e]; exact HH.out.fb
        · rw [e]; exact HH.out.fm
        · rw [e]; exact HH.out.fs
end Go.Proofs.Ytkcmpipipelgoaa
