import Derived.Test.YtkcmpipipelgoaaHPut
/- areRight. -/
namespace Go.Proofs.Ytkcmpipipelgoaa
open Go.RowKit Go
set_option maxRecDepth 100000

def areGo : Int → List Tbl → Bool
  | _, [] => true
  | a, t :: r => if rightE t ≠ 0 ∨ t.id ≤ a then false else areGo t.id r

set_option maxHeartbeats 2000000 in
theorem areRight_w (P : List (Tbl × Value)) (tv : Option Addr) (tc : Nat) (F : Nat → Prop) (w : World) (hT : TL w F tv P) (hm : P.length ≤ 9223372036854775807) (h9 : ∀ p ∈ P, p.1.cols.length ≤ 9223372036854775807) :
    Calls Try.prog 21 #[.slice tv P.length tc] w fun r w' => r = .returned (.bool (areGo 0 (P.map Prod.fst))) ∧ Tch (fun _ => False) w w' := by
  obtain ⟨L, hL⟩ : ∃ L, L = P.length := ⟨_, rfl⟩
  have HL : Hid (L = P.length) := hL
  have HT : Hid (TL w F tv P) := hT
  have H9 : Hid (∀ p ∈ P, p.1.cols.length ≤ 9223372036854775807) := h9
  rw [← hL] at hm ⊢
  clear hT hL h9
  go_enter Try.func21, Try.ntmps21
  go_wp2_with fail
  go_loopg [3, 5, 8] L (fun kx s3 s5 s8 wr => ∃ (k : Nat) (a : Int), s3 = .int .i64 a ∧ s8 = .int .i64 k ∧ L - k ≤ kx ∧ k ≤ L ∧ Hid (Tch (fun _ => False) w wr ∧ areGo 0 (P.map Prod.fst) = areGo a ((P.map Prod.fst).drop k)))
  case atStart => exact ⟨0, 0, rfl, rfl, by omega, by omega, Tch.refl _ _, rfl⟩
  case round =>
    rename World => wr
    obtain ⟨k, a, rfl, rfl, hkx, hkl, J⟩ := hrel
    by_cases hk : k < L
    · have hk' : (k : Int) < (L : Int) := by omega
      have hkP : k < P.length := by have := HL.out; omega
      have hTr := HT.out.tch J.out.1 (fun _ _ e => e.elim)
      obtain ⟨g, o, hto, x0, x1, x2, x3, x4⟩ := hTr.at k hkP
      obtain ⟨co, cc, hc⟩ := hTr.col k hkP
      have hcle := H9.out _ (List.getElem_mem hkP)
      obtain ⟨p, hp⟩ : ∃ p, p = P[k] := ⟨_, rfl⟩
      rw [← hp] at x0 x1 x2 x3 x4 hc hcle
      rw [hc.eq] at x3
      have HC : Hid (CK wr F p co cc) := hc
      subst hto
      obtain ⟨N, hN⟩ : ∃ N, N = wr.heap.size := ⟨_, rfl⟩
      obtain ⟨w1, hw1⟩ : ∃ w1, w1 = wr.alloc (.cells #[.int .i64 p.1.id, .int .i64 p.1.ver, .string p.1.nm, .slice co p.1.cols.length cc, .int .i64 p.1.key] 36) := ⟨_, rfl⟩
      have t1 : Tch (fun _ => False) wr w1 := by rw [hw1]; exact Tch.alloc _ _ _
      have bN : w1.heap[N]? = some (.cells #[.int .i64 p.1.id, .int .i64 p.1.ver, .string p.1.nm, .slice co p.1.cols.length cc, .int .i64 p.1.key] 36 (0, 0)) := by rw [hw1, hN]; exact alloc_new _ _
      have q1 := right_any p.1 co cc w1 (hc.sl.no t1) hc.cap hcle
      obtain ⟨rt, hrt⟩ : ∃ rt, rt = rightE p.1 := ⟨_, rfl⟩
      rw [← hrt] at q1
      have HR : Hid (rt = rightE p.1) := hrt
      have HT1 : Hid (Tch (fun _ => False) w w1) := J.out.1.trans' t1
      have HB1 : Hid _ := bN
      have HW1 : Hid (w1 = _) := hw1
      have HN : Hid (N = wr.heap.size) := hN
      have HG : Hid (areGo 0 (P.map Prod.fst) = if rt ≠ 0 ∨ p.1.id ≤ a then false else areGo p.1.id ((P.map Prod.fst).drop (k + 1))) := by
        show _ = _
        rw [J.out.2, List.drop_eq_getElem_cons (by rw [List.length_map]; exact hkP), hrt, hp, List.getElem_map]
        rfl
      have y0 : w1.cell? ⟨N, 0, none⟩ = some (.int .i64 p.1.id) := blk_cell bN 0
      have y1 : w1.cell? ⟨N, 1, none⟩ = some (.int .i64 p.1.ver) := blk_cell bN 1
      have y2 : w1.cell? ⟨N, 2, none⟩ = some (.string p.1.nm) := blk_cell bN 2
      have y3 : w1.cell? ⟨N, 3, none⟩ = some (.slice co p.1.cols.length cc) := blk_cell bN 3
      have y4 : w1.cell? ⟨N, 4, none⟩ = some (.int .i64 p.1.key) := blk_cell bN 4
      clear hp hc hw1 hN t1 bN hrt hTr hcle hkP
      go_upto_region 5 with (fail)
      rw [← HW1.out, ← HN.out]
      clear x0 x1 x2 x3 x4
      go_wp2_with fail
      refine q1.mono ?_
      rintro e w2 ⟨rfl, t2⟩
      have b2 := (t2.block N (blk_lt HB1.out) (fun e => e)).trans HB1.out
      have HT2 : Hid (Tch (fun _ => False) w w2) := HT1.out.trans' t2
      clear q1 y0 y1 y2 y3 y4 t2
      have y0 : w2.cell? ⟨N, 0, none⟩ = some (.int .i64 p.1.id) := blk_cell b2 0
      clear b2
      by_cases hr : rt = 0
      · have hrb : (rt != 0) = false := by simp [hr]
        by_cases hle : p.1.id ≤ a
        · go_wp2_with fail
          go_ret
          exact ⟨by rw [HG.out, if_pos (.inr hle)]; rfl, HT2.out⟩
        · have HJ : Hid (Tch (fun _ => False) w w2 ∧ areGo 0 (P.map Prod.fst) = areGo p.1.id ((P.map Prod.fst).drop (k + 1))) := ⟨HT2.out, by rw [HG.out, if_neg (by simp [hr]; omega)]⟩
          go_wp2_with fail
          go_roundg (L - (k + 1))
          case measure => omega
          case rel => exact ⟨k + 1, p.1.id, rfl, rfl, by omega, by omega, HJ⟩
      · have hrb : (rt != 0) = true := by simp [hr]
        go_wp2_with fail
        go_ret
        exact ⟨by rw [HG.out, if_pos (.inl hr)]; rfl, HT2.out⟩
    · have hk' : ¬ (k : Int) < (L : Int) := by omega
      go_wp2_with fail
      go_ret
      refine ⟨?_, J.out.1⟩
      rw [J.out.2, List.drop_eq_nil_of_le (by rw [List.length_map]; have := HL.out; omega)]
      rfl
end Go.Proofs.Ytkcmpipipelgoaa
/- New. -/
namespace Go.Proofs.Ytkcmpipipelgoaa
open Go.RowKit Go
set_option maxRecDepth 100000

def newE (L : List Tbl) (x : Int) : Int := if x < 1 ∨ areGo 0 L = false then 1 else 0
def hs0 (x : Int) : Hs := ⟨x, x, fun _ => [], fun _ => 0, 0, 0⟩
/-- A history of notes one behind the other. -/
def Hs.adds (h : Hs) : List Nt → Hs
  | [] => h
  | n :: r => (h.add n.t.id n).adds r
theorem adds_snoc (h : Hs) : ∀ (l : List Nt) (n : Nt), h.adds (l ++ [n]) = (h.adds l).add n.t.id n
  | [], _ => rfl
  | m :: r, n => adds_snoc (h.add m.t.id m) r n
theorem adds_T (h : Hs) : ∀ l : List Nt, (h.adds l).T = h.T + l.length
  | [] => rfl
  | m :: r => by
    have := adds_T (h.add m.t.id m) r
    show ((h.add m.t.id m).adds r).T = _
    rw [this]
    show h.T + 1 + r.length = _
    rw [List.length_cons]
    omega
/-- Notes that say what tables say, from a position on. -/
def NotesOf (x : Int) (L : List Tbl) (l : List Nt) : Prop := l.map (fun n => n.t) = L ∧ ∀ n ∈ l, n.l = x ∧ n.th = true
def NewOut (F : Nat → Prop) (L : List Tbl) (x : Int) (r : Ending) (w' : World) : Prop :=
  (newE L x = 1 ∧ r = .returned (.tuple #[.pointer none, .int .i64 1])) ∨ (newE L x = 0 ∧ ∃ b l, r = .returned (.tuple #[.pointer (some ⟨b, 0, none⟩), .int .i64 0]) ∧ NotesOf x L l ∧ HF w' F b ((hs0 x).adds l))
theorem areGo_mem : ∀ (a : Int) (L : List Tbl), areGo a L = true → ∀ t ∈ L, rightE t = 0
  | _, [], _ => fun t h => by cases h
  | a, m :: r, h => by
    have e : areGo a (m :: r) = if rightE m ≠ 0 ∨ m.id ≤ a then false else areGo m.id r := rfl
    rw [e] at h
    split at h
    · cases h
    · rename_i h1
      intro t ht
      rcases List.mem_cons.1 ht with rfl | ht
      · cases Int.decEq (rightE t) 0 with
        | isTrue e => exact e
        | isFalse e => exact absurd (.inl e) h1
      · exact areGo_mem _ r h t ht
theorem nG0 : nG (fun _ => []) (fun _ => 0) = fun _ _ => none := by
  funext i p
  unfold nG
  split <;> simp
theorem sG0 : sG (fun _ => []) (fun _ => 0) = fun _ => none := by
  funext i
  rfl
theorem hw0 {w : World} {F : Nat → Prop} (x : Int) (hF : ∀ g, F g → g < w.heap.size) {w1 : World} (hw1 : w1 = ((w.alloc (.map #[] 0)).alloc (.map #[] 0)).alloc (.cells #[.int .i64 x, .int .i64 x, .map (some w.heap.size), .map (some (w.heap.size + 1))] 73)) : HW w1 F (w.heap.size + 2) w.heap.size (w.heap.size + 1) 0 (hs0 x) := by
  obtain ⟨wa, hwa⟩ : ∃ wa, wa = w.alloc (.map #[] 0) := ⟨_, rfl⟩
  obtain ⟨wb, hwb⟩ : ∃ wb, wb = wa.alloc (.map #[] 0) := ⟨_, rfl⟩
  rw [← hwa, ← hwb] at hw1
  have za : wa.heap.size = w.heap.size + 1 := by rw [hwa, World.size_alloc]
  have zb : wb.heap.size = w.heap.size + 2 := by rw [hwb, World.size_alloc, za]
  have ta : Tch (fun _ => False) wa wb := by rw [hwb]; exact Tch.alloc _ _ _
  have tb : Tch (fun _ => False) wb w1 := by rw [hw1]; exact Tch.alloc _ _ _
  have hn : NM wa w.heap.size 0 (fun _ _ => none) := by rw [hwa]; exact NM.made w
  have hs : SM wb (w.heap.size + 1) 0 (fun _ => none) := by rw [hwb, ← za]; exact SM.made wa
  refine { blk := ?_, nm := ?_, sm := ?_, fb := fun e => by have := hF _ e; omega, fm := fun e => by have := hF _ e; omega, fs := fun e => by have := hF _ e; omega, bm := by omega, bs := by omega, ms := by omega, nt := fun i n hn => (by cases hn), f0 := fun i _ => rfl, pl := fun i => Nat.le_refl _, sz := Nat.le_refl _, nl := Nat.le_refl _, id := fun i h => absurd rfl h, tot := fun ids _ => ?_ }
  · rw [hw1, ← zb]; exact alloc_new _ _
  · show NM w1 _ 0 (nG (fun _ => []) (fun _ => 0))
    rw [nG0]
    exact (hn.tch ta (fun e => e)).tch tb (fun e => e)
  · show SM w1 _ 0 (sG (fun _ => []) (fun _ => 0))
    rw [sG0]
    exact hs.tch tb (fun e => e)
  · show sumL (fun _ => []) ids ≤ 0
    unfold sumL
    have : ∀ l : List Int, (l.map (fun _ => ([] : List Nt).length)).sum ≤ 0 := fun l => by
      induction l with
      | nil => exact Nat.le_refl _
      | cons a r ih => simpa using ih
    exact this ids

set_option maxHeartbeats 4000000 in
theorem new_f (P : List (Tbl × Value)) (tv : Option Addr) (tc : Nat) (F G : Nat → Prop) (x : Int) (w : World) (hT : TL w G tv P) (hm : P.length < 17592186044416) (h9 : ∀ p ∈ P, p.1.cols.length ≤ 9223372036854775807) (hF : ∀ g, F g → g < w.heap.size) :
    Calls Try.prog 7 #[.slice tv P.length tc, .int .i64 x] w fun r w' => NewOut F (P.map Prod.fst) x r w' ∧ Tch (fun _ => False) w w' := by
  have q1 := areRight_w P tv tc G w hT (by omega) h9
  obtain ⟨L, hL⟩ : ∃ L, L = P.length := ⟨_, rfl⟩
  obtain ⟨ar, har⟩ : ∃ ar, ar = areGo 0 (P.map Prod.fst) := ⟨_, rfl⟩
  rw [← har] at q1
  have HE : Hid (newE (P.map Prod.fst) x = if x < 1 ∨ areGo 0 (P.map Prod.fst) = false then 1 else 0) := rfl
  rw [← har] at HE
  have HA : Hid (ar = areGo 0 (P.map Prod.fst)) := har
  have HL : Hid (L = P.length) := hL
  have HT : Hid (TL w G tv P) := hT
  have HFl : Hid (∀ g, F g → g < w.heap.size) := hF
  rw [← hL] at q1 hm ⊢
  have hL9 : L ≤ 9223372036854775807 := by omega
  clear hT hL har hF
  go_enter Try.func7, Try.ntmps7
  by_cases hx : x < 1
  · go_wp2_with fail
    go_ret2
    have e0 : newE (P.map Prod.fst) x = 1 := by rw [HE.out, if_pos (.inl hx)]
    exact ⟨.inl ⟨e0, rfl⟩, Tch.refl _ _⟩
  · go_wp2_with fail
    refine q1.mono ?_
    rintro e w1 ⟨rfl, t1⟩
    have HT1 : Hid (Tch (fun _ => False) w w1) := t1
    clear q1 t1
    cases ar with
    | false =>
      go_wp2_with fail
      go_ret2
      have e0 : newE (P.map Prod.fst) x = 1 := by rw [HE.out]; simp
      exact ⟨.inl ⟨e0, rfl⟩, HT1.out⟩
    | true =>
      obtain ⟨N, hN⟩ : ∃ N, N = w1.heap.size := ⟨_, rfl⟩
      obtain ⟨w2, hw2⟩ : ∃ w2, w2 = ((w1.alloc (.map #[] 0)).alloc (.map #[] 0)).alloc (.cells #[.int .i64 x, .int .i64 x, .map (some N), .map (some (N + 1))] 73) := ⟨_, rfl⟩
      have t2 : Tch (fun _ => False) w1 w2 := by rw [hw2]; exact ((Tch.alloc _ _ _).allocR _).allocR _
      have hH2 : HW w2 F (N + 2) N (N + 1) 0 (hs0 x) := by
        rw [hN] at hw2 ⊢
        exact hw0 x (fun g hg => Nat.lt_of_lt_of_le (HFl.out g hg) HT1.out.size) hw2
      have HW2 : Hid (w2 = _) := hw2
      have HN : Hid (N = w1.heap.size) := hN
      have HH2 : Hid (HW w2 F (N + 2) N (N + 1) 0 (hs0 x)) := hH2
      have HT2 : Hid (Tch (fun _ => False) w w2) := HT1.out.trans' t2
      have HRt : Hid (∀ p ∈ P, rightE p.1 = 0) := fun p hp => areGo_mem 0 _ HA.out.symm p.1 (List.mem_map_of_mem hp)
      clear hw2 hN t2 hH2
      have mk1 := fun W => run_makeMap (P := Try.prog) (t := 70) W
      have mk2 := fun W => run_makeMap (P := Try.prog) (t := 71) W
      go_upto_region 4 with (fail)
      rw [← HN.out, ← HW2.out]
      clear mk1 mk2
      have HJ0 : Hid (NotesOf x ((P.map Prod.fst).take 0) [] ∧ (∃ ns, HW w2 F (N + 2) N (N + 1) ns ((hs0 x).adds [])) ∧ Tch (fun g => g = N + 2 ∨ g = N ∨ g = N + 1) w2 w2) := ⟨⟨rfl, fun n hn => by cases hn⟩, ⟨0, HH2.out⟩, Tch.refl _ _⟩
      go_wp2_with fail
      go_loopg [8, 24] L (fun kx s8 s24 wr => ∃ (k : Nat) (l : List Nt), s24 = .int .i64 k ∧ L - k ≤ kx ∧ k ≤ L ∧ Hid (NotesOf x ((P.map Prod.fst).take k) l ∧ (∃ ns, HW wr F (N + 2) N (N + 1) ns ((hs0 x).adds l)) ∧ Tch (fun g => g = N + 2 ∨ g = N ∨ g = N + 1) w2 wr))
      case atStart => exact ⟨0, [], rfl, by omega, by omega, HJ0⟩
      case round =>
        rename World => wr
        obtain ⟨k, l, rfl, hkx, hkl, J⟩ := hrel
        by_cases hk : k < L
        · have hk' : (k : Int) < (L : Int) := by omega
          have hkP : k < P.length := by have := HL.out; omega
          obtain ⟨hN1, hH1, tJ⟩ := J.out
          have twr : Tch (fun _ => False) w wr := HT2.out.trans tJ (fun g hg e => by have := HT1.out.size; have := HN.out; omega)
          have hTr := HT.out.tch twr (fun _ _ e => e.elim)
          obtain ⟨g, o, hto, x0, x1, x2, x3, x4⟩ := hTr.at k hkP
          obtain ⟨co, cc, hc⟩ := hTr.col k hkP
          have hrt := HRt.out _ (List.getElem_mem hkP)
          obtain ⟨p, hp⟩ : ∃ p, p = P[k] := ⟨_, rfl⟩
          rw [← hp] at x0 x1 x2 x3 x4 hc hrt
          rw [hc.eq] at x3
          subst hto
          obtain ⟨t, ht⟩ : ∃ t, t = p.1 := ⟨_, rfl⟩
          have hcsl := hc.sl
          have hcno := hc.no
          rw [← ht] at x0 x1 x2 x3 x4 hrt hcsl hcno
          obtain ⟨hi, hid1, h8, hc1⟩ := right_id hrt
          obtain ⟨M, hM⟩ : ∃ M, M = wr.heap.size := ⟨_, rfl⟩
          obtain ⟨w3, hw3⟩ : ∃ w3, w3 = wr.alloc (.cells #[.int .i64 t.id, .int .i64 t.ver, .string t.nm, .slice co t.cols.length cc, .int .i64 t.key] 36) := ⟨_, rfl⟩
          have t3 : Tch (fun _ => False) wr w3 := by rw [hw3]; exact Tch.alloc _ _ _
          have bM : w3.heap[M]? = some (.cells #[.int .i64 t.id, .int .i64 t.ver, .string t.nm, .slice co t.cols.length cc, .int .i64 t.key] 36 (0, 0)) := by rw [hw3, hM]; exact alloc_new _ _
          have HTk : Hid ((P.map Prod.fst).take (k + 1) = (P.map Prod.fst).take k ++ [t]) := by
            show _ = _
            rw [List.take_add_one, List.getElem?_eq_getElem (by rw [List.length_map]; exact hkP), List.getElem_map, ← hp, ← ht]
            rfl
          have hll : l.length = k := by have := congrArg List.length hN1.1; rw [List.length_map, List.length_take, List.length_map] at this; omega
          have HW3 : Hid (w3 = _) := hw3
          have HM : Hid (M = wr.heap.size) := hM
          have HB3 : Hid _ := bM
          have HTJ : Hid (Tch (fun g => g = N + 2 ∨ g = N ∨ g = N + 1) w2 wr) := tJ
          have HT3 : Hid (Tch (fun _ => False) wr w3) := t3
          have HS3 : Hid (SL w3 co (ccl t.cols)) := hcsl.no t3
          have HC : Hid (co = none → t.cols = [] ∧ cc = 0) := hcno
          have HNO : Hid (NotesOf x ((P.map Prod.fst).take k) l) := hN1
          have HH3 : Hid (∃ ns, HW w3 F (N + 2) N (N + 1) ns ((hs0 x).adds l)) := by
            obtain ⟨ns, h1⟩ := hH1
            exact ⟨ns, h1.tch t3 (fun _ _ e => e.elim)⟩
          have HI : Hid (inR t.id ∧ t.cols.length ≤ 8 ∧ l.length = k) := ⟨hi, h8, hll⟩
          clear hp hc hw3 hM t3 bM hrt hTr hkP hN1 hH1 tJ twr hcsl hcno ht hi hid1 h8 hc1 hll
          go_upto_region 7 with (fail)
          rw [← HW3.out, ← HM.out]
          clear x0 x1 x2 x3 x4
          obtain ⟨C, hC⟩ : ∃ C : List Value → World → Prop, C = fun s Wy => match s with
            | [] => Tch (fun _ => False) w3 Wy
            | [y] => ∃ vo vc, y = tA t.id t.ver t.nm (.slice vo t.cols.length vc) t.key ∧ Wy.ownsRow w3.heap.size 80 3 (.slice vo t.cols.length vc) t.cols.length (ccl t.cols) ∧ Tch (fun _ => False) w3 Wy
            | _ => False := ⟨_, rfl⟩
          have HK0 : Hid (∀ Wy, Tch (fun _ => False) w3 Wy → Wy.cell? ⟨M, 0, none⟩ = some (.int .i64 t.id) ∧ Wy.cell? ⟨M, 1, none⟩ = some (.int .i64 t.ver) ∧ Wy.cell? ⟨M, 2, none⟩ = some (.string t.nm) ∧ Wy.cell? ⟨M, 3, none⟩ = some (.slice co t.cols.length cc) ∧ Wy.cell? ⟨M, 4, none⟩ = some (.int .i64 t.key)) := fun Wy ty => by
            have b9 := (ty.block M (blk_lt HB3.out) (fun e => e)).trans HB3.out
            exact ⟨blk_cell b9 0, blk_cell b9 1, blk_cell b9 2, blk_cell b9 3, blk_cell b9 4⟩
          have hK : ∀ s Wy, C s Wy → Wy.cell? ⟨M, 0, none⟩ = some (.int .i64 t.id) ∧ Wy.cell? ⟨M, 1, none⟩ = some (.int .i64 t.ver) ∧ Wy.cell? ⟨M, 2, none⟩ = some (.string t.nm) ∧ Wy.cell? ⟨M, 3, none⟩ = some (.slice co t.cols.length cc) ∧ Wy.cell? ⟨M, 4, none⟩ = some (.int .i64 t.key) := fun s Wy hy => by
            rw [hC] at hy
            match s, hy with
            | [], hy => exact HK0.out Wy hy
            | [_], ⟨_, _, _, _, hy⟩ => exact HK0.out Wy hy
          have h6 : ∀ Wy, C [] Wy → Calls Try.prog 23 #[tA t.id t.ver t.nm (.slice co t.cols.length cc) t.key] Wy fun r w' => ∃ vo vc, r = .returned (tA t.id t.ver t.nm (.slice vo t.cols.length vc) t.key) ∧ C [tA t.id t.ver t.nm (.slice vo t.cols.length vc) t.key] w' := fun Wy hy => by
            rw [hC] at hy
            refine (copied_any t co cc Wy (HS3.out.no hy) HC.out (by have := HI.out.2.1; omega)).mono ?_
            rintro r w' ⟨⟨v, rfl, hv⟩, t'⟩
            obtain ⟨vo, vc, rfl⟩ := row_slice hv
            exact ⟨vo, vc, rfl, by rw [hC]; exact ⟨vo, vc, rfl, own_low hv hy.size, hy.trans' t'⟩⟩
          have h0' : C [] w3.drew := by rw [hC]; exact (Tch.refl _ _).drew
          have hsh : ∀ y Wy, C [y] Wy → ∃ vo vc, y = tA t.id t.ver t.nm (.slice vo t.cols.length vc) t.key := fun y Wy hy => by
            rw [hC] at hy
            obtain ⟨vo, vc, e, _⟩ := hy
            exact ⟨vo, vc, e⟩
          have Hfin : Hid (∀ vo vc Wy, C [tA t.id t.ver t.nm (.slice vo t.cols.length vc) t.key] Wy → Wy.ownsRow w3.heap.size 80 3 (.slice vo t.cols.length vc) t.cols.length (ccl t.cols) ∧ Tch (fun _ => False) w3 Wy) := fun vo vc Wy hy => by
            rw [hC] at hy
            obtain ⟨vo', vc', e, h1, h2⟩ := hy
            have e' : vo = vo' ∧ vc = vc' := by simpa [tA] using e
            obtain ⟨rfl, rfl⟩ := e'
            exact ⟨h1, h2⟩
          clear hC HK0
          go_wp2_with fail
          refine wp_region_ordv [5] C 7 [0, 1, 2, 3, 4, 5, 6] (by kernel_rfl) (by kernel_rfl) h0' ?_
          clear h0'
          refine ordv_read rfl (by go_simp) (by rfl) ?_
          apply Exists.intro
          refine ⟨fun s' Wy hW b K Q hK' => ?_, fun K hK' => ?_⟩
          · obtain ⟨x0, x1, x2, x3, x4⟩ := hK _ Wy hW
            go_simp
            exact hK' Wy hW
          go_simp
          refine hK' _ ?_
          clear hK' K
          refine ordv_read rfl (by go_simp) (by rfl) ?_
          apply Exists.intro
          refine ⟨fun s' Wy hW b K Q hK' => ?_, fun K hK' => ?_⟩
          · obtain ⟨x0, x1, x2, x3, x4⟩ := hK _ Wy hW
            go_simp
            exact hK' Wy hW
          go_simp
          refine hK' _ ?_
          clear hK' K
          refine ordv_read rfl (by go_simp) (by rfl) ?_
          apply Exists.intro
          refine ⟨fun s' Wy hW b K Q hK' => ?_, fun K hK' => ?_⟩
          · obtain ⟨x0, x1, x2, x3, x4⟩ := hK _ Wy hW
            go_simp
            exact hK' Wy hW
          go_simp
          refine hK' _ ?_
          clear hK' K
          refine ordv_read rfl (by go_simp) (by rfl) ?_
          apply Exists.intro
          refine ⟨fun s' Wy hW b K Q hK' => ?_, fun K hK' => ?_⟩
          · obtain ⟨x0, x1, x2, x3, x4⟩ := hK _ Wy hW
            go_simp
            exact hK' Wy hW
          go_simp
          refine hK' _ ?_
          clear hK' K
          refine ordv_read rfl (by go_simp) (by rfl) ?_
          apply Exists.intro
          refine ⟨fun s' Wy hW b K Q hK' => ?_, fun K hK' => ?_⟩
          · obtain ⟨x0, x1, x2, x3, x4⟩ := hK _ Wy hW
            go_simp
            exact hK' Wy hW
          go_simp
          refine hK' _ ?_
          clear hK' K
          refine ordv_turn rfl (by go_simp) (by rfl) (fun Wy hW b K Q hK' => ?_) (fun y hy K hK' => ?_)
          · go_simp
            go_at_call 23
            refine (h6 Wy hW).mono ?_
            rintro r w' ⟨vo, vc, rfl, h1⟩
            exact hK' _ w' h1
          obtain ⟨vo, vc, rfl⟩ : ∃ vo vc, y = tA t.id t.ver t.nm (.slice vo t.cols.length vc) t.key := by
            obtain ⟨W', hW'⟩ := hy
            exact hsh y W' hW'
          clear hy h6 hsh
          go_simp
          refine hK' _ ?_
          clear hK' K
          refine ordv_read rfl (by go_simp) (by rfl) ?_
          apply Exists.intro
          refine ⟨fun s' Wy hW b K Q hK' => ?_, fun K hK' => ?_⟩
          · obtain ⟨x0, x1, x2, x3, x4⟩ := hK _ Wy hW
            go_simp
            exact hK' Wy hW
          go_simp
          refine hK' _ ?_
          clear hK' K
          refine ordv_nil ?_
          intro w4 hw4
          obtain ⟨hv4, t4⟩ := Hfin.out vo vc w4 hw4
          obtain ⟨ns, hH3⟩ := HH3.out
          have hH4 := hH3.tch t4 (fun _ _ e => e.elim)
          have q2 := note_w hH4 t.id ⟨x, true, t, vo, vc⟩ HI.out.1 (note_of (F := F) t x hv4 HI.out.2.1 (fun g hg => by
            have hz := HTJ.out.size
            have hz3 := HT3.out.size
            rcases hg with hg | hg | hg | hg
            · have := HFl.out g hg; have := HT2.out.size; omega
            · rw [hg]; exact blk_lt hH3.blk
            · rw [hg]; exact hH3.nm.lt
            · rw [hg]; exact hH3.sm.lt)) (by rw [adds_T, HI.out.2.2]; show 0 + k < _; omega)
          unfold Nt.v at q2
          have HT4 : Hid (Tch (fun _ => False) wr w4) := HT3.out.trans' t4
          clear hK hw4 Hfin hv4 t4 hH3 hH4
          go_wp2_with fail
          refine q2.mono ?_
          rintro e w5 ⟨rfl, h5, t5⟩
          have HJ5 : Hid (NotesOf x ((P.map Prod.fst).take (k + 1)) (l ++ [⟨x, true, t, vo, vc⟩]) ∧ (∃ ns, HW w5 F (N + 2) N (N + 1) ns ((hs0 x).adds (l ++ [⟨x, true, t, vo, vc⟩]))) ∧ Tch (fun g => g = N + 2 ∨ g = N ∨ g = N + 1) w2 w5) := by
            refine ⟨⟨by rw [HTk.out, List.map_append, HNO.out.1]; rfl, fun n hn => ?_⟩, by rw [adds_snoc]; exact h5, (HTJ.out.trans' (HT4.out.mono (fun _ _ e => e.elim))).trans' t5⟩
            rcases List.mem_append.1 hn with h1 | h1
            · exact HNO.out.2 n h1
            · rw [List.mem_singleton.1 h1]; exact ⟨rfl, rfl⟩
          clear q2 h5 t5
          go_wp2_with fail
          go_roundg (L - (k + 1))
          case measure => omega
          case rel => exact ⟨k + 1, _, rfl, by omega, by omega, HJ5⟩
        · have hk' : ¬ (k : Int) < (L : Int) := by omega
          go_wp2_with fail
          go_ret2
          obtain ⟨hN1, ⟨ns, hH1⟩, tJ⟩ := J.out
          have e9 : (P.map Prod.fst).take k = P.map Prod.fst := List.take_of_length_le (by rw [List.length_map]; have := HL.out; omega)
          rw [e9] at hN1
          have e0 : newE (P.map Prod.fst) x = 0 := by rw [HE.out, if_neg (by simp; omega)]
          exact ⟨.inr ⟨e0, N + 2, l, rfl, hN1, N, N + 1, ns, hH1⟩, HT2.out.trans tJ (fun g hg e => by have := HT1.out.size; have := HN.out; omega)⟩
end Go.Proofs.Ytkcmpipipelgoaa
