import Derived.Test.YtolamjipigfocaaCWid3
import Derived.Test.YtolamjipigfocaaCWid
/- SameTable, of two that are the same. -/
namespace Go.Proofs.Ytolamjipigfocaa
open Go.RowKit Go

set_option maxHeartbeats 2000000 in
set_option maxRecDepth 100000 in
theorem same_true (t : Tbl) (ao bo : Option Addr) (ac bc : Nat) (w : World) (hA : SL w ao (ccl t.cols)) (hB : SL w bo (ccl t.cols)) (hl : t.cols.length ≤ 8) :
    Calls Try.prog 44 #[tA t.id t.ver t.nm (.slice ao t.cols.length ac) t.key, tA t.id t.ver t.nm (.slice bo t.cols.length bc) t.key] w fun x w' => x = .returned (.bool true) ∧ Tch (fun _ => False) w w' := by
  obtain ⟨n, hn⟩ : ∃ n, n = t.cols.length := ⟨_, rfl⟩
  obtain ⟨N, hN⟩ : ∃ N, N = w.heap.size := ⟨_, rfl⟩
  obtain ⟨w0, hw0⟩ : ∃ w0, w0 = (w.alloc (.cells #[.int .i64 t.id, .int .i64 t.ver, .string t.nm, .slice ao n ac, .int .i64 t.key] 36)).alloc (.cells #[.int .i64 t.id, .int .i64 t.ver, .string t.nm, .slice bo n bc, .int .i64 t.key] 36) := ⟨_, rfl⟩
  have t0 : Tch (fun _ => False) w w0 := by rw [hw0]; exact (Tch.alloc _ _ _).allocR _
  have hX : w0.heap[N]? = some (.cells #[.int .i64 t.id, .int .i64 t.ver, .string t.nm, .slice ao n ac, .int .i64 t.key] 36 (0, 0)) := by
    rw [hw0, hN]; exact (Tch.alloc (fun _ => False) _ _).block _ (by simp) (fun h => h) |>.trans (alloc_new _ _)
  have hY : w0.heap[N + 1]? = some (.cells #[.int .i64 t.id, .int .i64 t.ver, .string t.nm, .slice bo n bc, .int .i64 t.key] 36 (0, 0)) := by
    rw [hw0, hN, ← World.size_alloc]; exact alloc_new _ _
  have HB : Hid (∀ W, Tch (fun _ => False) w0 W → W.cell? ⟨N, 3, none⟩ = some (.slice ao n ac) ∧ W.cell? ⟨N + 1, 3, none⟩ = some (.slice bo n bc) ∧ SL W ao (ccl t.cols) ∧ SL W bo (ccl t.cols)) := fun W tW => by
    have h1 : W.heap[N]? = _ := (tW.block N (blk_lt hX) (fun h => h)).trans hX
    have h2 : W.heap[N + 1]? = _ := (tW.block (N + 1) (blk_lt hY) (fun h => h)).trans hY
    exact ⟨by rw [blk_cell h1]; rfl, by rw [blk_cell h2]; rfl, hA.no (t0.trans' tW), hB.no (t0.trans' tW)⟩
  have HT0 : Hid (Tch (fun _ => False) w w0) := t0
  have Hw0 : Hid _ := hw0
  have HN : Hid (N = w.heap.size) := hN
  have Hn : Hid (n = t.cols.length) := hn
  have hn8 : n ≤ 8 := by omega
  rw [← hn]
  clear hA hB hw0 hN hX hY t0 hn
  go_enter Try.func44, Try.ntmps44
  go_wp2_with fail
  have hw0 := Hw0.out
  rw [← hw0]
  rw [← HN.out]
  clear hw0
  go_loopw [5] (fun i wr => ∃ k : Nat, i = .int .i64 k ∧ k ≤ n ∧ Hid (Tch (fun _ => False) w0 wr)) (fun i _ => n - (intOf i).toNat)
  case atStart => exact ⟨0, rfl, by omega, Tch.refl _ _⟩
  case round =>
    obtain ⟨k, rfl, hk, HT⟩ := hrel
    obtain ⟨wV, hwV⟩ : ∃ wV, wV = wr := ⟨_, rfl⟩
    subst hwV
    obtain ⟨b3, b4, s1, s2⟩ := HB.out wV HT.out
    by_cases hlt : (k : Int) < n
    · have hkl : k < t.cols.length := by have := Hn.out; omega
      obtain ⟨ga, oa, rfl, ha⟩ := s1.col hkl
      obtain ⟨gb, ob, rfl, hb⟩ := s2.col hkl
      obtain ⟨c0, c1, c2⟩ := ha.col k hkl
      obtain ⟨d0, d1, d2⟩ := hb.col k hkl
      obtain ⟨x, hx⟩ : ∃ x, x = t.cols[k] := ⟨_, rfl⟩
      rw [← hx] at c0 c1 c2 d0 d1 d2
      obtain ⟨dd, hdd, hnd⟩ := ne_col x x
      obtain rfl : dd = false := by cases dd with
        | false => rfl
        | true => exact absurd rfl (hdd.1 rfl)
      have HTQ : Hid (∀ nq, Tch (fun _ => False) w0 (wV.drewN nq)) := fun nq => HT.out.drewN _
      clear hdd ha hb hx s1 s2 hkl
      go_wp2_with fail
      go_quiet (fail)
      clear c0 c1 c2 d0 d1 d2 hnd b3 b4
      have HTq := HTQ.out nq
      go_wp2_with fail
      go_roundw
      case rel => exact ⟨k + 1, by go_num, by omega, HTq⟩
      case measure => simp [intOf]; omega
    · go_wp2_with fail
      go_ret
      exact ⟨rfl, HT0.out.trans' HT.out⟩
end Go.Proofs.Ytolamjipigfocaa
/- CatalogWidens: plain mathematics. -/
namespace Go.Proofs.Ytolamjipigfocaa
open Go.RowKit Go

def tB : ByteArray := ⟨#[116]⟩
def cols3 : List Col := [⟨⟨#[105, 100]⟩, 1, false⟩, ⟨⟨#[115]⟩, 2, true⟩, ⟨⟨#[111, 107]⟩, 3, true⟩]
/-- The table, with these columns more. -/
def tabR (rest : List Col) : Tbl := ⟨1, rest.length + 1, ⟨#[116]⟩, cols3 ++ rest, 0⟩
/-- What holds of them. -/
structure WI (rest : List Col) : Prop where
  col : ∀ c ∈ rest, c.k = 1 ∧ c.nl = true
  ok : colsE (cols3 ++ rest) = 0
theorem colsGo_append : ∀ (l m a : List Col), colsGo a (l ++ m) = if colsGo a l ≠ 0 then colsGo a l else colsGo (a ++ l) m
  | [], m, a => by simp [colsGo]
  | c :: l, m, a => by
    have e1 : colsGo a (c :: l) = if colE a c ≠ 0 then colE a c else colsGo (a ++ [c]) l := rfl
    have e2 : colsGo a (c :: l ++ m) = if colE a c ≠ 0 then colE a c else colsGo (a ++ [c]) (l ++ m) := rfl
    by_cases h : colE a c = 0
    · rw [if_neg (by simp [h])] at e1 e2
      rw [e1, e2, colsGo_append l m (a ++ [c])]
      simp
    · rw [if_pos h] at e1 e2
      rw [e1, e2, if_pos h]
theorem WI.len {rest : List Col} (h : WI rest) : rest.length ≤ 5 := by
  have h1 := h.ok
  unfold colsE at h1
  split at h1
  · simp at h1
  · rename_i h2
    simp [cols3] at h2
    omega
theorem WI.nil : WI [] := ⟨fun c h => by simp at h, by decide⟩
theorem WI.right {rest : List Col} (h : WI rest) : rightE (tabR rest) = 0 := by
  have h5 := h.len
  have e1 : numOk (tabR rest).ver = true := by
    show numOk ((rest.length : Int) + 1) = true
    simp [numOk]; omega
  have e2 : colsE (tabR rest).cols = 0 := h.ok
  have e3 : keyOk (tabR rest).cols (tabR rest).key = true := by
    show keyOk (cols3 ++ rest) 0 = true
    unfold keyOk cols3
    simp
  have e0 : numOk (tabR rest).id = true := rfl
  have e4 : nmOk (tabR rest).nm = true := by show nmOk ⟨#[116]⟩ = true; decide
  unfold rightE
  rw [if_neg (by rw [e0, e1]; simp), if_neg (by rw [e4]; simp), if_neg (by rw [e2]; simp), if_neg (by rw [e3]; simp)]
theorem WI.snoc {rest : List Col} (h : WI rest) (n : ByteArray) (hn : nmOk n = true) : (widE (tabR rest) ⟨n, 1, true⟩ = 0 → WI (rest ++ [⟨n, 1, true⟩])) ∧ (widE (tabR rest) ⟨n, 1, true⟩ = 0 ∨ widE (tabR rest) ⟨n, 1, true⟩ = 54 ∨ widE (tabR rest) ⟨n, 1, true⟩ = 55) := by
  have h5 := h.len
  have key : colsE ((cols3 ++ rest) ++ [⟨n, 1, true⟩]) = 0 ∨ colsE ((cols3 ++ rest) ++ [⟨n, 1, true⟩]) = 54 ∨ colsE ((cols3 ++ rest) ++ [⟨n, 1, true⟩]) = 55 := by
    unfold colsE
    split
    · exact Or.inr (Or.inr rfl)
    · have h1 := h.ok
      unfold colsE at h1
      split at h1
      · simp at h1
      · rw [colsGo_append, h1, if_neg (by simp), List.nil_append]
        have e5 : colsGo (cols3 ++ rest) [⟨n, 1, true⟩] = if colE (cols3 ++ rest) ⟨n, 1, true⟩ ≠ 0 then colE (cols3 ++ rest) ⟨n, 1, true⟩ else 0 := rfl
        have e6 : colE (cols3 ++ rest) ⟨n, 1, true⟩ = if (cols3 ++ rest).any (fun a => decide (a.nm = n)) then 54 else 0 := by
          unfold colE
          rw [if_neg (by rw [hn]; simp), if_neg (c := kdOk 1 = false) (by decide)]
        rw [e5, e6]
        cases (cols3 ++ rest).any (fun a => decide (a.nm = n))
        · exact Or.inl (by simp)
        · exact Or.inr (Or.inl (by simp))
  have hw : widE (tabR rest) ⟨n, 1, true⟩ = colsE ((cols3 ++ rest) ++ [⟨n, 1, true⟩]) := by
    unfold widE
    have e2 : (tabR rest).cols = cols3 ++ rest := rfl
    rw [e2]
    by_cases h0 : colsE ((cols3 ++ rest) ++ [⟨n, 1, true⟩]) = 0
    · rw [h0, if_neg (by simp), if_neg]
      intro hh
      rcases hh with hh | hh
      · simp at hh
      · have e3 : (tabR rest).ver = (rest.length : Int) + 1 := rfl
        rw [e3] at hh; omega
    · rw [if_pos h0]
  rw [hw]
  refine ⟨fun e => ⟨fun c hc => ?_, by rw [← List.append_assoc]; exact e⟩, key⟩
  rw [List.mem_append, List.mem_singleton] at hc
  rcases hc with hc | rfl
  · exact h.col c hc
  · exact ⟨rfl, rfl⟩
theorem widT_tabR (rest : List Col) (x : Col) : widT (tabR rest) x = tabR (rest ++ [x]) := by
  unfold widT tabR
  simp
/-- One of few names. -/
def nmS (k : Nat) : ByteArray := ⟨#[UInt8.ofNat (97 + k)]⟩
theorem nmS_ok {k : Nat} (h : k < 6) : nmOk (nmS k) = true := by
  rcases (by omega : k = 0 ∨ k = 1 ∨ k = 2 ∨ k = 3 ∨ k = 4 ∨ k = 5) with rfl | rfl | rfl | rfl | rfl | rfl <;> decide
theorem creE0 : creE [] 0 ⟨#[116]⟩ cols3 0 = 0 := by decide
theorem creT0 : creT 0 ⟨#[116]⟩ cols3 0 = tabR [] := by simp [creT, tabR]
theorem fit5 : fitR (tabR []) [⟨1, 5, ⟨#[]⟩⟩] = ([⟨1, 5, ⟨#[]⟩⟩, nullV, nullV], 0) := by rfl
end Go.Proofs.Ytolamjipigfocaa
/- CatalogWidens: the law. -/
namespace Go.Proofs.Ytolamjipigfocaa
open Go.RowKit Go

theorem new_any (w : World) : Calls Try.prog 4 #[] w fun x w' => x = .returned (.pointer (some ⟨w.heap.size, 0, none⟩)) ∧ w' = w.alloc (.cells #[.slice none 0 0, .int .i64 0] 55) := by
  go_enter Try.func4, Try.ntmps4
  go_wp2
  go_ret
  exact ⟨rfl, rfl⟩
/-- A list of numbers that is handed in. -/
def IS (l : List Int) : List Value := l.map (fun n => .int .i64 n)
theorem isne {l : List Int} (h : 0 < l.length) : IS l ≠ [] := by
  intro e
  have h2 : (IS l).length = 0 := by rw [e]; rfl
  simp only [IS, List.length_map] at h2
  omega

end Go.Proofs.Ytolamjipigfocaa
/- Load of tables that may be loaded. -/
namespace Go.Proofs.Ytolamjipigfocaa
open Go.RowKit Go

/-- What Load gives. -/
def LoadOut (L : List Tbl) (base : Nat) (gv : Int) (x : Ending) (w' : World) : Prop := ∃ d P tv, x = .returned (.tuple #[.pointer (some ⟨d, 0, none⟩), .int .i64 0]) ∧ CO w' base d L gv P tv
/-- Tables that may be loaded. -/
structure LD (l : List (Tbl × Value)) (next : Int) : Prop where
  len : l.length ≤ 16
  cols : ∀ i (hi : i < l.length), l[i].1.cols.length ≤ 8
  right : ∀ i (hi : i < l.length), rightE l[i].1 = 0
  ids : ∀ i (hi : i < l.length), 1 ≤ l[i].1.id ∧ l[i].1.id < next
  rise : ∀ i j (hi : i < l.length) (hj : j < l.length), i < j → l[i].1.id < l[j].1.id
  nms : ∀ i j (hi : i < l.length) (hj : j < l.length), i < j → l[i].1.nm ≠ l[j].1.nm

end Go.Proofs.Ytolamjipigfocaa
/- Put and Load as plain mathematics. -/
namespace Go.Proofs.Ytolamjipigfocaa
open Go.RowKit Go

/-- Where a table stands in a list. -/
def posL (f : Tbl → Bool) (L : List Tbl) : Int := posP f (L.map (fun t => (t, Value.bool false)))
theorem posP_cong2 (f : Tbl → Bool) : ∀ {P Q : List (Tbl × Value)}, P.map Prod.fst = Q.map Prod.fst → posP f P = posP f Q
  | [], [], _ => rfl
  | [], _ :: _, h => by simp at h
  | _ :: _, [], h => by simp at h
  | p :: P, q :: Q, h => by
    simp only [List.map_cons, List.cons.injEq] at h
    unfold posP
    rw [h.1, posP_cong2 f h.2]
theorem posP_L (f : Tbl → Bool) (P : List (Tbl × Value)) : posP f P = posL f (P.map Prod.fst) := posP_cong2 f (by simp [List.map_map, Function.comp_def])
theorem posL_cases (f : Tbl → Bool) (L : List Tbl) : (posL f L = -1 ∧ ∀ i (h : i < L.length), f L[i] = false) ∨ ∃ k, ∃ (hk : k < L.length), posL f L = k ∧ f L[k] = true ∧ ∀ i (h : i < L.length), i < k → f L[i] = false := by
  rcases posP_cases f (L.map (fun t => (t, Value.bool false))) with ⟨h1, h2⟩ | ⟨k, hk, h1, h2, h3⟩
  · exact Or.inl ⟨h1, fun i hi => by have := h2 i (by simpa using hi); simpa using this⟩
  · exact Or.inr ⟨k, by simpa using hk, h1, by simpa using h2, fun i hi hik => by have := h3 i (by simpa using hi) hik; simpa using this⟩
theorem posL_any (f : Tbl → Bool) (L : List Tbl) : decide (0 ≤ posL f L) = L.any f := by
  have := posP_any f (L.map (fun t => (t, Value.bool false)))
  rw [show posP f (L.map (fun t => (t, Value.bool false))) = posL f L from rfl] at this
  rw [this]
  congr 1
  simp [List.map_map, Function.comp_def]
abbrev isId (t u : Tbl) : Bool := decide (u.id = t.id)
abbrev isNm (t u : Tbl) : Bool := decide (u.nm = t.nm)
/-- T6: what is wrong with a Put; the tables behind it; what is given last behind it. -/
def putE (L : List Tbl) (gv : Int) (t : Tbl) : Int :=
  if rightE t ≠ 0 then rightE t
  else if posL (isId t) L < 0 ∧ t.id ≠ gv + 1 then 52
  else if 0 ≤ posL (isNm t) L ∧ posL (isNm t) L ≠ posL (isId t) L then 51
  else if posL (isId t) L < 0 ∧ L.length = 16 then 53 else 0
def putL (L : List Tbl) (t : Tbl) : List Tbl := if posL (isId t) L < 0 then L ++ [t] else L.set (posL (isId t) L).toNat t
def putG (L : List Tbl) (gv : Int) (t : Tbl) : Int := if posL (isId t) L < 0 then gv + 1 else gv
theorem pair_at {R : Tbl → Tbl → Prop} {L : List Tbl} (h : L.Pairwise R) {i j : Nat} (hi : i < L.length) (hj : j < L.length) (hij : i < j) : R L[i] L[j] := List.pairwise_iff_getElem.1 h i j hi hj hij
theorem GI.put {L : List Tbl} {gv : Int} (h : GI L gv) {t : Tbl} (hE : putE L gv t = 0) : GI (putL L t) (putG L gv t) := by
  unfold putE at hE
  split at hE
  · rename_i h1; exact absurd hE h1
  rename_i hr
  have hr : rightE t = 0 := Classical.byContradiction hr
  split at hE
  · simp at hE
  rename_i h52
  split at hE
  · simp at hE
  rename_i h51
  split at hE
  · simp at hE
  rename_i h53
  have hlow := h.low
  have hhigh := h.high
  have hid := num_of (right_parts hr).1
  unfold putL putG
  by_cases hn : posL (isId t) L < 0
  · rw [if_pos hn, if_pos hn]
    have hte : t.id = gv + 1 := Classical.byContradiction fun e => h52 ⟨hn, e⟩
    have hl : L.length ≠ 16 := fun e => h53 ⟨hn, e⟩
    have hlen := h.len
    have hnm : L.any (isNm t) = false := by
      rw [← posL_any]
      refine decide_eq_false (fun h0 => h51 ⟨h0, fun e => ?_⟩)
      omega
    refine ⟨by rw [List.length_append]; simp; omega, fun u hu => ?_, fun u hu => ?_, ?_, ?_, by omega, by omega⟩
    · rcases List.mem_append.1 hu with hu | hu
      · exact h.right u hu
      · rw [List.mem_singleton.1 hu]; exact hr
    · rcases List.mem_append.1 hu with hu | hu
      · have := h.ids u hu; omega
      · rw [List.mem_singleton.1 hu]; omega
    · rw [List.pairwise_append]
      refine ⟨h.rise, List.pairwise_singleton _ _, fun a ha b hb => ?_⟩
      rw [List.mem_singleton.1 hb]
      have := h.ids a ha
      omega
    · rw [List.pairwise_append]
      refine ⟨h.nms, List.pairwise_singleton _ _, fun a ha b hb => ?_⟩
      rw [List.mem_singleton.1 hb]
      rw [List.any_eq_false] at hnm
      simpa using hnm a ha
  · rw [if_neg hn, if_neg hn]
    rcases posL_cases (isId t) L with ⟨h1, _⟩ | ⟨k, hk, h1, h2, _⟩
    · omega
    have hk2 : (posL (isId t) L).toNat = k := by omega
    rw [hk2]
    have hke : L[k].id = t.id := by simpa using h2
    have hnm : ∀ i (hi : i < L.length), i ≠ k → L[i].nm ≠ t.nm := fun i hi hik e => by
      rcases posL_cases (isNm t) L with ⟨_, g2⟩ | ⟨m, hm, g1, g2, g3⟩
      · have := g2 i hi
        simp [e] at this
      · have hmk : m = k := by
          refine Classical.byContradiction fun hne => h51 ⟨by omega, by omega⟩
        subst hmk
        have g2' : L[m].nm = t.nm := by simpa using g2
        rcases Nat.lt_or_ge i m with hlt | hge
        · exact pair_at h.nms hi hk hlt (e.trans g2'.symm)
        · exact pair_at h.nms hk hi (by omega) (g2'.trans e.symm)
    refine ⟨by rw [List.length_set]; exact h.len, fun u hu => ?_, fun u hu => ?_, pair_set k hk _ (fun a ha => by show a.id < t.id; rw [← hke]; exact ha) (fun b hb => by show t.id < b.id; rw [← hke]; exact hb) h.rise, ?_, h.low, h.high⟩
    · rcases List.mem_or_eq_of_mem_set hu with hu | rfl
      · exact h.right u hu
      · exact hr
    · rcases List.mem_or_eq_of_mem_set hu with hu | rfl
      · exact h.ids u hu
      · rw [← hke]; exact h.ids L[k] (List.getElem_mem hk)
    · rw [List.pairwise_iff_getElem]
      intro i j hi hj hij
      rw [List.length_set] at hi hj
      rw [List.getElem_set, List.getElem_set]
      split
      · rename_i e1
        rw [if_neg (by omega)]
        exact (hnm j hj (by omega)).symm
      · split
        · rename_i e1 e2
          exact hnm i hi (by omega)
        · exact pair_at h.nms hi hj hij
/-- The number of the last one. -/
def lastI (L : List Tbl) : Int := match L.getLast? with
  | none => 0
  | some t => t.id
theorem lastI_snoc (L : List Tbl) (t : Tbl) : lastI (L ++ [t]) = t.id := by simp [lastI]
/-- T2: what is wrong with a table that is to stand behind others; with a Load. -/
def ldS (next : Int) (acc : List Tbl) (t : Tbl) : Int := if rightE t ≠ 0 then rightE t else if t.id ≤ lastI acc ∨ next ≤ t.id then 1 else if acc.any (isNm t) then 51 else 0
def ldGo (next : Int) (acc : List Tbl) : List Tbl → Int
  | [] => 0
  | t :: l => if ldS next acc t ≠ 0 then ldS next acc t else ldGo next (acc ++ [t]) l
def ldE (L : List Tbl) (next : Int) : Int := if next < 1 ∨ 2147483648 < next then 1 else if 16 < L.length then 53 else ldGo next [] L
theorem ldGo_step (next : Int) (l : List Tbl) (k : Nat) (hk : k < l.length) : ldGo next (l.take k) (l.drop k) = if ldS next (l.take k) l[k] ≠ 0 then ldS next (l.take k) l[k] else ldGo next (l.take (k + 1)) (l.drop (k + 1)) := by
  rw [List.drop_eq_getElem_cons hk, ldGo, List.take_append_getElem hk]
theorem ldGo_end (next : Int) (l : List Tbl) : ldGo next (l.take l.length) (l.drop l.length) = 0 := by simp [ldGo]
/-- What holds of those that were taken so far. -/
structure LG0 (L : List Tbl) (next : Int) : Prop where
  right : ∀ t ∈ L, rightE t = 0
  ids : ∀ t ∈ L, t.id < next
  last : ∀ t ∈ L, t.id ≤ lastI L
  rise : L.Pairwise (fun a b => a.id < b.id)
  nms : L.Pairwise (fun a b => a.nm ≠ b.nm)
theorem LG0.nil (next : Int) : LG0 [] next := ⟨fun t h => by simp at h, fun t h => by simp at h, fun t h => by simp at h, List.Pairwise.nil, List.Pairwise.nil⟩
theorem LG0.snoc {L : List Tbl} {next : Int} (h : LG0 L next) {t : Tbl} (hs : ldS next L t = 0) : LG0 (L ++ [t]) next := by
  unfold ldS at hs
  split at hs
  · rename_i h1; exact absurd hs h1
  rename_i hr
  have hr : rightE t = 0 := Classical.byContradiction hr
  split at hs
  · simp at hs
  rename_i h1
  split at hs
  · simp at hs
  rename_i h2
  have h2 : L.any (isNm t) = false := by simpa using h2
  refine ⟨fun u hu => ?_, fun u hu => ?_, fun u hu => ?_, ?_, ?_⟩
  · rcases List.mem_append.1 hu with hu | hu
    · exact h.right u hu
    · rw [List.mem_singleton.1 hu]; exact hr
  · rcases List.mem_append.1 hu with hu | hu
    · exact h.ids u hu
    · rw [List.mem_singleton.1 hu]; omega
  · rw [lastI_snoc]
    rcases List.mem_append.1 hu with hu | hu
    · have := h.last u hu; omega
    · rw [List.mem_singleton.1 hu]; omega
  · rw [List.pairwise_append]
    refine ⟨h.rise, List.pairwise_singleton _ _, fun a ha b hb => ?_⟩
    rw [List.mem_singleton.1 hb]
    have := h.last a ha
    omega
  · rw [List.pairwise_append]
    refine ⟨h.nms, List.pairwise_singleton _ _, fun a ha b hb => ?_⟩
    rw [List.mem_singleton.1 hb]
    rw [List.any_eq_false] at h2
    simpa using h2 a ha
theorem LG0.gi {L : List Tbl} {next : Int} (h : LG0 L next) (hl : L.length ≤ 16) (h1 : 1 ≤ next) (h2 : next ≤ 2147483648) : GI L (next - 1) :=
  ⟨hl, h.right, fun t ht => by have := h.ids t ht; omega, h.rise, h.nms, by omega, by omega⟩
theorem lastI_low {L : List Tbl} (h : ∀ t ∈ L, rightE t = 0) : 0 ≤ lastI L ∧ lastI L ≤ 2147483647 := by
  unfold lastI
  split
  · omega
  · rename_i t ht
    have := num_of (right_parts (h t (List.mem_of_getLast? ht))).1
    omega
theorem ldS_right {next : Int} {acc : List Tbl} {t : Tbl} (h : rightE t ≠ 0) : ldS next acc t = rightE t := if_pos h
theorem ldS_ok {next : Int} {acc : List Tbl} {t : Tbl} (h : ldS next acc t = 0) : rightE t = 0 := by
  refine Classical.byContradiction fun e => ?_
  rw [ldS_right e] at h; exact e h
end Go.Proofs.Ytolamjipigfocaa
