import Derived.Test.YtnjiiebjdpipjaaTPutI
/- removeLast. -/
namespace Go.Proofs.Ytnjiiebjdpipjaa
open Go.RowKit Go

theorem res_it {fn : Func} {tmps : Array Value} {W : World} {B k : Nat} {a b : Value} (hrs : fn.results = #[.cell k 74]) (hk : tmps[k]?.getD undef = .pointer (some ⟨B, 0, none⟩))
    (hb : W.heap[B]? = some (.cells #[a, b] 74 (0, 0))) :
    (results fn tmps).run Try.prog W = .ok (.agg #[a, b]) W := by
  have c0 : W.cell? ⟨B, 0, none⟩ = some a := by rw [blk_cell hb]; rfl
  have c1 : W.cell? ⟨B, 1, none⟩ = some b := by rw [blk_cell hb]; rfl
  simp only [results, hrs]
  go_simp
theorem rs_last : Try.f55.results = #[.cell 2 74] := by kernel_rfl
theorem NWX.tch {h : Nat} {S : Nat → Prop} {w w' : World} {p : Nat} {L : List It} {ts : List (Nd It h)} {F : List Nat} {s : Int} (hN : NWX h w p L ts F s) (t : Tch S w w') (hS : ∀ b ∈ F, ¬ S b) : NWX h w' p L ts F s := by
  obtain ⟨iv, kv, qs, FF, hP, ⟨ks, rfl, rfl, rfl, h3⟩, rfl⟩ := hN
  exact ⟨iv, kv, _, _, hP.tch t (fun b hb => hS b (List.mem_append_left _ hb)), ⟨ks, rfl, rfl, rfl, kids_tch h3 t (fun b hb => hS b (List.mem_append_right _ hb))⟩, rfl⟩
theorem NWX.lt {h : Nat} {w : World} {p : Nat} {L : List It} {ts : List (Nd It h)} {F : List Nat} {s : Int} (hN : NWX h w p L ts F s) : ∀ b ∈ F, b < w.heap.size := fun b hb => by
  obtain ⟨iv, kv, qs, FF, hP, ⟨ks, rfl, rfl, rfl, h3⟩, rfl⟩ := hN
  rcases List.mem_append.1 hb with hb | hb
  · exact hP.lt b hb
  · exact kF_lt h3 b hb
/-- Two cells written. -/
theorem set2 {W : World} {B : Nat} {a b c d : Value} {t : TypeId} (h : W.heap[B]? = some (.cells #[a, b] t (0, 0))) : ((W.setCell ⟨B, 0, none⟩ c).setCell ⟨B, 1, none⟩ d).heap[B]? = some (.cells #[c, d] t (0, 0)) := by
  rw [blk_set (blk_set h c) d]; rfl
theorem set2_tch (W : World) (B : Nat) (c d : Value) : Tch (fun i => i = B) W ((W.setCell ⟨B, 0, none⟩ c).setCell ⟨B, 1, none⟩ d) := (Tch.setCell (fun i => i = B) W _ _ rfl).setCellR _ _ rfl

set_option maxHeartbeats 4000000 in
set_option maxRecDepth 100000 in
theorem last_leaf (w : World) (p : Nat) (t : Nd It 0) (F : List Nat) (hN : NW 0 w p t F) (hn : Nod F) (h1 : 1 ≤ t.its.length) (hl : t.its.length ≤ 15) :
    Calls Try.prog 55 #[pv p] w (fun x w' => ∃ (t' : Nd It 0) (F' : List Nat) (m : It), x = .returned (itV m) ∧ NW 0 w' p t' F' ∧ Fits w.heap.size F F' ∧ Tch (fun i => i ∈ F) w w' ∧ t'.sub ∧ t'.its.length ≤ t.its.length ∧ t.its.length ≤ t'.its.length + 1 ∧ t.flat 0 = t'.flat 0 ++ [m]) := by
  obtain ⟨iv, kv, hP, hFe⟩ := hN
  obtain ⟨l, hl0⟩ : ∃ l, l = t.its := ⟨_, rfl⟩
  obtain ⟨n, hn1⟩ : ∃ n, l.length = n + 1 := ⟨l.length - 1, by rw [hl0]; omega⟩
  have hsz : ((Nd.flat 0 t).length : Int) = (n : Int) + 1 := by
    have h0 : (Nd.flat 0 t).length = l.length := by rw [hl0]; rfl
    omega
  rw [← hl0, hsz] at hP
  rw [← hl0] at h1 hl
  obtain ⟨io, ic, rfl⟩ := row_slice hP.its
  rw [List.append_nil] at hFe
  have hnf : Nod (fb p (.slice io l.length ic) kv) := by rw [← hFe]; exact hn
  have hself := nod_self hnf
  obtain ⟨B, hB⟩ : ∃ B, B = w.heap.size := ⟨_, rfl⟩
  obtain ⟨w0, hw0⟩ : ∃ w0, w0 = w.alloc (.cells #[.string ⟨#[]⟩, ev gv0] 74) := ⟨_, rfl⟩
  have t0 : Tch (fun _ => False) w w0 := by rw [hw0]; exact Tch.alloc _ _ _
  have hB0 : w0.heap[B]? = some (.cells #[.string ⟨#[]⟩, ev gv0] 74 (0, 0)) := by rw [hw0, hB]; exact alloc_new _ _
  have hP0 := hP.tch t0 (fun _ _ h => h)
  obtain ⟨a0, -, a2, a3⟩ := hP0.nd.cells
  have a32 := a3 2
  obtain ⟨w1, hw1⟩ : ∃ w1, w1 = w0.setCell ⟨p, 2, none⟩ (.int .i64 n) := ⟨_, rfl⟩
  have ts : Tch (fun i => i = p) w0 w1 := by rw [hw1]; exact Tch.setCell _ _ _ _ rfl
  have hP1 : FN w1 p (.slice io l.length ic) kv l [] n := ⟨by rw [hw1]; exact hP0.nd.setSz, own_tch hP0.its ts (fun g e e' => hself.1 (by rw [← e']; exact e)), own_tch hP0.kids ts (fun g e e' => hself.2 (by rw [← e']; exact e))⟩
  have hpl : p < w.heap.size := blk_lt hP.nd
  have hB1 : w1.heap[B]? = some (.cells #[.string ⟨#[]⟩, ev gv0] 74 (0, 0)) := by rw [ts.block B (blk_lt hB0) (by omega)]; exact hB0
  have q := leaf_any p _ kv l [] _ w1 hP1
  obtain ⟨m, hm⟩ : ∃ m, l[n]? = some m := ⟨l[n]'(by omega), List.getElem?_eq_getElem (by omega)⟩
  obtain ⟨hmt, hm2⟩ := List.getElem?_eq_some_iff.1 hm
  obtain ⟨g, c, ei, hgc, hgm, hgl, j0, j1, -⟩ := it_at hP1.its hmt
  have ei' : io = some ⟨g, 0, none⟩ := by injection ei
  subst ei'
  rw [hm2] at j0 j1
  obtain ⟨w2, hw2⟩ : ∃ w2, w2 = w1.alloc (.cells #[.string m.1, ev m.2] 74) := ⟨_, rfl⟩
  have t2 : Tch (fun _ => False) w1 w2 := by rw [hw2]; exact Tch.alloc _ _ _
  obtain ⟨C, hC⟩ : ∃ C, C = w1.heap.size := ⟨_, rfl⟩
  have hC2 : w2.heap[C]? = some (.cells #[.string m.1, ev m.2] 74 (0, 0)) := by rw [hw2, hC]; exact alloc_new _ _
  have hP2 := hP1.tch t2 (fun _ _ h => h)
  have hB2 : w2.heap[B]? = some (.cells #[.string ⟨#[]⟩, ev gv0] 74 (0, 0)) := by rw [t2.block B (blk_lt hB1) (fun h => h)]; exact hB1
  have b0 := hP1.nd.cells.1
  have b2 := hP2.nd.cells.1
  rw [hw2] at b2
  have qd : Calls Try.prog 54 #[.slice (some ⟨g, 0, none⟩) (n + 1) ic, .int .i64 n, .int .i64 (n + 1)] w2 fun x w' => ∃ o c, x = .returned (.slice o n c) ∧ RI (.slice (some ⟨g, 0, none⟩) (n + 1) ic) (.slice o n c) (l.take n) w2 w' := by
    have ho := hP2.its
    rw [hn1] at ho
    refine (Idelete_any _ (n + 1) n 1 (icl l) w2 ho (by omega) (by omega) (by omega) (icl_one l)).mono ?_
    rintro x w' ⟨⟨v', rfl, hb', own'⟩, t'⟩
    rw [icl_take, icl_drop, List.drop_eq_nil_of_le (by omega), show icl [] = [] from rfl, List.append_nil, show n + 1 - 1 = n by omega] at own'
    obtain ⟨o, c, rfl⟩ := row_slice own'
    exact ⟨o, c, rfl, by rw [List.length_take, show min n l.length = n by omega]; exact own', Or.inl hb', t'⟩
  rw [hn1] at a0 b0 b2 hP1 hP2 hFe hnf hself
  have HP2 : Hid (FN w2 p (.slice (some ⟨g, 0, none⟩) (n + 1) ic) kv l [] n) := hP2
  have Hnf : Hid (Nod (fb p (.slice (some ⟨g, 0, none⟩) (n + 1) ic) kv)) := hnf
  have HFe : Hid (F = fb p (.slice (some ⟨g, 0, none⟩) (n + 1) ic) kv) := hFe
  have T02 : Hid (Tch (fun i => i = p) w w2) := ((t0.mono (fun _ _ h => h.elim)).trans' ts).trans' (t2.mono (fun _ _ h => h.elim))
  have HB : Hid (B = w.heap.size) := hB
  have HB2 : Hid (w2.heap[B]? = some (.cells #[.string ⟨#[]⟩, ev gv0] 74 (0, 0))) := hB2
  have HC2 : Hid (w2.heap[C]? = some (.cells #[.string m.1, ev m.2] 74 (0, 0))) := hC2
  have HFlt : Hid (∀ b ∈ F, b < B) := fun b hb => by rw [hFe, ← hn1] at hb; rw [hB]; exact hP.lt b hb
  have HCB : Hid (B < C ∧ p < B) := ⟨by rw [hC]; exact blk_lt hB1, by omega⟩
  have Hw0 : Hid _ := hw0
  have Hw1 : Hid _ := hw1
  have Hw2 : Hid _ := hw2
  have HC : Hid (C = w1.heap.size) := hC
  have Hm : Hid (l = l.take n ++ [m]) := by
    show l = _
    conv => lhs; rw [← List.take_append_drop n l]
    rw [List.drop_eq_getElem_cons hmt, hm2, List.drop_eq_nil_of_le (by omega)]
  have Hl0 : Hid (l = t.its) := hl0
  have Hn1 : Hid (l.length = n + 1) := hn1
  have hn16 : (n : Int) < 16 := by omega
  rw [hw0] at a0 a2 a32
  have hnI : (n : Int) < (n : Int) + 1 := by omega
  clear hP hP0 hP1 hP2 hnf hFe hB hB0 hB1 hB2 hC hC2 t0 ts t2 hw0 hw1 hw2 a3 hself hm hm2 hmt ei hgc hgm hgl hl0 hn1 hn h1 hl hsz hpl
  go_enter Try.func55, Try.ntmps55
  go_wp2_with fail
  have hw := Hw1.out
  rw [Hw0.out] at hw
  rw [← hw, ← HB.out]
  clear hw a0 a2 a32
  refine q.mono ?_
  rintro x w1' ⟨rfl, hwx⟩
  subst hwx
  clear q
  go_wp2_with fail
  have hw := Hw2.out
  rw [← hw, ← HC.out]
  clear hw b0 b2 j0 j1
  refine qd.mono ?_
  rintro x w3 ⟨o3, c3, rfl, R3⟩
  obtain ⟨s1, s2, s3⟩ := HP2.out.stepI (show RI (.slice (some ⟨g, 0, none⟩) (n + 1) ic) (.slice o3 n c3) (l.take n) w2 w3 from R3) Hnf.out
  have n0 := (nod_self Hnf.out).1
  obtain ⟨f1, -, -, f3⟩ := (HP2.out.nd.tch R3.tch n0).cells
  have f30 := f3 0
  have HT : Hid (Tch (fun i => i ∈ F) w2 (w3.setCell ⟨p, 0, none⟩ (.slice o3 n c3))) := by rw [HFe.out]; exact s2
  obtain ⟨w4, hw4⟩ : ∃ w4, w4 = w3.setCell ⟨p, 0, none⟩ (.slice o3 n c3) := ⟨_, rfl⟩
  rw [← hw4] at HT s1
  have hB4 : w4.heap[B]? = some (.cells #[.string ⟨#[]⟩, ev gv0] 74 (0, 0)) := by rw [HT.out.block B (blk_lt HB2.out) (fun h => by have := HFlt.out B h; omega)]; exact HB2.out
  have hC4 : w4.heap[C]? = some (.cells #[.string m.1, ev m.2] 74 (0, 0)) := by rw [HT.out.block C (blk_lt HC2.out) (fun h => by have := HFlt.out C h; have := HCB.out.1; omega)]; exact HC2.out
  have x0 : w4.cell? ⟨C, 0, none⟩ = some (.string m.1) := by rw [blk_cell hC4]; rfl
  have x1 : w4.cell? ⟨C, 1, none⟩ = some (ev m.2) := by rw [blk_cell hC4]; rfl
  have y0 : w4.cell? ⟨B, 0, none⟩ = some (.string ⟨#[]⟩) := by rw [blk_cell hB4]; rfl
  have y1 : w4.cell? ⟨B, 1, none⟩ = some (ev gv0) := by rw [blk_cell hB4]; rfl
  have y2 := blk_frozen hB4 0
  have y3 := blk_frozen hB4 1
  have HB4 : Hid (w4.heap[B]? = some (.cells #[.string ⟨#[]⟩, ev gv0] 74 (0, 0))) := hB4
  have S1 : Hid (FN w4 p (.slice o3 n c3) kv (l.take n) [] n) := s1
  have S3' : Hid (Fits w2.heap.size F (fb p (.slice o3 n c3) kv)) := by rw [HFe.out]; exact s3
  rw [hw4] at x0 x1 y0 y1 y2 y3
  have Hw4 : Hid _ := hw4
  clear s1 s2 s3 n0 f3 R3 hw4 hB4 hC4 qd
  go_wp2_with fail
  have hw := Hw4.out
  rw [← hw]
  clear hw x0 x1 y0 y1 y2 y3 f1 f30
  refine bodyPost_ret (res_it rs_last rfl (set2 HB4.out)) rfl ?_
  have hf : Fits w.heap.size F (fb p (.slice o3 n c3) kv) := fun b => by
    have := S3'.out b
    have h4 := T02.out.size
    have hnF : Nod F := by rw [HFe.out]; exact Hnf.out
    exact ⟨fun hb => this.1 (by omega), fun hb => S3'.out.nod hnF b⟩
  have tB := set2_tch w4 B (.string m.1) (ev m.2)
  have hBn : ∀ b ∈ fb p (.slice o3 n c3) kv, ¬ b = B := fun b hb e => by
    rcases S3'.out.old hb with h6 | h6
    · have := HFlt.out b h6; omega
    · have := blk_lt HB2.out; omega
  refine ⟨(l.take n : List It), fb p (.slice o3 n c3) kv ++ [], m, rfl, ⟨_, _, ?_, rfl⟩, by rw [List.append_nil]; exact hf, ?_, trivial, ?_, ?_, ?_⟩
  · have := S1.out.tch tB hBn
    have e : ((Nd.flat 0 (l.take n : List It)).length : Int) = n := by
      show (((l.take n).length : Nat) : Int) = n
      rw [List.length_take]; have := Hn1.out; omega
    rw [e]
    exact this
  · refine ((T02.out.mono (fun i _ h => ?_)).trans' HT.out).trans tB (fun i hi e => ?_)
    · rw [HFe.out, h]; simp [fb]
    · have := HB.out; omega
  · show (l.take n).length ≤ t.its.length; rw [← Hl0.out, List.length_take]; omega
  · show t.its.length ≤ (l.take n).length + 1; rw [← Hl0.out, List.length_take]; have := Hn1.out; omega
  · show t.its = l.take n ++ [m]; rw [← Hl0.out]; exact Hm.out
end Go.Proofs.Ytnjiiebjdpipjaa
/- removeLast of a node with kids. -/
namespace Go.Proofs.Ytnjiiebjdpipjaa
open Go.RowKit Go

set_option maxHeartbeats 4000000 in
set_option maxRecDepth 100000 in
theorem last_inner (h : Nat) (w : World) (p : Nat) (t : Nd It (h + 1)) (F : List Nat) (hN : NW (h + 1) w p t F) (hn : Nod F) (hs : t.sub) (h1 : 1 ≤ t.its.length) (hl : t.its.length ≤ 15) (hb : (t.flat (h + 1)).length ≤ 1000000000000000000)
    (IH : ∀ (w : World) (p : Nat) (t : Nd It h) (F : List Nat), NW h w p t F → Nod F → t.sub → 1 ≤ t.its.length → t.its.length ≤ 15 → (t.flat h).length ≤ 1000000000000000000 → Calls Try.prog 55 #[pv p] w (fun x w' => ∃ (t' : Nd It h) (F' : List Nat) (m : It), x = .returned (itV m) ∧ NW h w' p t' F' ∧ Fits w.heap.size F F' ∧ Tch (fun i => i ∈ F) w w' ∧ t'.sub ∧ t'.its.length ≤ t.its.length ∧ t.its.length ≤ t'.its.length + 1 ∧ t.flat h = t'.flat h ++ [m])) :
    Calls Try.prog 55 #[pv p] w (fun x w' => ∃ (t' : Nd It (h + 1)) (F' : List Nat) (m : It), x = .returned (itV m) ∧ NW (h + 1) w' p t' F' ∧ Fits w.heap.size F F' ∧ Tch (fun i => i ∈ F) w w' ∧ t'.sub ∧ t'.its.length ≤ t.its.length ∧ t.its.length ≤ t'.its.length + 1 ∧ t.flat (h + 1) = t'.flat (h + 1) ++ [m]) := by
  obtain ⟨L, hL⟩ : ∃ L, L = t.1 := ⟨_, rfl⟩
  obtain ⟨n, hn1⟩ : ∃ n, L.length = n + 1 := ⟨L.length - 1, by have h1' : 1 ≤ t.1.length := h1; rw [hL]; omega⟩
  have hts : t.2.length = n + 2 := by have := hs.1; rw [← hL] at this; omega
  obtain ⟨ka, hka0⟩ : ∃ ka, ka = t.2.take (n + 1) := ⟨_, rfl⟩
  obtain ⟨kk, hkk0⟩ : ∃ kk, kk = t.2[n + 1]'(by omega) := ⟨_, rfl⟩
  have et : t = ((L, ka ++ kk :: []) : Nd It (h + 1)) := Prod.ext hL.symm (by
    show t.2 = ka ++ [kk]
    rw [hka0, hkk0]
    conv => lhs; rw [← List.take_append_drop (n + 1) t.2]
    rw [List.drop_eq_getElem_cons (by omega), List.drop_eq_nil_of_le (by omega)])
  have hkal : ka.length = n + 1 := by rw [hka0, List.length_take]; omega
  have hkm : kk ∈ t.2 := by rw [hkk0]; exact List.getElem_mem _
  have hkam : ∀ x ∈ ka, x.ok ∧ 7 ≤ x.its.length := fun x hx => hs.2 x (by rw [hka0] at hx; exact List.mem_of_mem_take hx)
  have hkk := hs.2 kk hkm
  have hkks := (ok_iff h kk).1 hkk.1
  obtain ⟨s, hsz⟩ : ∃ s : Int, s + 1 = ((Nd.flat (h + 1) t).length : Int) := ⟨((Nd.flat (h + 1) t).length : Int) - 1, by omega⟩
  have hflp : 1 ≤ (Nd.flat (h + 1) t).length := by
    have := (its_sublist t hs.1).length_le
    omega
  obtain ⟨B, hB⟩ : ∃ B, B = w.heap.size := ⟨_, rfl⟩
  obtain ⟨w0, hw0⟩ : ∃ w0, w0 = w.alloc (.cells #[.string ⟨#[]⟩, ev gv0] 74) := ⟨_, rfl⟩
  have t0 : Tch (fun _ => False) w w0 := by rw [hw0]; exact Tch.alloc _ _ _
  have hB0 : w0.heap[B]? = some (.cells #[.string ⟨#[]⟩, ev gv0] 74 (0, 0)) := by rw [hw0, hB]; exact alloc_new _ _
  have hN0 : NWX h w0 p L (ka ++ kk :: []) F (s + 1) := by
    have h0 := hN.tch t0 (fun _ _ h => h)
    rw [hsz]
    rw [et] at h0 ⊢
    exact NW_X.1 h0
  obtain ⟨a2, a32⟩ := hN0.cells
  obtain ⟨_, _, io, ic, -, a0, -⟩ := hN0.look (by simp)
  rw [hn1] at a0
  obtain ⟨w1, hw1⟩ : ∃ w1, w1 = w0.setCell ⟨p, 2, none⟩ (.int .i64 s) := ⟨_, rfl⟩
  obtain ⟨hN1, ts1⟩ := hN0.setSz hn s
  rw [← hw1] at hN1 ts1
  have hFlt : ∀ b ∈ F, b < B := fun b hb => by rw [hB]; exact hN.lt b hb
  have hB1 : w1.heap[B]? = some (.cells #[.string ⟨#[]⟩, ev gv0] 74 (0, 0)) := by rw [ts1.block B (blk_lt hB0) (fun h => by have := hFlt B h; omega)]; exact hB0
  obtain ⟨qk, Fk, kg, kd, d1, k0, hq, hnk, hsubF, -, -, -, hstep⟩ := hN1.kid hn
  rw [show (ka ++ kk :: []).length = n + 2 by simp [hkal]] at d1
  rw [hkal] at k0
  have q : Calls Try.prog 51 #[pv p] w1 fun x w' => x = .returned (.bool false) ∧ w' = w1 := by
    obtain ⟨iv, kv, qs, FF, hP, ⟨ks, e1, e2, _, _⟩, _⟩ := hN1
    have := leaf_any p iv kv L qs s w1 hP
    rw [show qs.isEmpty = false by
      rw [e1]
      cases ks with
      | nil => simp at e2
      | cons x ks => rfl] at this
    exact this
  have hkb : (Nd.flat h kk).length + 1 ≤ (Nd.flat (h + 1) t).length + 1 := by
    have e3 := kid_mid h L [] ka [] kk (by omega)
    rw [List.append_nil] at e3
    rw [et, e3]
    simp only [List.length_append]
    omega
  have qp := IH w1 qk kk Fk hq hnk hkks.2 (by omega) hkks.1 (by omega)
  have HN : Hid (NW (h + 1) w p t F) := hN
  have HNod : Hid (Nod F) := hn
  have Hs : Hid (s + 1 = ((Nd.flat (h + 1) t).length : Int)) := hsz
  have Hb : Hid ((t.flat (h + 1)).length ≤ 1000000000000000000) := hb
  have Het : Hid (t = ((L, ka ++ kk :: []) : Nd It (h + 1))) := et
  have Hn1 : Hid (L.length = n + 1) := hn1
  have HL : Hid (L = t.1) := hL
  have Hkal : Hid (ka.length = n + 1) := hkal
  have Hkam : Hid (∀ x ∈ ka, x.ok ∧ 7 ≤ x.its.length) := hkam
  have Hkk : Hid (7 ≤ kk.its.length ∧ kk.its.length ≤ 15) := ⟨hkk.2, hkks.1⟩
  have Hstep : Hid (∀ (w' : World) (k' : Nd It h) (Fk' : List Nat), NW h w' qk k' Fk' → Fits w1.heap.size Fk Fk' → Tch (fun i => i ∈ Fk) w1 w' → ∃ F', NWX h w' p L (ka ++ k' :: []) F' s ∧ Fits w1.heap.size F F' ∧ Tch (fun i => i ∈ F) w1 w') := hstep
  have HsubF : Hid (∀ b ∈ Fk, b ∈ F) := hsubF
  have HB : Hid (B = w.heap.size) := hB
  have HB1 : Hid (w1.heap[B]? = some (.cells #[.string ⟨#[]⟩, ev gv0] 74 (0, 0))) := hB1
  have HFlt : Hid (∀ b ∈ F, b < B) := hFlt
  have T01 : Hid (Tch (fun i => i ∈ F) w w1) := (t0.mono (fun _ _ h => h.elim)).trans' ts1
  have Hl15 : Hid (L.length ≤ 15) := by show L.length ≤ 15; rw [hL]; exact hl
  have Hw0 : Hid _ := hw0
  have Hw1 : Hid _ := hw1
  have hs0 : 0 ≤ s := by omega
  have hsm : s < 1000000000000000000 := by omega
  have hn16 : (n : Int) < 16 := by have := Hl15.out; omega
  rw [hw0] at a0 a2 a32
  have hsw : IntKind.i64.wrap (s + 1 - 1) = s := by rw [show s + 1 - 1 = s by omega, IntKind.wrap_i64]; omega
  have hnI : (n : Int) + 1 < (n : Int) + 2 := by omega
  have hnI2 : (0 : Int) ≤ (n : Int) + 1 := by omega
  have hnt : ((n : Int) + 1).toNat = n + 1 := by omega
  clear hN0 hN1 ts1 t0 hw0 hw1 hB0 hB1 hB hFlt hstep hsubF hq hnk hkk hkks hkb hflp hsz hkam hkal hkm hka0 hkk0 hts et hL hn1 hN hn hs h1 hl hb IH
  go_enter Try.func55, Try.ntmps55
  go_wp2_with fail
  have hw := Hw1.out
  rw [Hw0.out] at hw
  rw [← hw, ← HB.out]
  clear hw a0 a2 a32
  refine q.mono ?_
  rintro x w1' ⟨rfl, hwx⟩
  subst hwx
  clear q
  go_wp2_with fail
  clear d1 k0
  refine qp.mono ?_
  rintro x w2 ⟨k', Fk', m, rfl, nk', fk', tk', sk', lk', lk'', fl'⟩
  obtain ⟨F2, N2, fi2, tc2⟩ := Hstep.out w2 k' Fk' nk' fk' tk'
  obtain ⟨w3, hw3⟩ : ∃ w3, w3 = w2.alloc (.cells #[.string m.1, ev m.2] 74) := ⟨_, rfl⟩
  have t3 : Tch (fun _ => False) w2 w3 := by rw [hw3]; exact Tch.alloc _ _ _
  obtain ⟨C, hC⟩ : ∃ C, C = w2.heap.size := ⟨_, rfl⟩
  have hC3 : w3.heap[C]? = some (.cells #[.string m.1, ev m.2] 74 (0, 0)) := by rw [hw3, hC]; exact alloc_new _ _
  have N3 := N2.tch t3 (fun _ _ h => h)
  have hnod2 := fi2.nod HNod.out
  have hflw : Nd.flat (h + 1) t = Nd.flat (h + 1) ((L, ka ++ k' :: []) : Nd It (h + 1)) ++ [m] := by
    rw [Het.out]
    exact last_gone h L ka kk k' m (by have := Hn1.out; have := Hkal.out; omega) fl'
  have qm := mend_x h w3 p s L ka [] k' F2 N3 hnod2 (by simp only [List.length_nil]; have := Hn1.out; have := Hkal.out; omega) (by have := Hn1.out; omega) Hl15.out (by have := Hkk.out.1; omega) (by have := Hkk.out.2; omega) sk' Hkam.out (by simp) (by
    have := congrArg List.length hflw
    rw [List.length_append] at this
    have := Hb.out
    omega)
  rw [Hkal.out, show (((n + 1 : Nat)) : Int) = (n : Int) + 1 by omega] at qm
  have X2 : Hid (Fits w.heap.size F F2 ∧ Tch (fun i => i ∈ F) w w3) := ⟨fun b => by
    have := fi2 b
    have h4 := T01.out.size
    exact ⟨fun hb => this.1 (by omega), fun hb => hnod2 b⟩, (T01.out.trans' tc2).trans' (t3.mono (fun _ _ h => h.elim))⟩
  have HF2 : Hid (∀ b ∈ F2, b ≠ B ∧ b < C) := fun b hb => ⟨fun e => by
    rcases fi2.old hb with h6 | h6
    · have := HFlt.out b h6; omega
    · have := blk_lt HB1.out; omega, by rw [hC]; exact N2.lt b hb⟩
  have HB3 : Hid (w3.heap[B]? = some (.cells #[.string ⟨#[]⟩, ev gv0] 74 (0, 0))) := by
    rw [t3.block B (Nat.lt_of_lt_of_le (blk_lt HB1.out) tc2.size) (fun h => h), tc2.block B (blk_lt HB1.out) (fun h => by have := HFlt.out B h; omega)]; exact HB1.out
  have HC3 : Hid (w3.heap[C]? = some (.cells #[.string m.1, ev m.2] 74 (0, 0))) := hC3
  have HBC : Hid (B ≠ C) := by
    have h5 := blk_lt HB1.out
    have h6 := tc2.size
    show B ≠ C
    omega
  have Hflw : Hid (Nd.flat (h + 1) t = Nd.flat (h + 1) ((L, ka ++ k' :: []) : Nd It (h + 1)) ++ [m]) := hflw
  have Hw3 : Hid _ := hw3
  have HC : Hid (C = w2.heap.size) := hC
  clear N2 N3 fi2 tc2 nk' fk' tk' sk' lk' lk'' fl' t3 hw3 hC hC3 hnod2 hflw qp Hstep
  go_wp2_with fail
  have hw := Hw3.out
  rw [← hw, ← HC.out]
  clear hw
  refine qm.mono ?_
  rintro x w4 ⟨rfl, L', ts', F4, N4, fi4, tc4, sub4, fl4, le4, ge4⟩
  have hB4 : w4.heap[B]? = some (.cells #[.string ⟨#[]⟩, ev gv0] 74 (0, 0)) := by rw [tc4.block B (blk_lt HB3.out) (fun h => (HF2.out B h).1 rfl)]; exact HB3.out
  have hC4 : w4.heap[C]? = some (.cells #[.string m.1, ev m.2] 74 (0, 0)) := by rw [tc4.block C (blk_lt HC3.out) (fun h => by have := (HF2.out C h).2; omega)]; exact HC3.out
  have x0 : w4.cell? ⟨C, 0, none⟩ = some (.string m.1) := by rw [blk_cell hC4]; rfl
  have x1 : w4.cell? ⟨C, 1, none⟩ = some (ev m.2) := by rw [blk_cell hC4]; rfl
  have y0 : w4.cell? ⟨B, 0, none⟩ = some (.string ⟨#[]⟩) := by rw [blk_cell hB4]; rfl
  have y1 : w4.cell? ⟨B, 1, none⟩ = some (ev gv0) := by rw [blk_cell hB4]; rfl
  have y2 := blk_frozen hB4 0
  have y3 := blk_frozen hB4 1
  have HB4 : Hid (w4.heap[B]? = some (.cells #[.string ⟨#[]⟩, ev gv0] 74 (0, 0))) := hB4
  have X4 : Hid (NWX h w4 p L' ts' F4 s ∧ Fits w3.heap.size F2 F4 ∧ Tch (fun i => i ∈ F2) w3 w4 ∧ Nd.sub (h + 1) ((L', ts') : Nd It (h + 1)) ∧ Nd.flat (h + 1) ((L', ts') : Nd It (h + 1)) = Nd.flat (h + 1) ((L, ka ++ k' :: []) : Nd It (h + 1)) ∧ L'.length ≤ L.length ∧ L.length ≤ L'.length + 1) := ⟨N4, fi4, tc4, sub4, fl4, le4, ge4⟩
  clear N4 fi4 tc4 sub4 fl4 le4 ge4 hB4 hC4 qm
  go_wp2_with fail
  clear x0 x1 y0 y1 y2 y3
  refine bodyPost_ret (res_it rs_last rfl (set2 HB4.out)) rfl ?_
  obtain ⟨N4, fi4, tc4, sub4, fl4, le4, ge4⟩ := X4.out
  have tB := set2_tch w4 B (.string m.1) (ev m.2)
  have hBn : ∀ b ∈ F4, ¬ b = B := fun b hb e => by
    rcases fi4.old hb with h6 | h6
    · exact (HF2.out b h6).1 e
    · have := blk_lt HB3.out; omega
  refine ⟨((L', ts') : Nd It (h + 1)), F4, m, rfl, ?_, X2.out.1.trans fi4 X2.out.2.size, ?_, sub4, ?_, ?_, ?_⟩
  · rw [NW_X]
    have e : ((Nd.flat (h + 1) ((L', ts') : Nd It (h + 1))).length : Int) = s := by
      have h8 := congrArg List.length Hflw.out
      rw [List.length_append, List.length_singleton] at h8
      have := Hs.out
      rw [fl4]
      omega
    rw [e]
    exact N4.tch tB hBn
  · refine (X2.out.2.trans tc4 (fun i hi hm => ?_)).trans tB (fun i hi e => ?_)
    · rcases X2.out.1.old hm with h6 | h6
      · exact h6
      · omega
    · have := HB.out; omega
  · show L'.length ≤ t.1.length; rw [← HL.out]; exact le4
  · show t.1.length ≤ L'.length + 1; rw [← HL.out]; exact ge4
  · rw [fl4]; exact Hflw.out
theorem last_any : ∀ (h : Nat) (w : World) (p : Nat) (t : Nd It h) (F : List Nat), NW h w p t F → Nod F → t.sub → 1 ≤ t.its.length → t.its.length ≤ 15 → (t.flat h).length ≤ 1000000000000000000 → Calls Try.prog 55 #[pv p] w (fun x w' => ∃ (t' : Nd It h) (F' : List Nat) (m : It), x = .returned (itV m) ∧ NW h w' p t' F' ∧ Fits w.heap.size F F' ∧ Tch (fun i => i ∈ F) w w' ∧ t'.sub ∧ t'.its.length ≤ t.its.length ∧ t.its.length ≤ t'.its.length + 1 ∧ t.flat h = t'.flat h ++ [m])
  | 0, w, p, t, F, a, b, _, d, e, _ => last_leaf w p t F a b d e
  | h + 1, w, p, t, F, a, b, c, d, e, f => last_inner h w p t F a b c d e f (fun w p t F => last_any h w p t F)
end Go.Proofs.Ytnjiiebjdpipjaa
