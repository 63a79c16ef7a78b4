import Derived.Test.YtmfbhhloabkecaaGreatDoorCWid
set_option maxHeartbeats 4000000
set_option maxRecDepth 100000
namespace Go.Proofs.YtmfbhhloabkecaaGreatDoor.C
open Go.RowKit Go
theorem TL.fresh {F F' : Nat → Prop} {W : World} {to : Option Addr} {P : List (Tbl × Value)} (h : TL W F to P) (hF : ∀ i, i < W.heap.size → F' i → F i) : TL W F' to P := by
  refine ⟨h.sl, fun hP g o e hf => ?_, fun i hi => ?_⟩
  · obtain ⟨g', o', e', ha⟩ := h.sl (tcl_nil hP)
    rw [e'] at e; injection e with e; injection e with e1 e2; subst e1
    exact h.nf hP g' o' e' (hF g' (ha.lt (tcl_nil hP)) hf)
  · obtain ⟨co, cc, hck⟩ := h.col i hi
    exact ⟨co, cc, hck.eq, hck.sl, hck.no, hck.cap, fun hne g o e => ⟨fun hf => (hck.nf hne g o e).1 (hF g (hck.nf hne g o e).2 hf), (hck.nf hne g o e).2⟩⟩
theorem CA.fresh {F F' : Nat → Prop} {W : World} {b : Nat} {L : List Tbl} {gv : Int} {P : List (Tbl × Value)} {to : Option Addr} {tc : Nat} (h : CA W F b L gv P to tc) (hF : ∀ i, i < W.heap.size → F' i → F i) : CA W F' b L gv P to tc :=
  ⟨h.blk, h.eq, h.tl.fresh (fun i hi h' => h'.imp (hF i hi) id), fun hf => h.nb (hF b (blk_lt h.blk) hf)⟩
theorem chg_end {F : Nat → Prop} {b N : Nat} {E : Int} {t0 : Tbl} {L' : List Tbl} {g' : Int} {w w0 w2 W' : World} {x : Ending} (hN : N = w.heap.size) (hw : Tch (fun _ => False) w w0) (hs : w0.heap.size = N + 1) (h : ChgOut (fun i => F i ∨ i = N) b E t0 L' g' w0 x w2) (tE : Tch (fun i => i = N) w2 W') : ChgOut F b E t0 L' g' w x W' := by
  refine ⟨fun e => ?_, fun e => ?_⟩
  · obtain ⟨v, P, to, tc, hx, hv, hca, ht⟩ := h.1 e
    have hv' : ∀ g, v.ownBlock = some g → N + 1 ≤ g := fun g e => by have := (hv.lt g e).1; omega
    refine ⟨v, P, to, tc, hx, own_low (own_tch hv tE (fun g e e2 => by have := hv' g e; omega)) (by omega), ?_, ?_⟩
    · have h1 := hca.tch tE (fun i _ e => Or.inl (Or.inr e))
      exact h1.fresh (fun i _ hh => hh.imp Or.inl id)
    · exact ((hw.mono (T := fun i => i = b) (fun _ _ h => h.elim)).trans' ht).trans tE (fun i hi e => by omega)
  · obtain ⟨hx, ht⟩ := h.2 e
    exact ⟨hx, (hw.trans' ht).trans tE (fun i hi e => by omega)⟩
theorem chg_shape {F : Nat → Prop} {b : Nat} {E : Int} {t0 : Tbl} {L' : List Tbl} {g' : Int} {w w2 : World} {x : Ending} (h : ChgOut F b E t0 L' g' w x w2) : ∃ i j s v k, x = .returned (.tuple #[tA i j s v k, .int .i64 E]) ∧ (∃ ao n c, v = .slice ao n c) := by
  by_cases e : E = 0
  · obtain ⟨v, P, to, tc, hx, hv, _⟩ := h.1 e
    obtain ⟨ao, c, e2⟩ := row_slice hv
    exact ⟨_, _, _, v, _, by rw [hx, e], ao, _, c, e2⟩
  · exact ⟨0, 0, ⟨#[]⟩, .slice none 0 0, 0, (h.2 e).1, none, 0, 0, rfl⟩
theorem create_any (b : Nat) (L : List Tbl) (gv : Int) (P : List (Tbl × Value)) (to : Option Addr) (tc : Nat) (F : Nat → Prop) (nm : ByteArray) (cols : List Col) (ao : Option Addr) (c : Nat) (key : Int) (w : World) (h : CA w F b L gv P to tc) (hl : P.length ≤ 16) (h8 : ∀ i (hi : i < P.length), P[i].1.cols.length ≤ 8) (hF : ∀ i, F i → i < w.heap.size)
    (ht : SL w ao (ccl cols)) (hno : ao = none → cols = [] ∧ c = 0) (hcap : cols.length ≤ c) (hcl : cols.length ≤ 9223372036854775807) (h0 : 0 ≤ gv) (h1 : gv ≤ 2147483647) (hab : ∀ g o, ao = some ⟨g, o, none⟩ → cols ≠ [] → g ≠ b) :
    Calls Tryz.prog 8 #[.pointer (some ⟨b, 0, none⟩), .string nm, .slice ao cols.length c, .int .i64 key] w fun x w' => ChgOut F b (creE L gv nm cols key) (creT gv nm cols key) (L ++ [creT gv nm cols key]) (gv + 1) w x w' := by
  obtain ⟨N, hN⟩ : ∃ N, N = w.heap.size := ⟨_, rfl⟩
  obtain ⟨w0, hw0⟩ : ∃ w0, w0 = w.alloc (.cells #[.int .i64 0, .int .i64 0, .string ⟨#[]⟩, .slice none 0 0, .int .i64 0] 29) := ⟨_, rfl⟩
  have t0 : Tch (fun _ => False) w w0 := by rw [hw0]; exact Tch.alloc _ _ _
  have hs0 : w0.heap.size = N + 1 := by rw [hw0, World.size_alloc, hN]
  have hY : w0.heap[N]? = some (.cells #[.int .i64 0, .int .i64 0, .string ⟨#[]⟩, .slice none 0 0, .int .i64 0] 29 (0, 0)) := by rw [hw0, hN]; exact alloc_new _ _
  have hbN : b < N := by rw [hN]; exact blk_lt h.blk
  have hPL : P.map Prod.fst = L := h.eq
  have hslt : ∀ g o, ao = some ⟨g, o, none⟩ → cols ≠ [] → g < N := fun g o e hc => by
    obtain ⟨g', o', e', ha⟩ := ht (f3_nil _ _ _ hc)
    rw [e'] at e; injection e with e; injection e with e1 e2; subst e1
    rw [hN]; exact ha.lt (f3_nil _ _ _ hc)
  obtain ⟨E, hE⟩ : ∃ E, E = creE L gv nm cols key := ⟨_, rfl⟩
  have ht8 : E = 0 → cols.length ≤ 8 := fun e => by
    have h2 : rightE (creT gv nm cols key) = 0 := by
      rw [hE] at e
      unfold creE at e
      split at e
      · simp at e
      · split at e
        · simp at e
        · split at e
          · simp at e
          · exact e
    exact (right_len h2).2
  have q1 : Calls Tryz.prog 24 #[.pointer (some ⟨b, 0, none⟩), .func (.func 25) #[.agg #[.string nm, .slice ao cols.length c, .int .i64 key]] #[]] w0 fun x w' => ChgOut (fun i => F i ∨ i = N) b E (creT gv nm cols key) (L ++ [creT gv nm cols key]) (gv + 1) w0 x w' := by
    have hca : CA w0 (fun i => F i ∨ i = N) b L gv P to tc := by
      have h2 : CA w (fun i => F i ∨ i = N) b L gv P to tc := h.fresh (fun i hi hh => hh.elim id (fun e => by omega))
      exact h2.tch t0 (fun _ _ h => h.elim)
    have hF0 : ∀ i, (F i ∨ i = N) → i < w0.heap.size := fun i hi => by
      rcases hi with hi | hi
      · have := hF i hi; omega
      · omega
    have hon : ∀ t00 : Tbl, (E = 0 → t00 = creT gv nm cols key) → ∀ W d Q tv, Tch (fun _ => False) w0 W → w0.heap.size + 1 ≤ W.heap.size → Q.length = P.length → CO W (w0.heap.size + 1) d L gv Q tv → Calls Tryz.prog 25 #[.agg #[.string nm, .slice ao cols.length c, .int .i64 key], .pointer (some ⟨d, 0, none⟩)] W fun x w' => OnOut (w0.heap.size + 1) d E (TX b w0.heap.size t00) (L ++ [creT gv nm cols key]) (gv + 1) x w' ∧ Tch (fun i => w0.heap.size + 1 ≤ i) W w' := fun t00 ht00 W d Q tv tW hsz hQl hCO => by
      have hslW : SL W ao (ccl cols) := (ht.no t0).no tW
      refine (creationOn_any (w0.heap.size + 1) d L gv Q tv nm cols ao c key W hCO hslW hno hcap hcl (by omega) h0 h1 hsz).mono ?_
      rintro x w' ⟨hO, t'⟩
      rw [← hE] at hO
      refine ⟨⟨fun e => ?_, hO.2⟩, t'⟩
      obtain ⟨v, P', tv', hx, hv, hco⟩ := hO.1 e
      refine ⟨v, P', tv', hx, ?_, hco⟩
      rw [ht00 e]
      refine ⟨ao, c, hv, ?_, hno, fun g o e2 hc => ⟨hab g o e2 hc, ?_⟩⟩
      · show SL w' ao (ccl cols)
        by_cases hc : cols = []
        · rw [hc]; exact SL.nil _ _
        · exact hslW.tch t' (fun g o e2 h => by have := hslt g o e2 hc; omega)
      · have := hslt g o e2 hc; omega
    by_cases hbig : cols.length ≤ 8
    · exact change_create b L gv P to tc (fun i => F i ∨ i = N) nm ao cols.length c key E (creT gv nm cols key) _ _ w0 hca hl h8 hbig hF0 (hon _ (fun _ => rfl))
    · have hE0 : E ≠ 0 := fun e => hbig (ht8 e)
      refine (change_create b L gv P to tc (fun i => F i ∨ i = N) nm ao cols.length c key E ⟨0, 0, ⟨#[]⟩, [], 0⟩ _ _ w0 hca hl h8 (by simp) hF0 (hon _ (fun e => absurd e hE0))).mono ?_
      rintro x w' hO
      exact ⟨fun e => absurd e hE0, hO.2⟩
  have Hw0 : Hid _ := hw0
  have HN : Hid (N = w.heap.size) := hN
  have Ht0 : Hid (Tch (fun _ => False) w w0) := t0
  have Hs0 : Hid (w0.heap.size = N + 1) := hs0
  have HY : Hid (w0.heap[N]? = some (.cells #[.int .i64 0, .int .i64 0, .string ⟨#[]⟩, .slice none 0 0, .int .i64 0] 29 (0, 0))) := hY
  rw [← hE]
  clear h hw0 hN hY t0 hs0 ht hab hslt ht8 hPL hE h8 hF
  go_enter Tryz.func8, Tryz.ntmps8
  go_wp2_with fail
  rw [← HN.out]
  have hw0 := Hw0.out
  rw [← hw0]
  clear hw0
  refine q1.mono ?_
  rintro x w2 hO
  clear q1
  obtain ⟨i, j, s, v, kk, rfl, vo, vn, vc, rfl⟩ := chg_shape hO
  have t2 : Tch (fun i => i = b) w0 w2 := by
    by_cases e : E = 0
    · obtain ⟨_, _, _, _, _, _, _, ht⟩ := hO.1 e; exact ht
    · exact (hO.2 e).2.mono (fun _ _ h => h.elim)
  have hY2 : w2.heap[N]? = some (.cells #[.int .i64 0, .int .i64 0, .string ⟨#[]⟩, .slice none 0 0, .int .i64 0] 29 (0, 0)) := by rw [t2.block N (blk_lt HY.out) (by omega)]; exact HY.out
  obtain ⟨z0, z1, z2, z3, z4⟩ : w2.cell? ⟨N, 0, none⟩ = some (.int .i64 0) ∧ w2.cell? ⟨N, 1, none⟩ = some (.int .i64 0) ∧ w2.cell? ⟨N, 2, none⟩ = some (.string ⟨#[]⟩) ∧ w2.cell? ⟨N, 3, none⟩ = some (.slice none 0 0) ∧ w2.cell? ⟨N, 4, none⟩ = some (.int .i64 0) := ⟨by rw [blk_cell hY2]; rfl, by rw [blk_cell hY2]; rfl, by rw [blk_cell hY2]; rfl, by rw [blk_cell hY2]; rfl, by rw [blk_cell hY2]; rfl⟩
  have f0 := blk_frozen hY2 0; have f1 := blk_frozen hY2 1; have f2 := blk_frozen hY2 2; have f3 := blk_frozen hY2 3; have f4 := blk_frozen hY2 4
  have hrs : Tryz.f8.results = #[.cell 8 29, .tmp 9] := by kernel_rfl
  have HFin : Hid (∀ W', W' = ((((w2.setCell ⟨N, 0, none⟩ (.int .i64 i)).setCell ⟨N, 1, none⟩ (.int .i64 j)).setCell ⟨N, 2, none⟩ (.string s)).setCell ⟨N, 3, none⟩ (.slice vo vn vc)).setCell ⟨N, 4, none⟩ (.int .i64 kk) → (∀ tmps : Array Value, tmps[8]?.getD undef = .pointer (some ⟨N, 0, none⟩) → tmps[9]?.getD undef = .int .i64 E → (results Tryz.f8 tmps).run Tryz.prog W' = .ok (.tuple #[tA i j s (.slice vo vn vc) kk, .int .i64 E]) W') ∧ ChgOut F b E (creT gv nm cols key) (L ++ [creT gv nm cols key]) (gv + 1) w (.returned (.tuple #[tA i j s (.slice vo vn vc) kk, .int .i64 E])) W') := fun W' hW' => by
    have tE : Tch (fun i => i = N) w2 W' := by rw [hW']; exact ((((Tch.setCell (fun i => i = N) w2 ⟨N, 0, none⟩ _ rfl).setCellR ⟨N, 1, none⟩ _ rfl).setCellR ⟨N, 2, none⟩ _ rfl).setCellR ⟨N, 3, none⟩ _ rfl).setCellR ⟨N, 4, none⟩ _ rfl
    have hb : W'.heap[N]? = some (.cells #[.int .i64 i, .int .i64 j, .string s, .slice vo vn vc, .int .i64 kk] 29 (0, 0)) := by
      rw [hW', blk_set (blk_set (blk_set (blk_set (blk_set hY2 _) _) _) _) _]; rfl
    exact ⟨fun tmps h4 h5 => res_pair hrs h4 h5 (by rw [blk_cell hb]; rfl) (by rw [blk_cell hb]; rfl) (by rw [blk_cell hb]; rfl) (by rw [blk_cell hb]; rfl) (by rw [blk_cell hb]; rfl), chg_end HN.out Ht0.out Hs0.out hO tE⟩
  clear hO hY2 t2
  go_wp2_with fail
  refine bodyPost_ret ((HFin.out _ rfl).1 _ ?_ ?_) rfl (HFin.out _ rfl).2 <;> rfl
end Go.Proofs.YtmfbhhloabkecaaGreatDoor.C
namespace Go.Proofs.YtmfbhhloabkecaaGreatDoor.C
open Go.RowKit Go
theorem TO.tch2 {S : Nat → Prop} {W W' : World} {base : Nat} {tv : Value} {P : List (Tbl × Value)} (h : TO W base tv P) (t : Tch S W W') (h1 : ∀ g, tv.ownBlock = some g → ¬ S g) (h2 : ∀ i (hi : i < P.length) g, P[i].2.ownBlock = some g → ¬ S g) : TO W' base tv P :=
  ⟨own_tch h.own t h1, fun i hi => own_tch (h.col i hi) t (h2 i hi), h.sep, h.dis⟩
end Go.Proofs.YtmfbhhloabkecaaGreatDoor.C
namespace Go.Proofs.YtmfbhhloabkecaaGreatDoor.C
open Go.RowKit Go
end Go.Proofs.YtmfbhhloabkecaaGreatDoor.C
namespace Go.Proofs.YtmfbhhloabkecaaGreatDoor.C
open Go.RowKit Go
theorem change_widen (b : Nat) (L : List Tbl) (gv : Int) (P : List (Tbl × Value)) (to : Option Addr) (tc : Nat) (F : Nat → Prop) (nm : ByteArray) (x : Col) (E : Int) (t0 : Tbl) (L' : List Tbl) (g' : Int) (w : World) (h : CA w F b L gv P to tc) (hl : P.length ≤ 16) (h8 : ∀ i (hi : i < P.length), P[i].1.cols.length ≤ 8) (ht8 : t0.cols.length ≤ 8) (hF : ∀ i, F i → i < w.heap.size)
    (hon : ∀ W d Q tv, Tch (fun _ => False) w W → w.heap.size + 1 ≤ W.heap.size → Q.length = P.length → CO W (w.heap.size + 1) d L gv Q tv → Calls Tryz.prog 29 #[.agg #[.string nm, .string x.nm, .int .i64 x.k, .bool x.nl], .pointer (some ⟨d, 0, none⟩)] W fun x w' => OnOut (w.heap.size + 1) d E (TX b w.heap.size t0) L' g' x w' ∧ Tch (fun i => w.heap.size + 1 ≤ i) W w') :
    Calls Tryz.prog 24 #[.pointer (some ⟨b, 0, none⟩), .func (.func 29) #[.agg #[.string nm, .string x.nm, .int .i64 x.k, .bool x.nl]] #[]] w fun x w' => ChgOut F b E t0 L' g' w x w' := by
  obtain ⟨N, hN⟩ : ∃ N, N = w.heap.size := ⟨_, rfl⟩
  obtain ⟨w0, hw0⟩ : ∃ w0, w0 = w.alloc (.cells #[.int .i64 0, .int .i64 0, .string ⟨#[]⟩, .slice none 0 0, .int .i64 0] 29) := ⟨_, rfl⟩
  have t00 : Tch (fun _ => False) w w0 := by rw [hw0]; exact Tch.alloc _ _ _
  have hs0 : w0.heap.size = N + 1 := by rw [hw0, World.size_alloc, hN]
  have hY : w0.heap[N]? = some (.cells #[.int .i64 0, .int .i64 0, .string ⟨#[]⟩, .slice none 0 0, .int .i64 0] 29 (0, 0)) := by rw [hw0, hN]; exact alloc_new _ _
  have q1 := clone_any b L gv P to tc F w0 (h.tch t00 (fun _ _ h => h.elim)) hl h8
  rw [hs0] at q1
  have hPL : P.length = L.length := by rw [← h.eq]; simp
  have hbN : b < N := by rw [hN]; exact blk_lt h.blk
  have Hb : Hid (∀ W, Tch (fun _ => False) w W → W.heap[b]? = some (.cells #[.slice to P.length tc, .int .i64 gv] 60 (0, 0))) := fun W tW => (h.tch tW (fun _ _ h => h.elim)).blk
  have HY : Hid (w0.heap[N]? = some (.cells #[.int .i64 0, .int .i64 0, .string ⟨#[]⟩, .slice none 0 0, .int .i64 0] 29 (0, 0))) := hY
  have Hw0 : Hid _ := hw0
  have HN : Hid (N = w.heap.size) := hN
  have Ht0 : Hid (Tch (fun _ => False) w w0) := t00
  have Hs0 : Hid (w0.heap.size = N + 1) := hs0
  have Hnb : Hid (¬ F b) := h.nb
  have HPL : Hid (P.length = L.length) := hPL
  have Hon : Hid _ := hon
  have HF : Hid _ := hF
  clear h hw0 hN hY t00 hs0 hPL hon h8 hF
  go_enter Tryz.func24, Tryz.ntmps24
  go_wp2_with fail
  rw [← HN.out]
  have hw0 := Hw0.out
  rw [← hw0]
  clear hw0
  refine q1.mono ?_
  rintro x w1 ⟨⟨d, tv, Q, rfl, hCO⟩, t1⟩
  clear q1
  have hQl : Q.length = P.length := by have h1 := congrArg List.length hCO.eq; rw [List.length_map] at h1; rw [h1, HPL.out]
  have q2 := Hon.out w1 d Q tv (Ht0.out.trans' t1) (by have := t1.size; have := Hs0.out; have := HN.out; omega) hQl (by rw [← HN.out]; exact hCO)
  rw [← HN.out] at q2
  have HdN : Hid (N < d ∧ d < w1.heap.size) := ⟨by have := hCO.ge; show N < d; omega, blk_lt hCO.blk⟩
  clear hCO
  go_wp2_with fail
  refine q2.mono ?_
  rintro x w2 ⟨hO, t2⟩
  clear q2
  have T2 : Tch (fun _ => False) w w2 := (Ht0.out.trans' t1).trans t2 (fun i hi h => by have := HN.out; omega)
  have hY2 : w2.heap[N]? = some (.cells #[.int .i64 0, .int .i64 0, .string ⟨#[]⟩, .slice none 0 0, .int .i64 0] 29 (0, 0)) := by
    rw [t2.block N (Nat.lt_of_lt_of_le (blk_lt HY.out) t1.size) (by omega), t1.block N (blk_lt HY.out) (fun h => h)]; exact HY.out
  have HY2 : Hid (w2.heap[N]? = some (.cells #[.int .i64 0, .int .i64 0, .string ⟨#[]⟩, .slice none 0 0, .int .i64 0] 29 (0, 0))) := hY2
  have HT2 : Hid (Tch (fun _ => False) w w2) := T2
  have hrs : Tryz.f24.results = #[.cell 4 29, .tmp 5] := by kernel_rfl
  have Hrs : Hid _ := hrs
  clear hY2 T2 hrs
  by_cases hE : E = 0
  · subst hE
    obtain ⟨v, Pd, tvd, rfl, ⟨co, cc, rfl, hsl, hno, hnb⟩, hCO2⟩ := hO.1 rfl
    clear hO
    obtain ⟨tdo, tdc, htd⟩ := row_slice hCO2.to.own
    subst htd
    have d0 : w2.cell? ⟨d, 0, none⟩ = some (.slice tdo Pd.length tdc) := by rw [blk_cell hCO2.blk]; rfl
    have d1 : w2.cell? ⟨d, 1, none⟩ = some (.int .i64 g') := by rw [blk_cell hCO2.blk]; rfl
    have hb2 := Hb.out w2 HT2.out
    have b0 : w2.cell? ⟨b, 0, none⟩ = some (.slice to P.length tc) := by rw [blk_cell hb2]; rfl
    have b1 : w2.cell? ⟨b, 1, none⟩ = some (.int .i64 gv) := by rw [blk_cell hb2]; rfl
    have f0 := blk_frozen hb2 0
    have f1 := blk_frozen hb2 1
    obtain ⟨B, hB⟩ : ∃ B, B = w2.heap.size := ⟨_, rfl⟩
    obtain ⟨w3, hw3⟩ : ∃ w3, w3 = w2.alloc (.cells #[.int .i64 t0.id, .int .i64 t0.ver, .string t0.nm, .slice co t0.cols.length cc, .int .i64 t0.key] 29) := ⟨_, rfl⟩
    have t3 : Tch (fun _ => False) w2 w3 := by rw [hw3]; exact Tch.alloc _ _ _
    have key3 : ∀ i j v, w2.cell? ⟨i, j, none⟩ = some v → w3.cell? ⟨i, j, none⟩ = some v := fun i j v hv => (t3.cell (p := ⟨i, j, none⟩) (cell_lt hv) (fun h => h)).trans hv
    have keyf : ∀ i j, i < w2.heap.size → w3.frozen? ⟨i, j, none⟩ = w2.frozen? ⟨i, j, none⟩ := fun i j hi => t3.frozen (p := ⟨i, j, none⟩) hi (fun h => h)
    have hbl2 : b < w2.heap.size := blk_lt hb2
    have e0 := key3 _ _ _ d0; have e1 := key3 _ _ _ d1; have c0 := key3 _ _ _ b0; have c1 := key3 _ _ _ b1
    have h0 : w3.frozen? ⟨b, 0, none⟩ = false := (keyf b 0 hbl2).trans f0
    have h1 : w3.frozen? ⟨b, 1, none⟩ = false := (keyf b 1 hbl2).trans f1
    have hbx3 : w3.heap[B]? = some (.cells #[.int .i64 t0.id, .int .i64 t0.ver, .string t0.nm, .slice co t0.cols.length cc, .int .i64 t0.key] 29 (0, 0)) := by rw [hw3, hB]; exact alloc_new _ _
    obtain ⟨w4, hw4⟩ : ∃ w4, w4 = (w3.setCell ⟨b, 0, none⟩ (.slice tdo Pd.length tdc)).setCell ⟨b, 1, none⟩ (.int .i64 g') := ⟨_, rfl⟩
    have t4 : Tch (fun i => i = b) w3 w4 := by rw [hw4]; exact (Tch.setCell (fun i => i = b) w3 ⟨b, 0, none⟩ _ rfl).setCellR ⟨b, 1, none⟩ _ rfl
    have hBb : B ≠ b := by omega
    have hbx4 : w4.heap[B]? = some (.cells #[.int .i64 t0.id, .int .i64 t0.ver, .string t0.nm, .slice co t0.cols.length cc, .int .i64 t0.key] 29 (0, 0)) := by rw [t4.block B (blk_lt hbx3) hBb]; exact hbx3
    have hb4 : w4.heap[b]? = some (.cells #[.slice tdo Pd.length tdc, .int .i64 g'] 60 (0, 0)) := by
      have hb3 : w3.heap[b]? = some (.cells #[.slice to P.length tc, .int .i64 gv] 60 (0, 0)) := by rw [t3.block b hbl2 (fun h => h)]; exact hb2
      rw [hw4, blk_set (blk_set hb3 _) _]; rfl
    obtain ⟨x0, x1, x2, x3, x4⟩ : w4.cell? ⟨B, 0, none⟩ = some (.int .i64 t0.id) ∧ w4.cell? ⟨B, 1, none⟩ = some (.int .i64 t0.ver) ∧ w4.cell? ⟨B, 2, none⟩ = some (.string t0.nm) ∧ w4.cell? ⟨B, 3, none⟩ = some (.slice co t0.cols.length cc) ∧ w4.cell? ⟨B, 4, none⟩ = some (.int .i64 t0.key) := ⟨by rw [blk_cell hbx4]; rfl, by rw [blk_cell hbx4]; rfl, by rw [blk_cell hbx4]; rfl, by rw [blk_cell hbx4]; rfl, by rw [blk_cell hbx4]; rfl⟩
    have T24 : Tch (fun i => i = b) w2 w4 := (t3.mono (fun _ _ h => h.elim)).trans' t4
    have hsl4 : SL w4 co (ccl t0.cols) := by
      by_cases hc : t0.cols = []
      · rw [hc]; exact SL.nil _ _
      · exact hsl.tch T24 (fun g o e => (hnb g o e hc).1)
    have q5 := copied_any t0 co cc w4 hsl4 hno (by omega)
    have Hw3 : Hid _ := hw3
    have Hw4 : Hid _ := hw4
    have HB : Hid (B = w2.heap.size) := hB
    rw [hw4] at x0 x1 x2 x3 x4
    rw [hw3] at e0 e1 c0 c1 h0 h1
    rw [hw3, hB] at x0 x1 x2 x3 x4
    have HT24 : Hid (Tch (fun i => i = b) w2 w4) := T24
    have Hb4 : Hid (w4.heap[b]? = some (.cells #[.slice tdo Pd.length tdc, .int .i64 g'] 60 (0, 0))) := hb4
    have HCO2 : Hid _ := hCO2
    clear hw3 hw4 hB hbx3 hbx4 hb4 hb2 key3 keyf t3 t4 T24 hsl4 hsl hno hnb d0 d1 b0 b1 f0 f1 hCO2 hbl2 hBb
    go_wp2_with fail
    have hw3 := Hw3.out
    rw [← hw3]
    have hw4 := Hw4.out
    rw [← hw4]
    clear hw3 hw4 x0 x1 x2 x3 x4 e0 e1 c0 c1 h0 h1
    refine q5.mono ?_
    rintro y w5 ⟨⟨v5, rfl, hv5⟩, t5⟩
    clear q5
    obtain ⟨vo, vc, hvv⟩ := row_slice hv5
    subst hvv
    have hY5 : w5.heap[N]? = some (.cells #[.int .i64 0, .int .i64 0, .string ⟨#[]⟩, .slice none 0 0, .int .i64 0] 29 (0, 0)) := by
      rw [t5.block N (Nat.lt_of_lt_of_le (blk_lt HY2.out) HT24.out.size) (fun h => h), HT24.out.block N (blk_lt HY2.out) (by omega)]; exact HY2.out
    obtain ⟨z0, z1, z2, z3, z4⟩ : w5.cell? ⟨N, 0, none⟩ = some (.int .i64 0) ∧ w5.cell? ⟨N, 1, none⟩ = some (.int .i64 0) ∧ w5.cell? ⟨N, 2, none⟩ = some (.string ⟨#[]⟩) ∧ w5.cell? ⟨N, 3, none⟩ = some (.slice none 0 0) ∧ w5.cell? ⟨N, 4, none⟩ = some (.int .i64 0) := ⟨by rw [blk_cell hY5]; rfl, by rw [blk_cell hY5]; rfl, by rw [blk_cell hY5]; rfl, by rw [blk_cell hY5]; rfl, by rw [blk_cell hY5]; rfl⟩
    have f0 := blk_frozen hY5 0; have f1 := blk_frozen hY5 1; have f2 := blk_frozen hY5 2; have f3 := blk_frozen hY5 3; have f4 := blk_frozen hY5 4
    have HFin : Hid (∀ W', W' = ((((w5.setCell ⟨N, 0, none⟩ (.int .i64 t0.id)).setCell ⟨N, 1, none⟩ (.int .i64 t0.ver)).setCell ⟨N, 2, none⟩ (.string t0.nm)).setCell ⟨N, 3, none⟩ (.slice vo t0.cols.length vc)).setCell ⟨N, 4, none⟩ (.int .i64 t0.key) → (∀ tmps : Array Value, tmps[4]?.getD undef = .pointer (some ⟨N, 0, none⟩) → tmps[5]?.getD undef = .int .i64 0 → (results Tryz.f24 tmps).run Tryz.prog W' = .ok (.tuple #[tA t0.id t0.ver t0.nm (.slice vo t0.cols.length vc) t0.key, .int .i64 0]) W') ∧ ChgOut F b 0 t0 L' g' w (.returned (.tuple #[tA t0.id t0.ver t0.nm (.slice vo t0.cols.length vc) t0.key, .int .i64 0])) W') := fun W' hW' => by
      have tE : Tch (fun i => i = N) w5 W' := by rw [hW']; exact ((((Tch.setCell (fun i => i = N) w5 ⟨N, 0, none⟩ _ rfl).setCellR ⟨N, 1, none⟩ _ rfl).setCellR ⟨N, 2, none⟩ _ rfl).setCellR ⟨N, 3, none⟩ _ rfl).setCellR ⟨N, 4, none⟩ _ rfl
      have hb : W'.heap[N]? = some (.cells #[.int .i64 t0.id, .int .i64 t0.ver, .string t0.nm, .slice vo t0.cols.length vc, .int .i64 t0.key] 29 (0, 0)) := by
        rw [hW', blk_set (blk_set (blk_set (blk_set (blk_set hY5 _) _) _) _) _]; rfl
      have hsz4 := HT24.out.size
      have hsz2 := HT2.out.size
      have hNw := HN.out
      have h2N : N < w2.heap.size := blk_lt HY2.out
      have hCO := HCO2.out
      have hTO : TO W' (N + 1) (.slice tdo Pd.length tdc) Pd := ((hCO.to.tch HT24.out (fun i hi _ h => by omega)).tch t5 (fun _ _ _ h => h)).tch tE (fun i hi _ h => by omega)
      refine ⟨fun tmps h4 h5 => res_pair Hrs.out h4 h5 (by rw [blk_cell hb]; rfl) (by rw [blk_cell hb]; rfl) (by rw [blk_cell hb]; rfl) (by rw [blk_cell hb]; rfl) (by rw [blk_cell hb]; rfl), fun _ => ⟨.slice vo t0.cols.length vc, Pd, tdo, tdc, rfl, ?_, ⟨?_, hCO.eq, hTO.tl' (fun g hg hf => ?_), fun hf => ?_⟩, ?_⟩, fun e => absurd rfl e⟩
      · exact own_low (own_tch hv5 tE (fun g e h => by have := (hv5.lt g e).1; omega)) (by omega)
      · rw [tE.block b (Nat.lt_of_lt_of_le (blk_lt Hb4.out) t5.size) (by omega), t5.block b (blk_lt Hb4.out) (fun h => h)]; exact Hb4.out
      · have hgb : N + 1 ≤ g ∧ g < w2.heap.size := by
          rcases hg with hg | ⟨i, hi, hg⟩
          · exact hCO.to.own.lt g hg
          · exact (hCO.to.col i hi).lt g hg
        rcases hf with (hf | hf) | hf
        · have := HF.out g hf; omega
        · have := (hv5.lt g hf).1; omega
        · omega
      · rcases hf with hf | hf
        · exact Hnb.out hf
        · have := (hv5.lt b hf).1; omega
      · exact ((HT2.out.mono (T := fun i => i = b) (fun _ _ h => h.elim)).trans' (HT24.out.trans' (t5.mono (fun _ _ h => h.elim)))).trans tE (fun i hi h => by omega)
    clear hv5 hY5
    go_wp2_with fail
    refine bodyPost_ret ((HFin.out _ rfl).1 _ ?_ ?_) rfl (HFin.out _ rfl).2 <;> rfl
  · obtain ⟨rfl, tvx, gvx, nx, xsx, hbx, hgx, hox, hnx, _⟩ := hO.2 hE
    obtain ⟨w3, hcl, t3⟩ := clear_own hox
    have d0 : w2.cell? ⟨d, 0, none⟩ = some tvx := by rw [blk_cell hbx]; rfl
    obtain ⟨txo, txc, htx⟩ := row_slice hox
    subst htx
    have hb4 : (E != 0) = true := by simpa using hE
    have HE : Hid (E ≠ 0) := hE
    have Hox : Hid (∀ g, (Value.slice txo nx txc).ownBlock = some g → N + 1 ≤ g ∧ g < w2.heap.size) := fun g e => hox.lt g e
    have Ht3 : Hid _ := t3
    obtain ⟨w2a, hw2a⟩ : ∃ w2a, w2a = w2.alloc (.cells #[.int .i64 0, .int .i64 0, .string ⟨#[]⟩, .slice none 0 0, .int .i64 0] 29) := ⟨_, rfl⟩
    have ta : Tch (fun _ => False) w2 w2a := by rw [hw2a]; exact Tch.alloc _ _ _
    obtain ⟨w4, hcl4, t4⟩ := clear_own (own_tch hox ta (fun _ _ h => h))
    have d0a : w2a.cell? ⟨d, 0, none⟩ = some (.slice txo nx txc) := (ta.cell (p := ⟨d, 0, none⟩) (cell_lt d0) (fun h => h)).trans d0
    rw [hw2a] at d0a hcl4
    have hY4 : w4.heap[N]? = some (.cells #[.int .i64 0, .int .i64 0, .string ⟨#[]⟩, .slice none 0 0, .int .i64 0] 29 (0, 0)) := by
      rw [t4.block N (Nat.lt_of_lt_of_le (blk_lt HY2.out) ta.size) (fun e => by have := (Hox.out N e).1; omega), ta.block N (blk_lt HY2.out) (fun h => h)]; exact HY2.out
    obtain ⟨z0, z1, z2, z3, z4⟩ : w4.cell? ⟨N, 0, none⟩ = some (.int .i64 0) ∧ w4.cell? ⟨N, 1, none⟩ = some (.int .i64 0) ∧ w4.cell? ⟨N, 2, none⟩ = some (.string ⟨#[]⟩) ∧ w4.cell? ⟨N, 3, none⟩ = some (.slice none 0 0) ∧ w4.cell? ⟨N, 4, none⟩ = some (.int .i64 0) := ⟨by rw [blk_cell hY4]; rfl, by rw [blk_cell hY4]; rfl, by rw [blk_cell hY4]; rfl, by rw [blk_cell hY4]; rfl, by rw [blk_cell hY4]; rfl⟩
    have f0 := blk_frozen hY4 0; have f1 := blk_frozen hY4 1; have f2 := blk_frozen hY4 2; have f3 := blk_frozen hY4 3; have f4 := blk_frozen hY4 4
    have HFin : Hid (∀ W', W' = ((((w4.setCell ⟨N, 0, none⟩ (.int .i64 0)).setCell ⟨N, 1, none⟩ (.int .i64 0)).setCell ⟨N, 2, none⟩ (.string ⟨#[]⟩)).setCell ⟨N, 3, none⟩ (.slice none 0 0)).setCell ⟨N, 4, none⟩ (.int .i64 0) → (∀ tmps : Array Value, tmps[4]?.getD undef = .pointer (some ⟨N, 0, none⟩) → tmps[5]?.getD undef = .int .i64 E → (results Tryz.f24 tmps).run Tryz.prog W' = .ok (.tuple #[zA, .int .i64 E]) W') ∧ ChgOut F b E t0 L' g' w (.returned (.tuple #[zA, .int .i64 E])) W') := fun W' hW' => by
      have tE : Tch (fun i => i = N) w4 W' := by rw [hW']; exact ((((Tch.setCell (fun i => i = N) w4 ⟨N, 0, none⟩ _ rfl).setCellR ⟨N, 1, none⟩ _ rfl).setCellR ⟨N, 2, none⟩ _ rfl).setCellR ⟨N, 3, none⟩ _ rfl).setCellR ⟨N, 4, none⟩ _ rfl
      have hb : W'.heap[N]? = some (.cells #[.int .i64 0, .int .i64 0, .string ⟨#[]⟩, .slice none 0 0, .int .i64 0] 29 (0, 0)) := by
        rw [hW', blk_set (blk_set (blk_set (blk_set (blk_set hY4 _) _) _) _) _]; rfl
      refine ⟨fun tmps h4 h5 => res_pair Hrs.out h4 h5 (by rw [blk_cell hb]; rfl) (by rw [blk_cell hb]; rfl) (by rw [blk_cell hb]; rfl) (by rw [blk_cell hb]; rfl) (by rw [blk_cell hb]; rfl), fun e => absurd e HE.out, fun _ => ⟨rfl, ?_⟩⟩
      have hNw := HN.out
      exact ((HT2.out.trans' ta).trans t4 (fun i hi e => by have := (Hox.out i e).1; omega)).trans tE (fun i hi h => by omega)
    clear hY4 hE d0 hcl t3 hbx hox ta t4 hw2a
    go_wp2_with fail
    refine bodyPost_ret ((HFin.out _ rfl).1 _ ?_ ?_) rfl (HFin.out _ rfl).2 <;> rfl
end Go.Proofs.YtmfbhhloabkecaaGreatDoor.C
