import Derived.Test.YtolamjipigfocaaCWid
/- Create of the code. -/
namespace Go.Proofs.Ytolamjipigfocaa
open Go.RowKit Go

theorem TL.fresh {F F' : Nat → Prop} {W : World} {to : Option Addr} {P : List (Tbl × Value)} (h : TL W F to P) (hF : ∀ i, i < W.heap.size → F' i → F i) : TL W F' to P := by
  refine ⟨h.sl, fun hP g o e hf => ?_, fun i hi => ?_⟩
  · obtain ⟨g', o', e', ha⟩ := h.sl (tcl_nil hP)
    rw [e'] at e; injection e with e; injection e with e1 e2; subst e1
    exact h.nf hP g' o' e' (hF g' (ha.lt (tcl_nil hP)) hf)
  · obtain ⟨co, cc, hck⟩ := h.col i hi
    exact ⟨co, cc, hck.eq, hck.sl, hck.no, hck.cap, fun hne g o e => ⟨fun hf => (hck.nf hne g o e).1 (hF g (hck.nf hne g o e).2 hf), (hck.nf hne g o e).2⟩⟩
theorem CA.fresh {F F' : Nat → Prop} {W : World} {b : Nat} {L : List Tbl} {gv : Int} {P : List (Tbl × Value)} {to : Option Addr} {tc : Nat} (h : CA W F b L gv P to tc) (hF : ∀ i, i < W.heap.size → F' i → F i) : CA W F' b L gv P to tc :=
  ⟨h.blk, h.eq, h.tl.fresh (fun i hi h' => h'.imp (hF i hi) id), fun hf => h.nb (hF b (blk_lt h.blk) hf)⟩
/-- The end of a call that hands a table and an error on, which it has from another one. -/
theorem chg_end {F : Nat → Prop} {b N : Nat} {E : Int} {t0 : Tbl} {L' : List Tbl} {g' : Int} {w w0 w2 W' : World} {x : Ending} (hN : N = w.heap.size) (hw : Tch (fun _ => False) w w0) (hs : w0.heap.size = N + 1) (h : ChgOut (fun i => F i ∨ i = N) b E t0 L' g' w0 x w2) (tE : Tch (fun i => i = N) w2 W') : ChgOut F b E t0 L' g' w x W' := by
  refine ⟨fun e => ?_, fun e => ?_⟩
  · obtain ⟨v, P, to, tc, hx, hv, hca, ht⟩ := h.1 e
    have hv' : ∀ g, v.ownBlock = some g → N + 1 ≤ g := fun g e => by have := (hv.lt g e).1; omega
    refine ⟨v, P, to, tc, hx, own_low (own_tch hv tE (fun g e e2 => by have := hv' g e; omega)) (by omega), ?_, ?_⟩
    · have h1 := hca.tch tE (fun i _ e => Or.inl (Or.inr e))
      exact h1.fresh (fun i _ hh => hh.imp Or.inl id)
    · exact ((hw.mono (T := fun i => i = b) (fun _ _ h => h.elim)).trans' ht).trans tE (fun i hi e => by omega)
  · obtain ⟨hx, ht⟩ := h.2 e
    exact ⟨hx, (hw.trans' ht).trans tE (fun i hi e => by omega)⟩
theorem chg_shape {F : Nat → Prop} {b : Nat} {E : Int} {t0 : Tbl} {L' : List Tbl} {g' : Int} {w w2 : World} {x : Ending} (h : ChgOut F b E t0 L' g' w x w2) : ∃ i j s v k, x = .returned (.tuple #[tA i j s v k, .int .i64 E]) ∧ (∃ ao n c, v = .slice ao n c) := by
  by_cases e : E = 0
  · obtain ⟨v, P, to, tc, hx, hv, _⟩ := h.1 e
    obtain ⟨ao, c, e2⟩ := row_slice hv
    exact ⟨_, _, _, v, _, by rw [hx, e], ao, _, c, e2⟩
  · exact ⟨0, 0, ⟨#[]⟩, .slice none 0 0, 0, (h.2 e).1, none, 0, 0, rfl⟩

set_option maxHeartbeats 4000000 in
set_option maxRecDepth 100000 in
theorem create_any (b : Nat) (L : List Tbl) (gv : Int) (P : List (Tbl × Value)) (to : Option Addr) (tc : Nat) (F : Nat → Prop) (nm : ByteArray) (cols : List Col) (ao : Option Addr) (c : Nat) (key : Int) (w : World) (h : CA w F b L gv P to tc) (hl : P.length ≤ 16) (h8 : ∀ i (hi : i < P.length), P[i].1.cols.length ≤ 8) (hF : ∀ i, F i → i < w.heap.size)
    (ht : SL w ao (ccl cols)) (hno : ao = none → cols = [] ∧ c = 0) (hcap : cols.length ≤ c) (hcl : cols.length ≤ 9223372036854775807) (h0 : 0 ≤ gv) (h1 : gv ≤ 2147483647) (hab : ∀ g o, ao = some ⟨g, o, none⟩ → cols ≠ [] → g ≠ b) :
    Calls Try.prog 17 #[.pointer (some ⟨b, 0, none⟩), .string nm, .slice ao cols.length c, .int .i64 key] w fun x w' => ChgOut F b (creE L gv nm cols key) (creT gv nm cols key) (L ++ [creT gv nm cols key]) (gv + 1) w x w' := by
  obtain ⟨N, hN⟩ : ∃ N, N = w.heap.size := ⟨_, rfl⟩
  obtain ⟨w0, hw0⟩ : ∃ w0, w0 = w.alloc (.cells #[.int .i64 0, .int .i64 0, .string ⟨#[]⟩, .slice none 0 0, .int .i64 0] 36) := ⟨_, rfl⟩
  have t0 : Tch (fun _ => False) w w0 := by rw [hw0]; exact Tch.alloc _ _ _
  have hs0 : w0.heap.size = N + 1 := by rw [hw0, World.size_alloc, hN]
  have hY : w0.heap[N]? = some (.cells #[.int .i64 0, .int .i64 0, .string ⟨#[]⟩, .slice none 0 0, .int .i64 0] 36 (0, 0)) := by rw [hw0, hN]; exact alloc_new _ _
  have hbN : b < N := by rw [hN]; exact blk_lt h.blk
  have hPL : P.map Prod.fst = L := h.eq
  have hslt : ∀ g o, ao = some ⟨g, o, none⟩ → cols ≠ [] → g < N := fun g o e hc => by
    obtain ⟨g', o', e', ha⟩ := ht (f3_nil _ _ _ hc)
    rw [e'] at e; injection e with e; injection e with e1 e2; subst e1
    rw [hN]; exact ha.lt (f3_nil _ _ _ hc)
  obtain ⟨E, hE⟩ : ∃ E, E = creE L gv nm cols key := ⟨_, rfl⟩
  have ht8 : E = 0 → cols.length ≤ 8 := fun e => by
    have h2 : rightE (creT gv nm cols key) = 0 := by
      rw [hE] at e
      unfold creE at e
      split at e
      · simp at e
      · split at e
        · simp at e
        · split at e
          · simp at e
          · exact e
    exact (right_len h2).2
  have q1 : Calls Try.prog 38 #[.pointer (some ⟨b, 0, none⟩), .func (.func 39) #[.agg #[.string nm, .slice ao cols.length c, .int .i64 key]] #[]] w0 fun x w' => ChgOut (fun i => F i ∨ i = N) b E (creT gv nm cols key) (L ++ [creT gv nm cols key]) (gv + 1) w0 x w' := by
    have hca : CA w0 (fun i => F i ∨ i = N) b L gv P to tc := by
      have h2 : CA w (fun i => F i ∨ i = N) b L gv P to tc := h.fresh (fun i hi hh => hh.elim id (fun e => by omega))
      exact h2.tch t0 (fun _ _ h => h.elim)
    have hF0 : ∀ i, (F i ∨ i = N) → i < w0.heap.size := fun i hi => by
      rcases hi with hi | hi
      · have := hF i hi; omega
      · omega
    have hon : ∀ t00 : Tbl, (E = 0 → t00 = creT gv nm cols key) → ∀ W d Q tv, Tch (fun _ => False) w0 W → w0.heap.size + 1 ≤ W.heap.size → Q.length = P.length → CO W (w0.heap.size + 1) d L gv Q tv → Calls Try.prog 39 #[.agg #[.string nm, .slice ao cols.length c, .int .i64 key], .pointer (some ⟨d, 0, none⟩)] W fun x w' => OnOut (w0.heap.size + 1) d E (TX b w0.heap.size t00) (L ++ [creT gv nm cols key]) (gv + 1) x w' ∧ Tch (fun i => w0.heap.size + 1 ≤ i) W w' := fun t00 ht00 W d Q tv tW hsz hQl hCO => by
      have hslW : SL W ao (ccl cols) := (ht.no t0).no tW
      refine (creationOn_any (w0.heap.size + 1) d L gv Q tv nm cols ao c key W hCO hslW hno hcap hcl (by omega) h0 h1 hsz).mono ?_
      rintro x w' ⟨hO, t'⟩
      rw [← hE] at hO
      refine ⟨⟨fun e => ?_, hO.2⟩, t'⟩
      obtain ⟨v, P', tv', hx, hv, hco⟩ := hO.1 e
      refine ⟨v, P', tv', hx, ?_, hco⟩
      rw [ht00 e]
      refine ⟨ao, c, hv, ?_, hno, fun g o e2 hc => ⟨hab g o e2 hc, ?_⟩⟩
      · show SL w' ao (ccl cols)
        by_cases hc : cols = []
        · rw [hc]; exact SL.nil _ _
        · exact hslW.tch t' (fun g o e2 h => by have := hslt g o e2 hc; omega)
      · have := hslt g o e2 hc; omega
    by_cases hbig : cols.length ≤ 8
    · exact change_create b L gv P to tc (fun i => F i ∨ i = N) nm ao cols.length c key E (creT gv nm cols key) _ _ w0 hca hl h8 hbig hF0 (hon _ (fun _ => rfl))
    · have hE0 : E ≠ 0 := fun e => hbig (ht8 e)
      refine (change_create b L gv P to tc (fun i => F i ∨ i = N) nm ao cols.length c key E ⟨0, 0, ⟨#[]⟩, [], 0⟩ _ _ w0 hca hl h8 (by simp) hF0 (hon _ (fun e => absurd e hE0))).mono ?_
      rintro x w' hO
      exact ⟨fun e => absurd e hE0, hO.2⟩
  have Hw0 : Hid _ := hw0
  have HN : Hid (N = w.heap.size) := hN
  have Ht0 : Hid (Tch (fun _ => False) w w0) := t0
  have Hs0 : Hid (w0.heap.size = N + 1) := hs0
  have HY : Hid (w0.heap[N]? = some (.cells #[.int .i64 0, .int .i64 0, .string ⟨#[]⟩, .slice none 0 0, .int .i64 0] 36 (0, 0))) := hY
  rw [← hE]
  clear h hw0 hN hY t0 hs0 ht hab hslt ht8 hPL hE h8 hF
  go_enter Try.func17, Try.ntmps17
  go_wp2_with fail
  rw [← HN.out]
  have hw0 := Hw0.out
  rw [← hw0]
  clear hw0
  refine q1.mono ?_
  rintro x w2 hO
  clear q1
  obtain ⟨i, j, s, v, kk, rfl, vo, vn, vc, rfl⟩ := chg_shape hO
  have t2 : Tch (fun i => i = b) w0 w2 := by
    by_cases e : E = 0
    · obtain ⟨_, _, _, _, _, _, _, ht⟩ := hO.1 e; exact ht
    · exact (hO.2 e).2.mono (fun _ _ h => h.elim)
  have hY2 : w2.heap[N]? = some (.cells #[.int .i64 0, .int .i64 0, .string ⟨#[]⟩, .slice none 0 0, .int .i64 0] 36 (0, 0)) := by rw [t2.block N (blk_lt HY.out) (by omega)]; exact HY.out
  obtain ⟨z0, z1, z2, z3, z4⟩ : w2.cell? ⟨N, 0, none⟩ = some (.int .i64 0) ∧ w2.cell? ⟨N, 1, none⟩ = some (.int .i64 0) ∧ w2.cell? ⟨N, 2, none⟩ = some (.string ⟨#[]⟩) ∧ w2.cell? ⟨N, 3, none⟩ = some (.slice none 0 0) ∧ w2.cell? ⟨N, 4, none⟩ = some (.int .i64 0) := ⟨by rw [blk_cell hY2]; rfl, by rw [blk_cell hY2]; rfl, by rw [blk_cell hY2]; rfl, by rw [blk_cell hY2]; rfl, by rw [blk_cell hY2]; rfl⟩
  have f0 := blk_frozen hY2 0; have f1 := blk_frozen hY2 1; have f2 := blk_frozen hY2 2; have f3 := blk_frozen hY2 3; have f4 := blk_frozen hY2 4
  have hrs : Try.f17.results = #[.cell 8 36, .tmp 9] := by kernel_rfl
  have HFin : Hid (∀ W', W' = ((((w2.setCell ⟨N, 0, none⟩ (.int .i64 i)).setCell ⟨N, 1, none⟩ (.int .i64 j)).setCell ⟨N, 2, none⟩ (.string s)).setCell ⟨N, 3, none⟩ (.slice vo vn vc)).setCell ⟨N, 4, none⟩ (.int .i64 kk) → (∀ tmps : Array Value, tmps[8]?.getD undef = .pointer (some ⟨N, 0, none⟩) → tmps[9]?.getD undef = .int .i64 E → (results Try.f17 tmps).run Try.prog W' = .ok (.tuple #[tA i j s (.slice vo vn vc) kk, .int .i64 E]) W') ∧ ChgOut F b E (creT gv nm cols key) (L ++ [creT gv nm cols key]) (gv + 1) w (.returned (.tuple #[tA i j s (.slice vo vn vc) kk, .int .i64 E])) W') := fun W' hW' => by
    have tE : Tch (fun i => i = N) w2 W' := by rw [hW']; exact ((((Tch.setCell (fun i => i = N) w2 ⟨N, 0, none⟩ _ rfl).setCellR ⟨N, 1, none⟩ _ rfl).setCellR ⟨N, 2, none⟩ _ rfl).setCellR ⟨N, 3, none⟩ _ rfl).setCellR ⟨N, 4, none⟩ _ rfl
    have hb : W'.heap[N]? = some (.cells #[.int .i64 i, .int .i64 j, .string s, .slice vo vn vc, .int .i64 kk] 36 (0, 0)) := by
      rw [hW', blk_set (blk_set (blk_set (blk_set (blk_set hY2 _) _) _) _) _]; rfl
    exact ⟨fun tmps h4 h5 => res_pair hrs h4 h5 (by rw [blk_cell hb]; rfl) (by rw [blk_cell hb]; rfl) (by rw [blk_cell hb]; rfl) (by rw [blk_cell hb]; rfl) (by rw [blk_cell hb]; rfl), chg_end HN.out Ht0.out Hs0.out hO tE⟩
  clear hO hY2 t2
  go_wp2_with fail
  refine bodyPost_ret ((HFin.out _ rfl).1 _ ?_ ?_) rfl (HFin.out _ rfl).2 <;> rfl
end Go.Proofs.Ytolamjipigfocaa
/- removal.on. -/
namespace Go.Proofs.Ytolamjipigfocaa
open Go.RowKit Go

theorem tcl_take : ∀ (P : List (Tbl × Value)) (k : Nat), (tcl P).take (k * 5) = tcl (P.take k)
  | [], k => by simp [tcl]
  | p :: P, 0 => by simp [tcl]
  | p :: P, k + 1 => by
    have h := tcl_take P k
    have e : tcl (p :: P) = tcs p ++ tcl P := rfl
    rw [e, List.take_succ_cons, show tcl (p :: P.take k) = tcs p ++ tcl (P.take k) from rfl, ← h, show (k + 1) * 5 = (tcs p).length + k * 5 by simp [tcs]; omega, List.take_length_add_append]
theorem tcl_drop : ∀ (P : List (Tbl × Value)) (k : Nat), (tcl P).drop (k * 5) = tcl (P.drop k)
  | [], k => by simp [tcl]
  | p :: P, 0 => by simp
  | p :: P, k + 1 => by
    have h := tcl_drop P k
    have e : tcl (p :: P) = tcs p ++ tcl P := rfl
    rw [e, List.drop_succ_cons, ← h, show (k + 1) * 5 = (tcs p).length + k * 5 by simp [tcs]; omega, List.drop_length_add_append]
theorem tcl_erase (P : List (Tbl × Value)) (k : Nat) : tcl (P.eraseIdx k) = (tcl P).take (k * 5) ++ (tcl P).drop ((k + 1) * 5) := by
  rw [tcl_take, tcl_drop, ← tcl_append, List.eraseIdx_eq_take_drop_succ]
theorem TO.tch2 {S : Nat → Prop} {W W' : World} {base : Nat} {tv : Value} {P : List (Tbl × Value)} (h : TO W base tv P) (t : Tch S W W') (h1 : ∀ g, tv.ownBlock = some g → ¬ S g) (h2 : ∀ i (hi : i < P.length) g, P[i].2.ownBlock = some g → ¬ S g) : TO W' base tv P :=
  ⟨own_tch h.own t h1, fun i hi => own_tch (h.col i hi) t (h2 i hi), h.sep, h.dis⟩
theorem erase_fst (P : List (Tbl × Value)) (k : Nat) : (P.eraseIdx k).map Prod.fst = (P.map Prod.fst).eraseIdx k := by
  rw [List.eraseIdx_eq_take_drop_succ, List.eraseIdx_eq_take_drop_succ, List.map_append, List.map_take, List.map_drop]
theorem erase_all {Q : Tbl × Value → Prop} {P : List (Tbl × Value)} (h : ∀ i (hi : i < P.length), Q P[i]) (k : Nat) : ∀ i (hi : i < (P.eraseIdx k).length), Q (P.eraseIdx k)[i] := fun i hi => by
  obtain ⟨j, hj, e⟩ := List.getElem_of_mem (List.mem_of_mem_eraseIdx (List.getElem_mem hi))
  rw [← e]; exact h j hj
theorem TO.erase {W W' : World} {base T tc k : Nat} {P : List (Tbl × Value)} {cur' : Array Value} (h : TO W base (.slice (some ⟨T, 0, none⟩) P.length tc) P) (hk : k < P.length) (t : Tch (fun i => i = T) W W') (hb : W'.heap[T]? = some (.cells cur' 36 (0, 0))) (hs : cur'.size = tc * 5) (ht : cur'.toList.take ((P.length - 1) * 5) = tcl (P.eraseIdx k)) :
    TO W' base (.slice (some ⟨T, 0, none⟩) (P.length - 1) tc) (P.eraseIdx k) := by
  have hle : (P.eraseIdx k).length = P.length - 1 := List.length_eraseIdx_of_lt hk
  have hget : ∀ i (hi : i < (P.eraseIdx k).length), ∃ j, ∃ (hj : j < P.length), (P.eraseIdx k)[i] = P[j] ∧ j = if i < k then i else i + 1 := fun i hi => by
    rw [hle] at hi
    refine ⟨if i < k then i else i + 1, by split <;> omega, ?_, rfl⟩
    rw [List.getElem_eraseIdx]
    split
    · rfl
    · rfl
  refine ⟨⟨?_, ?_⟩, fun i hi => ?_, fun i hi g e => ?_, fun i j hi hj g hne e => ?_⟩
  · rw [tcl_len]
  · rcases h.own.2 with ⟨h1, _⟩ | ⟨g, cap, cur, hv, hb0, hg, hnc, hcm, hcs, htk⟩
    · injection h1 with h1; cases h1
    · injection hv with e1 e2 e3
      injection e1 with e1
      injection e1 with e1
      subst e1 e3
      exact Or.inr ⟨T, tc, cur', by rw [hle], hb0, hb, by omega, hcm, by rw [hs], by rw [hle]; exact ht⟩
  · obtain ⟨j, hj, e, _⟩ := hget i hi
    rw [e]
    exact own_tch (h.col j hj) t (fun g e2 e3 => h.sep j hj g e2 (by rw [e3]; rfl))
  · obtain ⟨j, hj, e2, _⟩ := hget i hi
    rw [e2] at e
    exact h.sep j hj g e
  · obtain ⟨i', hi', e2, e3⟩ := hget i hi
    obtain ⟨j', hj', e4, e5⟩ := hget j hj
    rw [e2] at e
    rw [e4]
    refine h.dis i' j' hi' hj' g ?_ e
    rw [e3, e5]
    split <;> split <;> omega

set_option maxHeartbeats 4000000 in
set_option maxRecDepth 100000 in
theorem removeOn_none (base d : Nat) (L L' : List Tbl) (gv g' : Int) (P : List (Tbl × Value)) (tv : Value) (nm : ByteArray) (T : World → Value → Prop) (w : World) (h : CO w base d L gv P tv) (hl : P.length ≤ 16) (hbase : base ≤ w.heap.size)
    (hpos : posP (fun t => decide (t.nm = nm)) P = -1) :
    Calls Try.prog 46 #[.agg #[.string nm], .pointer (some ⟨d, 0, none⟩)] w fun y w' => OnOut base d 52 T L' g' y w' ∧ Tch (fun i => base ≤ i) w w' := by
  obtain ⟨to, tc, rfl⟩ := row_slice h.to.own
  obtain ⟨N, hN⟩ : ∃ N, N = w.heap.size := ⟨_, rfl⟩
  obtain ⟨w0, hw0⟩ : ∃ w0, w0 = (w.alloc (.cells #[.string nm] 89)).alloc (.cells #[.int .i64 0, .int .i64 0, .string ⟨#[]⟩, .slice none 0 0, .int .i64 0] 36) := ⟨_, rfl⟩
  have t0 : Tch (fun _ => False) w w0 := by rw [hw0]; exact (Tch.alloc _ _ _).allocR _
  have hX : w0.heap[N]? = some (.cells #[.string nm] 89 (0, 0)) := by
    rw [hw0, hN]; exact (Tch.alloc (fun _ => False) _ _).block _ (by simp) (fun h => h) |>.trans (alloc_new _ _)
  have hY : w0.heap[N + 1]? = some (.cells #[.int .i64 0, .int .i64 0, .string ⟨#[]⟩, .slice none 0 0, .int .i64 0] 36 (0, 0)) := by
    rw [hw0, hN, ← World.size_alloc]; exact alloc_new _ _
  have hCO0 := h.tch t0 (fun _ _ _ h => h)
  have q1 := nm3_any d to tc P _ nm w0 (by rw [blk_cell hCO0.blk]; rfl) hCO0.to.toTL hl
  rw [hpos] at q1
  have x0 : w0.cell? ⟨N, 0, none⟩ = some (.string nm) := by rw [blk_cell hX]; rfl
  have HOut : Hid (∀ W, Tch (fun i => i = N + 1) w0 W → DX W base d ∧ Tch (fun i => base ≤ i) w W) := fun W tW => by
    have hdN := blk_lt h.blk
    have tB : Tch (fun i => base ≤ i) w W := (t0.mono (fun _ _ h => h.elim)).trans' (tW.mono (fun i _ e => by have e2 : i = N + 1 := e; omega))
    have hdx := hCO0.dx (by omega)
    have tw : Tch (fun i => i = N + 1) w W := (t0.mono (fun _ _ h => h.elim)).trans' tW
    exact ⟨(h.dx (by omega)).tch tw (fun i _ hi e => by omega), tB⟩
  have HY : Hid _ := hY
  have Hw0 : Hid _ := hw0
  have HN : Hid (N = w.heap.size) := hN
  rw [hw0, hN] at x0
  clear h hN hX hY hCO0 t0 hpos hw0
  go_enter Try.func46, Try.ntmps46
  go_wp2_with fail
  have hw0 := Hw0.out
  rw [← hw0]
  rw [← HN.out]
  clear hw0 x0
  refine q1.mono ?_
  rintro y w1 ⟨rfl, t1⟩
  clear q1
  have hY1 : w1.heap[N + 1]? = some (.cells #[.int .i64 0, .int .i64 0, .string ⟨#[]⟩, .slice none 0 0, .int .i64 0] 36 (0, 0)) := by rw [t1.block (N + 1) (blk_lt HY.out) (fun h => h)]; exact HY.out
  obtain ⟨z0, z1, z2, z3, z4⟩ : w1.cell? ⟨N + 1, 0, none⟩ = some (.int .i64 0) ∧ w1.cell? ⟨N + 1, 1, none⟩ = some (.int .i64 0) ∧ w1.cell? ⟨N + 1, 2, none⟩ = some (.string ⟨#[]⟩) ∧ w1.cell? ⟨N + 1, 3, none⟩ = some (.slice none 0 0) ∧ w1.cell? ⟨N + 1, 4, none⟩ = some (.int .i64 0) := ⟨by rw [blk_cell hY1]; rfl, by rw [blk_cell hY1]; rfl, by rw [blk_cell hY1]; rfl, by rw [blk_cell hY1]; rfl, by rw [blk_cell hY1]; rfl⟩
  have f0 := blk_frozen hY1 0; have f1 := blk_frozen hY1 1; have f2 := blk_frozen hY1 2; have f3 := blk_frozen hY1 3; have f4 := blk_frozen hY1 4
  have hrs : Try.f46.results = #[.cell 4 36, .tmp 5] := by kernel_rfl
  have HFin : Hid (∀ W', W' = ((((w1.setCell ⟨N + 1, 0, none⟩ (.int .i64 0)).setCell ⟨N + 1, 1, none⟩ (.int .i64 0)).setCell ⟨N + 1, 2, none⟩ (.string ⟨#[]⟩)).setCell ⟨N + 1, 3, none⟩ (.slice none 0 0)).setCell ⟨N + 1, 4, none⟩ (.int .i64 0) → (∀ tmps : Array Value, tmps[4]?.getD undef = .pointer (some ⟨N + 1, 0, none⟩) → tmps[5]?.getD undef = .int .i64 52 → (results Try.f46 tmps).run Try.prog W' = .ok (.tuple #[zA, .int .i64 52]) W') ∧ (OnOut base d 52 T L' g' (.returned (.tuple #[zA, .int .i64 52])) W' ∧ Tch (fun i => base ≤ i) w W')) := fun W' hW' => by
    have tE : Tch (fun i => i = N + 1) w1 W' := by rw [hW']; exact ((((Tch.setCell (fun i => i = N + 1) w1 ⟨N + 1, 0, none⟩ _ rfl).setCellR ⟨N + 1, 1, none⟩ _ rfl).setCellR ⟨N + 1, 2, none⟩ _ rfl).setCellR ⟨N + 1, 3, none⟩ _ rfl).setCellR ⟨N + 1, 4, none⟩ _ rfl
    have hb : W'.heap[N + 1]? = some (.cells #[.int .i64 0, .int .i64 0, .string ⟨#[]⟩, .slice none 0 0, .int .i64 0] 36 (0, 0)) := by
      rw [hW', blk_set (blk_set (blk_set (blk_set (blk_set hY1 _) _) _) _) _]; rfl
    obtain ⟨o1, o2⟩ := HOut.out W' ((t1.mono (fun _ _ h => h.elim)).trans' tE)
    exact ⟨fun tmps h4 h5 => res_pair hrs h4 h5 (by rw [blk_cell hb]; rfl) (by rw [blk_cell hb]; rfl) (by rw [blk_cell hb]; rfl) (by rw [blk_cell hb]; rfl) (by rw [blk_cell hb]; rfl), ⟨fun e => by simp at e, fun _ => ⟨rfl, o1⟩⟩, o2⟩
  clear hY1 t1
  go_wp2_with fail
  refine bodyPost_ret ((HFin.out _ rfl).1 _ ?_ ?_) rfl (HFin.out _ rfl).2 <;> rfl

set_option maxHeartbeats 4000000 in
set_option maxRecDepth 100000 in
theorem removeOn_some (base d : Nat) (L : List Tbl) (gv : Int) (P : List (Tbl × Value)) (tv : Value) (nm : ByteArray) (b RB : Nat) (k : Nat) (hk : k < P.length) (w : World) (h : CO w base d L gv P tv) (hl : P.length ≤ 16) (hbase : base ≤ w.heap.size) (hbb : b < base ∧ RB < base)
    (hpos : posP (fun t => decide (t.nm = nm)) P = k) :
    Calls Try.prog 46 #[.agg #[.string nm], .pointer (some ⟨d, 0, none⟩)] w fun y w' => OnOut base d 0 (TX b RB P[k].1) (L.eraseIdx k) gv y w' ∧ Tch (fun i => base ≤ i) w w' := by
  obtain ⟨T, tc, rfl⟩ : ∃ T tc, tv = .slice (some ⟨T, 0, none⟩) P.length tc := by
    obtain ⟨to, tc, htv⟩ := row_slice h.to.own
    have ho := h.to.own
    rw [htv] at ho
    obtain ⟨T, e, _⟩ := own_at ho (by omega)
    exact ⟨T, tc, by rw [htv, e]⟩
  obtain ⟨t, ht⟩ : ∃ t, t = P[k].1 := ⟨_, rfl⟩
  obtain ⟨v, hv⟩ : ∃ v, v = P[k].2 := ⟨_, rfl⟩
  have hPk : P[k] = (t, v) := by rw [ht, hv]
  have hcol := h.to.col k hk
  rw [← ht, ← hv] at hcol
  obtain ⟨co, cc, rfl⟩ := row_slice hcol
  rw [← ht]
  obtain ⟨N, hN⟩ : ∃ N, N = w.heap.size := ⟨_, rfl⟩
  obtain ⟨w0, hw0⟩ : ∃ w0, w0 = (w.alloc (.cells #[.string nm] 89)).alloc (.cells #[.int .i64 0, .int .i64 0, .string ⟨#[]⟩, .slice none 0 0, .int .i64 0] 36) := ⟨_, rfl⟩
  have t0 : Tch (fun _ => False) w w0 := by rw [hw0]; exact (Tch.alloc _ _ _).allocR _
  have hs0 : w0.heap.size = N + 2 := by rw [hw0, World.size_alloc, World.size_alloc, hN]
  have hX : w0.heap[N]? = some (.cells #[.string nm] 89 (0, 0)) := by
    rw [hw0, hN]; exact (Tch.alloc (fun _ => False) _ _).block _ (by simp) (fun h => h) |>.trans (alloc_new _ _)
  have hY : w0.heap[N + 1]? = some (.cells #[.int .i64 0, .int .i64 0, .string ⟨#[]⟩, .slice none 0 0, .int .i64 0] 36 (0, 0)) := by
    rw [hw0, hN, ← World.size_alloc]; exact alloc_new _ _
  have hCO0 := h.tch t0 (fun _ _ _ h => h)
  have q1 := nm3_any d (some ⟨T, 0, none⟩) tc P _ nm w0 (by rw [blk_cell hCO0.blk]; rfl) hCO0.to.toTL hl
  rw [hpos] at q1
  have x0 : w0.cell? ⟨N, 0, none⟩ = some (.string nm) := by rw [blk_cell hX]; rfl
  have hdN : d < N := by rw [hN]; exact blk_lt h.blk
  have hTN : T < N ∧ base ≤ T := by rw [hN]; exact ⟨(h.to.own.lt T rfl).2, (h.to.own.lt T rfl).1⟩
  have hTd : T ≠ d := fun e => h.nb.1 (by rw [← e]; rfl)
  have hcb : ∀ g, (Value.slice co t.cols.length cc).ownBlock = some g → base ≤ g ∧ g < N ∧ g ≠ d ∧ g ≠ T := fun g e2 =>
    ⟨(hcol.lt g e2).1, by rw [hN]; exact (hcol.lt g e2).2, fun e3 => h.nb.2 k hk (by rw [hPk, ← e3]; exact e2), fun e3 => h.to.sep k hk g (by rw [hPk]; exact e2) (by rw [e3]; rfl)⟩
  have Hcb : Hid _ := hcb
  have HCO : Hid (∀ W, Tch (fun _ => False) w0 W → CO W base d L gv P (.slice (some ⟨T, 0, none⟩) P.length tc)) := fun W tW => hCO0.tch tW (fun _ _ _ h => h)
  have HLow : Hid (∀ i (hi : i < P.length) g, P[i].2.ownBlock = some g → g < N) := fun i hi g e => by rw [hN]; exact ((h.to.col i hi).lt g e).2
  have HPk : Hid (P[k] = (t, .slice co t.cols.length cc)) := hPk
  have HY : Hid _ := hY
  have Hw0 : Hid _ := hw0
  have HN : Hid (N = w.heap.size) := hN
  have Ht0 : Hid (Tch (fun _ => False) w w0) := t0
  have Hs0 : Hid (w0.heap.size = N + 2) := hs0
  have Hcol : Hid _ := hcol
  rw [hw0, hN] at x0
  clear h hN hX hY hCO0 t0 hpos hw0 hs0 hcol hcb hPk hv ht
  go_enter Try.func46, Try.ntmps46
  go_wp2_with fail
  have hw0 := Hw0.out
  rw [← hw0]
  rw [← HN.out]
  clear hw0 x0
  refine q1.mono ?_
  rintro y w1 ⟨rfl, t1⟩
  clear q1
  have hCO1 := HCO.out w1 t1
  obtain ⟨g, o, e, c0, c1, c2, c3, c4⟩ := hCO1.to.toTL.at k hk
  injection e with e; injection e with e e2; subst e e2
  rw [HPk.out] at c0 c1 c2 c3 c4
  have d0 : w1.cell? ⟨d, 0, none⟩ = some (.slice (some ⟨T, 0, none⟩) P.length tc) := by rw [blk_cell hCO1.blk]; rfl
  obtain ⟨M, hM⟩ : ∃ M, M = w1.heap.size := ⟨_, rfl⟩
  obtain ⟨w2, hw2⟩ : ∃ w2, w2 = w1.alloc (.cells #[.int .i64 t.id, .int .i64 t.ver, .string t.nm, .slice co t.cols.length cc, .int .i64 t.key] 36) := ⟨_, rfl⟩
  have t2 : Tch (fun _ => False) w1 w2 := by rw [hw2]; exact Tch.alloc _ _ _
  have hCO2 := HCO.out w2 (t1.trans' t2)
  have hkI : (k : Int) < P.length := by omega
  have hkn : ¬ (k : Int) < 0 := by omega
  have d2 : w2.cell? ⟨d, 0, none⟩ = some (.slice (some ⟨T, 0, none⟩) P.length tc) := by rw [blk_cell hCO2.blk]; rfl
  rw [hw2] at d2
  simp only [Nat.zero_add] at c0 c1 c2 c3 c4
  clear hCO1
  go_wp2_with fail
  rw [← hw2]
  obtain ⟨cur, hcur, hcs, hcm, hnc, htk⟩ : ∃ cur : Array Value, w2.heap[T]? = some (.cells cur 36 (0, 0)) ∧ cur.size = tc * 5 ∧ tc ≤ maxLen ∧ P.length ≤ tc ∧ cur.toList.take (P.length * 5) = tcl P := by
    rcases hCO2.to.own.2 with ⟨h1, _⟩ | ⟨g, cap, cur, hv, hb0, hg, hnc, hcm, hcs, htk⟩
    · injection h1 with h1; cases h1
    · injection hv with e1 e2 e3
      injection e1 with e1
      injection e1 with e1
      subst e1 e3
      exact ⟨cur, hg, hcs, hcm, hnc, htk⟩
  have h1c : ∀ u ∈ cur.toList.take (P.length * 5), u.oneCell' = true := fun u hu => by
    rw [htk] at hu
    simp only [tcl, List.mem_flatMap] at hu
    obtain ⟨p, hp, hu⟩ := hu
    obtain ⟨i, hi, rfl⟩ := List.getElem_of_mem hp
    obtain ⟨vo, vc, e⟩ := row_slice (hCO2.to.col i hi)
    simp only [tcs, List.mem_cons, List.not_mem_nil, or_false] at hu
    rcases hu with rfl | rfl | rfl | rfl | rfl
    · rfl
    · rfl
    · rfl
    · rw [e]; rfl
    · rfl
  refine (delete_any T P.length tc k cur w2 hcur hcs hnc (by unfold maxLen at hcm; omega) hk h1c).mono ?_
  rintro y w3 ⟨⟨rfl, cur', hb3, hs3, htk3⟩, t3⟩
  rw [htk] at htk3
  have htk4 : cur'.toList.take ((P.length - 1) * 5) = tcl (P.eraseIdx k) := by
    rw [tcl_erase, htk3, ← htk, List.take_take, Nat.min_eq_left (by omega)]
  have hTO3 := hCO2.to.erase hk t3 hb3 hs3 htk4
  have hs1 := t1.size
  have hs02 := Hs0.out
  have hd3 : w3.heap[d]? = some (.cells #[.slice (some ⟨T, 0, none⟩) P.length tc, .int .i64 gv] 55 (0, 0)) := by rw [t3.block d (blk_lt hCO2.blk) (fun e => hTd e.symm)]; exact hCO2.blk
  have hY3 : w3.heap[N + 1]? = some (.cells #[.int .i64 0, .int .i64 0, .string ⟨#[]⟩, .slice none 0 0, .int .i64 0] 36 (0, 0)) := by
    rw [t3.block (N + 1) (by have := (t1.trans' t2).size; omega) (by omega), (t1.trans' t2).block (N + 1) (blk_lt HY.out) (fun h => h)]; exact HY.out
  have hM2 : w2.heap[M]? = some (.cells #[.int .i64 t.id, .int .i64 t.ver, .string t.nm, .slice co t.cols.length cc, .int .i64 t.key] 36 (0, 0)) := by rw [hw2, hM]; exact alloc_new _ _
  have hM3 : w3.heap[M]? = some (.cells #[.int .i64 t.id, .int .i64 t.ver, .string t.nm, .slice co t.cols.length cc, .int .i64 t.key] 36 (0, 0)) := by
    rw [t3.block M (blk_lt hM2) (by omega)]; exact hM2
  obtain ⟨w4, hw4⟩ : ∃ w4, w4 = w3.setCell ⟨d, 0, none⟩ (.slice (some ⟨T, 0, none⟩) (P.length - 1) tc) := ⟨_, rfl⟩
  have t4 : Tch (fun i => i = d) w3 w4 := by rw [hw4]; exact Tch.setCell _ _ _ _ rfl
  have hd4 : w4.heap[d]? = some (.cells #[.slice (some ⟨T, 0, none⟩) (P.length - 1) tc, .int .i64 gv] 55 (0, 0)) := by rw [hw4, blk_set hd3]; rfl
  have hY4 : w4.heap[N + 1]? = some (.cells #[.int .i64 0, .int .i64 0, .string ⟨#[]⟩, .slice none 0 0, .int .i64 0] 36 (0, 0)) := by rw [t4.block (N + 1) (blk_lt hY3) (by omega)]; exact hY3
  have hM4 : w4.heap[M]? = some (.cells #[.int .i64 t.id, .int .i64 t.ver, .string t.nm, .slice co t.cols.length cc, .int .i64 t.key] 36 (0, 0)) := by rw [t4.block M (blk_lt hM3) (by omega)]; exact hM3
  have dc3 : w3.cell? ⟨d, 0, none⟩ = some (.slice (some ⟨T, 0, none⟩) P.length tc) := by rw [blk_cell hd3]; rfl
  have df3 := blk_frozen hd3 0
  obtain ⟨m0, m1, m2, m3, m4⟩ : w4.cell? ⟨M, 0, none⟩ = some (.int .i64 t.id) ∧ w4.cell? ⟨M, 1, none⟩ = some (.int .i64 t.ver) ∧ w4.cell? ⟨M, 2, none⟩ = some (.string t.nm) ∧ w4.cell? ⟨M, 3, none⟩ = some (.slice co t.cols.length cc) ∧ w4.cell? ⟨M, 4, none⟩ = some (.int .i64 t.key) := ⟨by rw [blk_cell hM4]; rfl, by rw [blk_cell hM4]; rfl, by rw [blk_cell hM4]; rfl, by rw [blk_cell hM4]; rfl, by rw [blk_cell hM4]; rfl⟩
  obtain ⟨z0, z1, z2, z3, z4⟩ : w4.cell? ⟨N + 1, 0, none⟩ = some (.int .i64 0) ∧ w4.cell? ⟨N + 1, 1, none⟩ = some (.int .i64 0) ∧ w4.cell? ⟨N + 1, 2, none⟩ = some (.string ⟨#[]⟩) ∧ w4.cell? ⟨N + 1, 3, none⟩ = some (.slice none 0 0) ∧ w4.cell? ⟨N + 1, 4, none⟩ = some (.int .i64 0) := ⟨by rw [blk_cell hY4]; rfl, by rw [blk_cell hY4]; rfl, by rw [blk_cell hY4]; rfl, by rw [blk_cell hY4]; rfl, by rw [blk_cell hY4]; rfl⟩
  have f0 := blk_frozen hY4 0; have f1 := blk_frozen hY4 1; have f2 := blk_frozen hY4 2; have f3 := blk_frozen hY4 3; have f4 := blk_frozen hY4 4
  have hrs : Try.f46.results = #[.cell 4 36, .tmp 5] := by kernel_rfl
  have hL : (P.eraseIdx k).map Prod.fst = L.eraseIdx k := by rw [erase_fst, hCO2.eq]
  have hnbP : ∀ i (hi : i < (P.eraseIdx k).length), (P.eraseIdx k)[i].2.ownBlock ≠ some d := erase_all (Q := fun p => p.2.ownBlock ≠ some d) hCO2.nb.2 k
  have hTO4 := hTO3.tch2 t4 (fun g e e2 => hCO2.nb.1 (by rw [← e2]; exact e)) (fun i hi g e e2 => hnbP i hi (by rw [← e2]; exact e))
  have hsz : N + 2 ≤ w2.heap.size := by have := (t1.trans' t2).size; omega
  have T4 : Tch (fun i => base ≤ i) w w4 := (((Ht0.out.trans' (t1.trans' t2)).mono (fun _ _ h => h.elim)).trans' (t3.mono (fun i _ e => by have e2 : i = T := e; omega))).trans' (t4.mono (fun i _ e => by have e2 : i = d := e; have := hCO2.ge; omega))
  have hN2 : base ≤ N := by have := HN.out; omega
  have hcol4 := own_tch (own_tch (own_tch (own_tch Hcol.out Ht0.out (fun _ _ h => h)) (t1.trans' t2) (fun _ _ h => h)) t3 (fun g e e2 => (Hcb.out g e).2.2.2 e2)) t4 (fun g e e2 => (Hcb.out g e).2.2.1 e2)
  have hTt : ∀ g, (Value.slice (some ⟨T, 0, none⟩) (P.length - 1) tc).ownBlock = some g → T = g := fun g e => by simpa [Value.ownBlock] using e
  have HFin : Hid (∀ W', W' = ((((w4.setCell ⟨N + 1, 0, none⟩ (.int .i64 t.id)).setCell ⟨N + 1, 1, none⟩ (.int .i64 t.ver)).setCell ⟨N + 1, 2, none⟩ (.string t.nm)).setCell ⟨N + 1, 3, none⟩ (.slice co t.cols.length cc)).setCell ⟨N + 1, 4, none⟩ (.int .i64 t.key) → (∀ tmps : Array Value, tmps[4]?.getD undef = .pointer (some ⟨N + 1, 0, none⟩) → tmps[5]?.getD undef = .int .i64 0 → (results Try.f46 tmps).run Try.prog W' = .ok (.tuple #[tA t.id t.ver t.nm (.slice co t.cols.length cc) t.key, .int .i64 0]) W') ∧ (OnOut base d 0 (TX b RB t) (L.eraseIdx k) gv (.returned (.tuple #[tA t.id t.ver t.nm (.slice co t.cols.length cc) t.key, .int .i64 0])) W' ∧ Tch (fun i => base ≤ i) w W')) := fun W' hW' => by
    have tE : Tch (fun i => i = N + 1) w4 W' := by rw [hW']; exact ((((Tch.setCell (fun i => i = N + 1) w4 ⟨N + 1, 0, none⟩ _ rfl).setCellR ⟨N + 1, 1, none⟩ _ rfl).setCellR ⟨N + 1, 2, none⟩ _ rfl).setCellR ⟨N + 1, 3, none⟩ _ rfl).setCellR ⟨N + 1, 4, none⟩ _ rfl
    have hb : W'.heap[N + 1]? = some (.cells #[.int .i64 t.id, .int .i64 t.ver, .string t.nm, .slice co t.cols.length cc, .int .i64 t.key] 36 (0, 0)) := by
      rw [hW', blk_set (blk_set (blk_set (blk_set (blk_set hY4 _) _) _) _) _]; rfl
    have hcol5 := own_tch hcol4 tE (fun g e e2 => by have := (Hcb.out g e).2.1; omega)
    have hlow : ∀ i (hi : i < (P.eraseIdx k).length) g, (P.eraseIdx k)[i].2.ownBlock = some g → g < N := erase_all (Q := fun p => ∀ g, p.2.ownBlock = some g → g < N) HLow.out k
    have hTO5 := hTO4.tch2 tE (fun g e e2 => by have e3 := (hTO4.own.lt g e).1; have e4 := hTt g e; omega) (fun i hi g e e2 => by have := hlow i hi g e; omega)
    have hlen : (P.eraseIdx k).length = P.length - 1 := List.length_eraseIdx_of_lt hk
    refine ⟨fun tmps h4 h5 => res_pair hrs h4 h5 (by rw [blk_cell hb]; rfl) (by rw [blk_cell hb]; rfl) (by rw [blk_cell hb]; rfl) (by rw [blk_cell hb]; rfl) (by rw [blk_cell hb]; rfl), ⟨fun _ => ?_, fun e => absurd rfl e⟩, T4.trans' (tE.mono (fun i _ e => by have e2 : i = N + 1 := e; omega))⟩
    refine ⟨_, P.eraseIdx k, .slice (some ⟨T, 0, none⟩) (P.length - 1) tc, rfl, ⟨co, cc, rfl, own_sl hcol5, fun e => ?_, fun g o e hc => ?_⟩, ⟨by rw [tE.block d (blk_lt hd4) (by omega)]; exact hd4, hCO2.ge, hL, hTO5, fun e => hCO2.nb.1 e, hnbP⟩⟩
    · subst e
      obtain ⟨e1, e2, e3⟩ := own_none hcol5
      exact ⟨List.length_eq_zero_iff.1 e1, e2⟩
    · have h2 := (Hcb.out g (by rw [e]; rfl)).1
      omega
  rw [← hM]
  clear hcol4 hTO4 hTO3 hnbP T4 hd3 hd4 hM2 hM3 hM4 hY3 hY4 hCO2 hb3 hs3 htk3 htk4 htk hcur hcs h1c hL hs02 t1 t2 t3 t4 hM
  have Hw4 : Hid _ := hw4
  clear hw4
  rw [Hw4.out] at m0 m1 m2 m3 m4 z0 z1 z2 z3 z4 f0 f1 f2 f3 f4
  go_wp2_with fail
  rw [← Hw4.out]
  refine bodyPost_ret ((HFin.out _ rfl).1 _ ?_ ?_) rfl (HFin.out _ rfl).2 <;> rfl
end Go.Proofs.Ytolamjipigfocaa
/- change, with a removal. -/
namespace Go.Proofs.Ytolamjipigfocaa
open Go.RowKit Go

set_option maxHeartbeats 4000000 in
set_option maxRecDepth 100000 in
theorem change_drop (b : Nat) (L : List Tbl) (gv : Int) (P : List (Tbl × Value)) (to : Option Addr) (tc : Nat) (F : Nat → Prop) (nm : ByteArray) (E : Int) (t0 : Tbl) (L' : List Tbl) (g' : Int) (w : World) (h : CA w F b L gv P to tc) (hl : P.length ≤ 16) (h8 : ∀ i (hi : i < P.length), P[i].1.cols.length ≤ 8) (ht8 : t0.cols.length ≤ 8) (hF : ∀ i, F i → i < w.heap.size)
    (hon : ∀ W d Q tv, Tch (fun _ => False) w W → w.heap.size + 1 ≤ W.heap.size → Q.length = P.length → CO W (w.heap.size + 1) d L gv Q tv → Calls Try.prog 46 #[.agg #[.string nm], .pointer (some ⟨d, 0, none⟩)] W fun x w' => OnOut (w.heap.size + 1) d E (TX b w.heap.size t0) L' g' x w' ∧ Tch (fun i => w.heap.size + 1 ≤ i) W w') :
    Calls Try.prog 38 #[.pointer (some ⟨b, 0, none⟩), .func (.func 46) #[.agg #[.string nm]] #[]] w fun x w' => ChgOut F b E t0 L' g' w x w' := by
  obtain ⟨N, hN⟩ : ∃ N, N = w.heap.size := ⟨_, rfl⟩
  obtain ⟨w0, hw0⟩ : ∃ w0, w0 = w.alloc (.cells #[.int .i64 0, .int .i64 0, .string ⟨#[]⟩, .slice none 0 0, .int .i64 0] 36) := ⟨_, rfl⟩
  have t00 : Tch (fun _ => False) w w0 := by rw [hw0]; exact Tch.alloc _ _ _
  have hs0 : w0.heap.size = N + 1 := by rw [hw0, World.size_alloc, hN]
  have hY : w0.heap[N]? = some (.cells #[.int .i64 0, .int .i64 0, .string ⟨#[]⟩, .slice none 0 0, .int .i64 0] 36 (0, 0)) := by rw [hw0, hN]; exact alloc_new _ _
  have q1 := clone_any b L gv P to tc F w0 (h.tch t00 (fun _ _ h => h.elim)) hl h8
  rw [hs0] at q1
  have hPL : P.length = L.length := by rw [← h.eq]; simp
  have hbN : b < N := by rw [hN]; exact blk_lt h.blk
  have Hb : Hid (∀ W, Tch (fun _ => False) w W → W.heap[b]? = some (.cells #[.slice to P.length tc, .int .i64 gv] 55 (0, 0))) := fun W tW => (h.tch tW (fun _ _ h => h.elim)).blk
  have HY : Hid (w0.heap[N]? = some (.cells #[.int .i64 0, .int .i64 0, .string ⟨#[]⟩, .slice none 0 0, .int .i64 0] 36 (0, 0))) := hY
  have Hw0 : Hid _ := hw0
  have HN : Hid (N = w.heap.size) := hN
  have Ht0 : Hid (Tch (fun _ => False) w w0) := t00
  have Hs0 : Hid (w0.heap.size = N + 1) := hs0
  have Hnb : Hid (¬ F b) := h.nb
  have HPL : Hid (P.length = L.length) := hPL
  have Hon : Hid _ := hon
  have HF : Hid _ := hF
  clear h hw0 hN hY t00 hs0 hPL hon h8 hF
  go_enter Try.func38, Try.ntmps38
  go_wp2_with fail
  rw [← HN.out]
  have hw0 := Hw0.out
  rw [← hw0]
  clear hw0
  refine q1.mono ?_
  rintro x w1 ⟨⟨d, tv, Q, rfl, hCO⟩, t1⟩
  clear q1
  have hQl : Q.length = P.length := by have h1 := congrArg List.length hCO.eq; rw [List.length_map] at h1; rw [h1, HPL.out]
  have q2 := Hon.out w1 d Q tv (Ht0.out.trans' t1) (by have := t1.size; have := Hs0.out; have := HN.out; omega) hQl (by rw [← HN.out]; exact hCO)
  rw [← HN.out] at q2
  have HdN : Hid (N < d ∧ d < w1.heap.size) := ⟨by have := hCO.ge; show N < d; omega, blk_lt hCO.blk⟩
  clear hCO
  go_wp2_with fail
  refine q2.mono ?_
  rintro x w2 ⟨hO, t2⟩
  clear q2
  have T2 : Tch (fun _ => False) w w2 := (Ht0.out.trans' t1).trans t2 (fun i hi h => by have := HN.out; omega)
  have hY2 : w2.heap[N]? = some (.cells #[.int .i64 0, .int .i64 0, .string ⟨#[]⟩, .slice none 0 0, .int .i64 0] 36 (0, 0)) := by
    rw [t2.block N (Nat.lt_of_lt_of_le (blk_lt HY.out) t1.size) (by omega), t1.block N (blk_lt HY.out) (fun h => h)]; exact HY.out
  have HY2 : Hid (w2.heap[N]? = some (.cells #[.int .i64 0, .int .i64 0, .string ⟨#[]⟩, .slice none 0 0, .int .i64 0] 36 (0, 0))) := hY2
  have HT2 : Hid (Tch (fun _ => False) w w2) := T2
  have hrs : Try.f38.results = #[.cell 4 36, .tmp 5] := by kernel_rfl
  have Hrs : Hid _ := hrs
  clear hY2 T2 hrs
  by_cases hE : E = 0
  · subst hE
    obtain ⟨v, Pd, tvd, rfl, ⟨co, cc, rfl, hsl, hno, hnb⟩, hCO2⟩ := hO.1 rfl
    clear hO
    obtain ⟨tdo, tdc, htd⟩ := row_slice hCO2.to.own
    subst htd
    have d0 : w2.cell? ⟨d, 0, none⟩ = some (.slice tdo Pd.length tdc) := by rw [blk_cell hCO2.blk]; rfl
    have d1 : w2.cell? ⟨d, 1, none⟩ = some (.int .i64 g') := by rw [blk_cell hCO2.blk]; rfl
    have hb2 := Hb.out w2 HT2.out
    have b0 : w2.cell? ⟨b, 0, none⟩ = some (.slice to P.length tc) := by rw [blk_cell hb2]; rfl
    have b1 : w2.cell? ⟨b, 1, none⟩ = some (.int .i64 gv) := by rw [blk_cell hb2]; rfl
    have f0 := blk_frozen hb2 0
    have f1 := blk_frozen hb2 1
    obtain ⟨B, hB⟩ : ∃ B, B = w2.heap.size := ⟨_, rfl⟩
    obtain ⟨w3, hw3⟩ : ∃ w3, w3 = w2.alloc (.cells #[.int .i64 t0.id, .int .i64 t0.ver, .string t0.nm, .slice co t0.cols.length cc, .int .i64 t0.key] 36) := ⟨_, rfl⟩
    have t3 : Tch (fun _ => False) w2 w3 := by rw [hw3]; exact Tch.alloc _ _ _
    have key3 : ∀ i j v, w2.cell? ⟨i, j, none⟩ = some v → w3.cell? ⟨i, j, none⟩ = some v := fun i j v hv => (t3.cell (p := ⟨i, j, none⟩) (cell_lt hv) (fun h => h)).trans hv
    have keyf : ∀ i j, i < w2.heap.size → w3.frozen? ⟨i, j, none⟩ = w2.frozen? ⟨i, j, none⟩ := fun i j hi => t3.frozen (p := ⟨i, j, none⟩) hi (fun h => h)
    have hbl2 : b < w2.heap.size := blk_lt hb2
    have e0 := key3 _ _ _ d0; have e1 := key3 _ _ _ d1; have c0 := key3 _ _ _ b0; have c1 := key3 _ _ _ b1
    have h0 : w3.frozen? ⟨b, 0, none⟩ = false := (keyf b 0 hbl2).trans f0
    have h1 : w3.frozen? ⟨b, 1, none⟩ = false := (keyf b 1 hbl2).trans f1
    have hbx3 : w3.heap[B]? = some (.cells #[.int .i64 t0.id, .int .i64 t0.ver, .string t0.nm, .slice co t0.cols.length cc, .int .i64 t0.key] 36 (0, 0)) := by rw [hw3, hB]; exact alloc_new _ _
    obtain ⟨w4, hw4⟩ : ∃ w4, w4 = (w3.setCell ⟨b, 0, none⟩ (.slice tdo Pd.length tdc)).setCell ⟨b, 1, none⟩ (.int .i64 g') := ⟨_, rfl⟩
    have t4 : Tch (fun i => i = b) w3 w4 := by rw [hw4]; exact (Tch.setCell (fun i => i = b) w3 ⟨b, 0, none⟩ _ rfl).setCellR ⟨b, 1, none⟩ _ rfl
    have hBb : B ≠ b := by omega
    have hbx4 : w4.heap[B]? = some (.cells #[.int .i64 t0.id, .int .i64 t0.ver, .string t0.nm, .slice co t0.cols.length cc, .int .i64 t0.key] 36 (0, 0)) := by rw [t4.block B (blk_lt hbx3) hBb]; exact hbx3
    have hb4 : w4.heap[b]? = some (.cells #[.slice tdo Pd.length tdc, .int .i64 g'] 55 (0, 0)) := by
      have hb3 : w3.heap[b]? = some (.cells #[.slice to P.length tc, .int .i64 gv] 55 (0, 0)) := by rw [t3.block b hbl2 (fun h => h)]; exact hb2
      rw [hw4, blk_set (blk_set hb3 _) _]; rfl
    obtain ⟨x0, x1, x2, x3, x4⟩ : w4.cell? ⟨B, 0, none⟩ = some (.int .i64 t0.id) ∧ w4.cell? ⟨B, 1, none⟩ = some (.int .i64 t0.ver) ∧ w4.cell? ⟨B, 2, none⟩ = some (.string t0.nm) ∧ w4.cell? ⟨B, 3, none⟩ = some (.slice co t0.cols.length cc) ∧ w4.cell? ⟨B, 4, none⟩ = some (.int .i64 t0.key) := ⟨by rw [blk_cell hbx4]; rfl, by rw [blk_cell hbx4]; rfl, by rw [blk_cell hbx4]; rfl, by rw [blk_cell hbx4]; rfl, by rw [blk_cell hbx4]; rfl⟩
    have T24 : Tch (fun i => i = b) w2 w4 := (t3.mono (fun _ _ h => h.elim)).trans' t4
    have hsl4 : SL w4 co (ccl t0.cols) := by
      by_cases hc : t0.cols = []
      · rw [hc]; exact SL.nil _ _
      · exact hsl.tch T24 (fun g o e => (hnb g o e hc).1)
    have q5 := copied_any t0 co cc w4 hsl4 hno (by omega)
    have Hw3 : Hid _ := hw3
    have Hw4 : Hid _ := hw4
    have HB : Hid (B = w2.heap.size) := hB
    rw [hw4] at x0 x1 x2 x3 x4
    rw [hw3] at e0 e1 c0 c1 h0 h1
    rw [hw3, hB] at x0 x1 x2 x3 x4
    have HT24 : Hid (Tch (fun i => i = b) w2 w4) := T24
    have Hb4 : Hid (w4.heap[b]? = some (.cells #[.slice tdo Pd.length tdc, .int .i64 g'] 55 (0, 0))) := hb4
    have HCO2 : Hid _ := hCO2
    clear hw3 hw4 hB hbx3 hbx4 hb4 hb2 key3 keyf t3 t4 T24 hsl4 hsl hno hnb d0 d1 b0 b1 f0 f1 hCO2 hbl2 hBb
    go_wp2_with fail
    have hw3 := Hw3.out
    rw [← hw3]
    have hw4 := Hw4.out
    rw [← hw4]
    clear hw3 hw4 x0 x1 x2 x3 x4 e0 e1 c0 c1 h0 h1
    refine q5.mono ?_
    rintro y w5 ⟨⟨v5, rfl, hv5⟩, t5⟩
    clear q5
    obtain ⟨vo, vc, hvv⟩ := row_slice hv5
    subst hvv
    have hY5 : w5.heap[N]? = some (.cells #[.int .i64 0, .int .i64 0, .string ⟨#[]⟩, .slice none 0 0, .int .i64 0] 36 (0, 0)) := by
      rw [t5.block N (Nat.lt_of_lt_of_le (blk_lt HY2.out) HT24.out.size) (fun h => h), HT24.out.block N (blk_lt HY2.out) (by omega)]; exact HY2.out
    obtain ⟨z0, z1, z2, z3, z4⟩ : w5.cell? ⟨N, 0, none⟩ = some (.int .i64 0) ∧ w5.cell? ⟨N, 1, none⟩ = some (.int .i64 0) ∧ w5.cell? ⟨N, 2, none⟩ = some (.string ⟨#[]⟩) ∧ w5.cell? ⟨N, 3, none⟩ = some (.slice none 0 0) ∧ w5.cell? ⟨N, 4, none⟩ = some (.int .i64 0) := ⟨by rw [blk_cell hY5]; rfl, by rw [blk_cell hY5]; rfl, by rw [blk_cell hY5]; rfl, by rw [blk_cell hY5]; rfl, by rw [blk_cell hY5]; rfl⟩
    have f0 := blk_frozen hY5 0; have f1 := blk_frozen hY5 1; have f2 := blk_frozen hY5 2; have f3 := blk_frozen hY5 3; have f4 := blk_frozen hY5 4
    have HFin : Hid (∀ W', W' = ((((w5.setCell ⟨N, 0, none⟩ (.int .i64 t0.id)).setCell ⟨N, 1, none⟩ (.int .i64 t0.ver)).setCell ⟨N, 2, none⟩ (.string t0.nm)).setCell ⟨N, 3, none⟩ (.slice vo t0.cols.length vc)).setCell ⟨N, 4, none⟩ (.int .i64 t0.key) → (∀ tmps : Array Value, tmps[4]?.getD undef = .pointer (some ⟨N, 0, none⟩) → tmps[5]?.getD undef = .int .i64 0 → (results Try.f38 tmps).run Try.prog W' = .ok (.tuple #[tA t0.id t0.ver t0.nm (.slice vo t0.cols.length vc) t0.key, .int .i64 0]) W') ∧ ChgOut F b 0 t0 L' g' w (.returned (.tuple #[tA t0.id t0.ver t0.nm (.slice vo t0.cols.length vc) t0.key, .int .i64 0])) W') := fun W' hW' => by
      have tE : Tch (fun i => i = N) w5 W' := by rw [hW']; exact ((((Tch.setCell (fun i => i = N) w5 ⟨N, 0, none⟩ _ rfl).setCellR ⟨N, 1, none⟩ _ rfl).setCellR ⟨N, 2, none⟩ _ rfl).setCellR ⟨N, 3, none⟩ _ rfl).setCellR ⟨N, 4, none⟩ _ rfl
      have hb : W'.heap[N]? = some (.cells #[.int .i64 t0.id, .int .i64 t0.ver, .string t0.nm, .slice vo t0.cols.length vc, .int .i64 t0.key] 36 (0, 0)) := by
        rw [hW', blk_set (blk_set (blk_set (blk_set (blk_set hY5 _) _) _) _) _]; rfl
      have hsz4 := HT24.out.size
      have hsz2 := HT2.out.size
      have hNw := HN.out
      have h2N : N < w2.heap.size := blk_lt HY2.out
      have hCO := HCO2.out
      have hTO : TO W' (N + 1) (.slice tdo Pd.length tdc) Pd := ((hCO.to.tch HT24.out (fun i hi _ h => by omega)).tch t5 (fun _ _ _ h => h)).tch tE (fun i hi _ h => by omega)
      refine ⟨fun tmps h4 h5 => res_pair Hrs.out h4 h5 (by rw [blk_cell hb]; rfl) (by rw [blk_cell hb]; rfl) (by rw [blk_cell hb]; rfl) (by rw [blk_cell hb]; rfl) (by rw [blk_cell hb]; rfl), fun _ => ⟨.slice vo t0.cols.length vc, Pd, tdo, tdc, rfl, ?_, ⟨?_, hCO.eq, hTO.tl' (fun g hg hf => ?_), fun hf => ?_⟩, ?_⟩, fun e => absurd rfl e⟩
      · exact own_low (own_tch hv5 tE (fun g e h => by have := (hv5.lt g e).1; omega)) (by omega)
      · rw [tE.block b (Nat.lt_of_lt_of_le (blk_lt Hb4.out) t5.size) (by omega), t5.block b (blk_lt Hb4.out) (fun h => h)]; exact Hb4.out
      · have hgb : N + 1 ≤ g ∧ g < w2.heap.size := by
          rcases hg with hg | ⟨i, hi, hg⟩
          · exact hCO.to.own.lt g hg
          · exact (hCO.to.col i hi).lt g hg
        rcases hf with (hf | hf) | hf
        · have := HF.out g hf; omega
        · have := (hv5.lt g hf).1; omega
        · omega
      · rcases hf with hf | hf
        · exact Hnb.out hf
        · have := (hv5.lt b hf).1; omega
      · exact ((HT2.out.mono (T := fun i => i = b) (fun _ _ h => h.elim)).trans' (HT24.out.trans' (t5.mono (fun _ _ h => h.elim)))).trans tE (fun i hi h => by omega)
    clear hv5 hY5
    go_wp2_with fail
    refine bodyPost_ret ((HFin.out _ rfl).1 _ ?_ ?_) rfl (HFin.out _ rfl).2 <;> rfl
  · obtain ⟨rfl, tvx, gvx, nx, xsx, hbx, hgx, hox, hnx, _⟩ := hO.2 hE
    obtain ⟨w3, hcl, t3⟩ := clear_own hox
    have d0 : w2.cell? ⟨d, 0, none⟩ = some tvx := by rw [blk_cell hbx]; rfl
    obtain ⟨txo, txc, htx⟩ := row_slice hox
    subst htx
    have hb4 : (E != 0) = true := by simpa using hE
    have HE : Hid (E ≠ 0) := hE
    have Hox : Hid (∀ g, (Value.slice txo nx txc).ownBlock = some g → N + 1 ≤ g ∧ g < w2.heap.size) := fun g e => hox.lt g e
    have Ht3 : Hid _ := t3
    obtain ⟨w2a, hw2a⟩ : ∃ w2a, w2a = w2.alloc (.cells #[.int .i64 0, .int .i64 0, .string ⟨#[]⟩, .slice none 0 0, .int .i64 0] 36) := ⟨_, rfl⟩
    have ta : Tch (fun _ => False) w2 w2a := by rw [hw2a]; exact Tch.alloc _ _ _
    obtain ⟨w4, hcl4, t4⟩ := clear_own (own_tch hox ta (fun _ _ h => h))
    have d0a : w2a.cell? ⟨d, 0, none⟩ = some (.slice txo nx txc) := (ta.cell (p := ⟨d, 0, none⟩) (cell_lt d0) (fun h => h)).trans d0
    rw [hw2a] at d0a hcl4
    have hY4 : w4.heap[N]? = some (.cells #[.int .i64 0, .int .i64 0, .string ⟨#[]⟩, .slice none 0 0, .int .i64 0] 36 (0, 0)) := by
      rw [t4.block N (Nat.lt_of_lt_of_le (blk_lt HY2.out) ta.size) (fun e => by have := (Hox.out N e).1; omega), ta.block N (blk_lt HY2.out) (fun h => h)]; exact HY2.out
    obtain ⟨z0, z1, z2, z3, z4⟩ : w4.cell? ⟨N, 0, none⟩ = some (.int .i64 0) ∧ w4.cell? ⟨N, 1, none⟩ = some (.int .i64 0) ∧ w4.cell? ⟨N, 2, none⟩ = some (.string ⟨#[]⟩) ∧ w4.cell? ⟨N, 3, none⟩ = some (.slice none 0 0) ∧ w4.cell? ⟨N, 4, none⟩ = some (.int .i64 0) := ⟨by rw [blk_cell hY4]; rfl, by rw [blk_cell hY4]; rfl, by rw [blk_cell hY4]; rfl, by rw [blk_cell hY4]; rfl, by rw [blk_cell hY4]; rfl⟩
    have f0 := blk_frozen hY4 0; have f1 := blk_frozen hY4 1; have f2 := blk_frozen hY4 2; have f3 := blk_frozen hY4 3; have f4 := blk_frozen hY4 4
    have HFin : Hid (∀ W', W' = ((((w4.setCell ⟨N, 0, none⟩ (.int .i64 0)).setCell ⟨N, 1, none⟩ (.int .i64 0)).setCell ⟨N, 2, none⟩ (.string ⟨#[]⟩)).setCell ⟨N, 3, none⟩ (.slice none 0 0)).setCell ⟨N, 4, none⟩ (.int .i64 0) → (∀ tmps : Array Value, tmps[4]?.getD undef = .pointer (some ⟨N, 0, none⟩) → tmps[5]?.getD undef = .int .i64 E → (results Try.f38 tmps).run Try.prog W' = .ok (.tuple #[zA, .int .i64 E]) W') ∧ ChgOut F b E t0 L' g' w (.returned (.tuple #[zA, .int .i64 E])) W') := fun W' hW' => by
      have tE : Tch (fun i => i = N) w4 W' := by rw [hW']; exact ((((Tch.setCell (fun i => i = N) w4 ⟨N, 0, none⟩ _ rfl).setCellR ⟨N, 1, none⟩ _ rfl).setCellR ⟨N, 2, none⟩ _ rfl).setCellR ⟨N, 3, none⟩ _ rfl).setCellR ⟨N, 4, none⟩ _ rfl
      have hb : W'.heap[N]? = some (.cells #[.int .i64 0, .int .i64 0, .string ⟨#[]⟩, .slice none 0 0, .int .i64 0] 36 (0, 0)) := by
        rw [hW', blk_set (blk_set (blk_set (blk_set (blk_set hY4 _) _) _) _) _]; rfl
      refine ⟨fun tmps h4 h5 => res_pair Hrs.out h4 h5 (by rw [blk_cell hb]; rfl) (by rw [blk_cell hb]; rfl) (by rw [blk_cell hb]; rfl) (by rw [blk_cell hb]; rfl) (by rw [blk_cell hb]; rfl), fun e => absurd e HE.out, fun _ => ⟨rfl, ?_⟩⟩
      have hNw := HN.out
      exact ((HT2.out.trans' ta).trans t4 (fun i hi e => by have := (Hox.out i e).1; omega)).trans tE (fun i hi h => by omega)
    clear hY4 hE d0 hcl t3 hbx hox ta t4 hw2a
    go_wp2_with fail
    refine bodyPost_ret ((HFin.out _ rfl).1 _ ?_ ?_) rfl (HFin.out _ rfl).2 <;> rfl
end Go.Proofs.Ytolamjipigfocaa
