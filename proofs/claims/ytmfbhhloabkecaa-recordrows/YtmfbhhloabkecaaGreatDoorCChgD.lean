import Derived.Test.YtmfbhhloabkecaaGreatDoorCWid
/- Create of the code. -/
namespace Go.Proofs.YtmfbhhloabkecaaGreatDoor.C
open Go.RowKit Go

theorem TL.fresh {F F' : Nat → Prop} {W : World} {to : Option Addr} {P : List (Tbl × Value)} (h : TL W F to P) (hF : ∀ i, i < W.heap.size → F' i → F i) : TL W F' to P := by
  refine ⟨h.sl, fun hP g o e hf => ?_, fun i hi => ?_⟩
  · obtain ⟨g', o', e', ha⟩ := h.sl (tcl_nil hP)
    rw [e'] at e; injection e with e; injection e with e1 e2; subst e1
    exact h.nf hP g' o' e' (hF g' (ha.lt (tcl_nil hP)) hf)
  · obtain ⟨co, cc, hck⟩ := h.col i hi
    exact ⟨co, cc, hck.eq, hck.sl, hck.no, hck.cap, fun hne g o e => ⟨fun hf => (hck.nf hne g o e).1 (hF g (hck.nf hne g o e).2 hf), (hck.nf hne g o e).2⟩⟩
theorem CA.fresh {F F' : Nat → Prop} {W : World} {b : Nat} {L : List Tbl} {gv : Int} {P : List (Tbl × Value)} {to : Option Addr} {tc : Nat} (h : CA W F b L gv P to tc) (hF : ∀ i, i < W.heap.size → F' i → F i) : CA W F' b L gv P to tc :=
  ⟨h.blk, h.eq, h.tl.fresh (fun i hi h' => h'.imp (hF i hi) id), fun hf => h.nb (hF b (blk_lt h.blk) hf)⟩
/-- The end of a call that hands a table and an error on, which it has from another one. -/
theorem chg_end {F : Nat → Prop} {b N : Nat} {E : Int} {t0 : Tbl} {L' : List Tbl} {g' : Int} {w w0 w2 W' : World} {x : Ending} (hN : N = w.heap.size) (hw : Tch (fun _ => False) w w0) (hs : w0.heap.size = N + 1) (h : ChgOut (fun i => F i ∨ i = N) b E t0 L' g' w0 x w2) (tE : Tch (fun i => i = N) w2 W') : ChgOut F b E t0 L' g' w x W' := by
  refine ⟨fun e => ?_, fun e => ?_⟩
  · obtain ⟨v, P, to, tc, hx, hv, hca, ht⟩ := h.1 e
    have hv' : ∀ g, v.ownBlock = some g → N + 1 ≤ g := fun g e => by have := (hv.lt g e).1; omega
    refine ⟨v, P, to, tc, hx, own_low (own_tch hv tE (fun g e e2 => by have := hv' g e; omega)) (by omega), ?_, ?_⟩
    · have h1 := hca.tch tE (fun i _ e => Or.inl (Or.inr e))
      exact h1.fresh (fun i _ hh => hh.imp Or.inl id)
    · exact ((hw.mono (T := fun i => i = b) (fun _ _ h => h.elim)).trans' ht).trans tE (fun i hi e => by omega)
  · obtain ⟨hx, ht⟩ := h.2 e
    exact ⟨hx, (hw.trans' ht).trans tE (fun i hi e => by omega)⟩
theorem chg_shape {F : Nat → Prop} {b : Nat} {E : Int} {t0 : Tbl} {L' : List Tbl} {g' : Int} {w w2 : World} {x : Ending} (h : ChgOut F b E t0 L' g' w x w2) : ∃ i j s v k, x = .returned (.tuple #[tA i j s v k, .int .i64 E]) ∧ (∃ ao n c, v = .slice ao n c) := by
  by_cases e : E = 0
  · obtain ⟨v, P, to, tc, hx, hv, _⟩ := h.1 e
    obtain ⟨ao, c, e2⟩ := row_slice hv
    exact ⟨_, _, _, v, _, by rw [hx, e], ao, _, c, e2⟩
  · exact ⟨0, 0, ⟨#[]⟩, .slice none 0 0, 0, (h.2 e).1, none, 0, 0, rfl⟩

set_option maxHeartbeats 4000000 in
set_option maxRecDepth 100000 in
theorem create_any (b : Nat) (L : List Tbl) (gv : Int) (P : List (Tbl × Value)) (to : Option Addr) (tc : Nat) (F : Nat → Prop) (nm : ByteArray) (cols : List Col) (ao : Option Addr) (c : Nat) (key : Int) (w : World) (h : CA w F b L gv P to tc) (hl : P.length ≤ 16) (h8 : ∀ i (hi : i < P.length), P[i].1.cols.length ≤ 8) (hF : ∀ i, F i → i < w.heap.size)
    (ht : SL w ao (ccl cols)) (hno : ao = none → cols = [] ∧ c = 0) (hcap : cols.length ≤ c) (hcl : cols.length ≤ 9223372036854775807) (h0 : 0 ≤ gv) (h1 : gv ≤ 2147483647) (hab : ∀ g o, ao = some ⟨g, o, none⟩ → cols ≠ [] → g ≠ b) :
    Calls Tryz.prog 8 #[.pointer (some ⟨b, 0, none⟩), .string nm, .slice ao cols.length c, .int .i64 key] w fun x w' => ChgOut F b (creE L gv nm cols key) (creT gv nm cols key) (L ++ [creT gv nm cols key]) (gv + 1) w x w' := by
  obtain ⟨N, hN⟩ : ∃ N, N = w.heap.size := ⟨_, rfl⟩
  obtain ⟨w0, hw0⟩ : ∃ w0, w0 = w.alloc (.cells #[.int .i64 0, .int .i64 0, .string ⟨#[]⟩, .slice none 0 0, .int .i64 0] 29) := ⟨_, rfl⟩
  have t0 : Tch (fun _ => False) w w0 := by rw [hw0]; exact Tch.alloc _ _ _
  have hs0 : w0.heap.size = N + 1 := by rw [hw0, World.size_alloc, hN]
  have hY : w0.heap[N]? = some (.cells #[.int .i64 0, .int .i64 0, .string ⟨#[]⟩, .slice none 0 0, .int .i64 0] 29 (0, 0)) := by rw [hw0, hN]; exact alloc_new _ _
  have hbN : b < N := by rw [hN]; exact blk_lt h.blk
  have hPL : P.map Prod.fst = L := h.eq
  have hslt : ∀ g o, ao = some ⟨g, o, none⟩ → cols ≠ [] → g < N := fun g o e hc => by
    obtain ⟨g', o', e', ha⟩ := ht (f3_nil _ _ _ hc)
    rw [e'] at e; injection e with e; injection e with e1 e2; subst e1
    rw [hN]; exact ha.lt (f3_nil _ _ _ hc)
  obtain ⟨E, hE⟩ : ∃ E, E = creE L gv nm cols key := ⟨_, rfl⟩
  have ht8 : E = 0 → cols.length ≤ 8 := fun e => by
    have h2 : rightE (creT gv nm cols key) = 0 := by
      rw [hE] at e
      unfold creE at e
      split at e
      · simp at e
      · split at e
        · simp at e
        · split at e
          · simp at e
          · exact e
    exact (right_len h2).2
  have q1 : Calls Tryz.prog 24 #[.pointer (some ⟨b, 0, none⟩), .func (.func 25) #[.agg #[.string nm, .slice ao cols.length c, .int .i64 key]] #[]] w0 fun x w' => ChgOut (fun i => F i ∨ i = N) b E (creT gv nm cols key) (L ++ [creT gv nm cols key]) (gv + 1) w0 x w' := by
    have hca : CA w0 (fun i => F i ∨ i = N) b L gv P to tc := by
      have h2 : CA w (fun i => F i ∨ i = N) b L gv P to tc := h.fresh (fun i hi hh => hh.elim id (fun e => by omega))
      exact h2.tch t0 (fun _ _ h => h.elim)
    have hF0 : ∀ i, (F i ∨ i = N) → i < w0.heap.size := fun i hi => by
      rcases hi with hi | hi
      · have := hF i hi; omega
      · omega
    have hon : ∀ t00 : Tbl, (E = 0 → t00 = creT gv nm cols key) → ∀ W d Q tv, Tch (fun _ => False) w0 W → w0.heap.size + 1 ≤ W.heap.size → Q.length = P.length → CO W (w0.heap.size + 1) d L gv Q tv → Calls Tryz.prog 25 #[.agg #[.string nm, .slice ao cols.length c, .int .i64 key], .pointer (some ⟨d, 0, none⟩)] W fun x w' => OnOut (w0.heap.size + 1) d E (TX b w0.heap.size t00) (L ++ [creT gv nm cols key]) (gv + 1) x w' ∧ Tch (fun i => w0.heap.size + 1 ≤ i) W w' := fun t00 ht00 W d Q tv tW hsz hQl hCO => by
      have hslW : SL W ao (ccl cols) := (ht.no t0).no tW
      refine (creationOn_any (w0.heap.size + 1) d L gv Q tv nm cols ao c key W hCO hslW hno hcap hcl (by omega) h0 h1 hsz).mono ?_
      rintro x w' ⟨hO, t'⟩
      rw [← hE] at hO
      refine ⟨⟨fun e => ?_, hO.2⟩, t'⟩
      obtain ⟨v, P', tv', hx, hv, hco⟩ := hO.1 e
      refine ⟨v, P', tv', hx, ?_, hco⟩
      rw [ht00 e]
      refine ⟨ao, c, hv, ?_, hno, fun g o e2 hc => ⟨hab g o e2 hc, ?_⟩⟩
      · show SL w' ao (ccl cols)
        by_cases hc : cols = []
        · rw [hc]; exact SL.nil _ _
        · exact hslW.tch t' (fun g o e2 h => by have := hslt g o e2 hc; omega)
      · have := hslt g o e2 hc; omega
    by_cases hbig : cols.length ≤ 8
    · exact change_create b L gv P to tc (fun i => F i ∨ i = N) nm ao cols.length c key E (creT gv nm cols key) _ _ w0 hca hl h8 hbig hF0 (hon _ (fun _ => rfl))
    · have hE0 : E ≠ 0 := fun e => hbig (ht8 e)
      refine (change_create b L gv P to tc (fun i => F i ∨ i = N) nm ao cols.length c key E ⟨0, 0, ⟨#[]⟩, [], 0⟩ _ _ w0 hca hl h8 (by simp) hF0 (hon _ (fun e => absurd e hE0))).mono ?_
      rintro x w' hO
      exact ⟨fun e => absurd e hE0, hO.2⟩
  have Hw0 : Hid _ := hw0
  have HN : Hid (N = w.heap.size) := hN
  have Ht0 : Hid (Tch (fun _ => False) w w0) := t0
  have Hs0 : Hid (w0.heap.size = N + 1) := hs0
  have HY : Hid (w0.heap[N]? = some (.cells #[.int .i64 0, .int .i64 0, .string ⟨#[]⟩, .slice none 0 0, .int .i64 0] 29 (0, 0))) := hY
  rw [← hE]
  clear h hw0 hN hY t0 hs0 ht hab hslt ht8 hPL hE h8 hF
  go_enter Tryz.func8, Tryz.ntmps8
  go_wp2_with fail
  rw [← HN.out]
  have hw0 := Hw0.out
  rw [← hw0]
  clear hw0
  refine q1.mono ?_
  rintro x w2 hO
  clear q1
  obtain ⟨i, j, s, v, kk, rfl, vo, vn, vc, rfl⟩ := chg_shape hO
  have t2 : Tch (fun i => i = b) w0 w2 := by
    by_cases e : E = 0
    · obtain ⟨_, _, _, _, _, _, _, ht⟩ := hO.1 e; exact ht
    · exact (hO.2 e).2.mono (fun _ _ h => h.elim)
  have hY2 : w2.heap[N]? = some (.cells #[.int .i64 0, .int .i64 0, .string ⟨#[]⟩, .slice none 0 0, .int .i64 0] 29 (0, 0)) := by rw [t2.block N (blk_lt HY.out) (by omega)]; exact HY.out
  obtain ⟨z0, z1, z2, z3, z4⟩ : w2.cell? ⟨N, 0, none⟩ = some (.int .i64 0) ∧ w2.cell? ⟨N, 1, none⟩ = some (.int .i64 0) ∧ w2.cell? ⟨N, 2, none⟩ = some (.string ⟨#[]⟩) ∧ w2.cell? ⟨N, 3, none⟩ = some (.slice none 0 0) ∧ w2.cell? ⟨N, 4, none⟩ = some (.int .i64 0) := ⟨by rw [blk_cell hY2]; rfl, by rw [blk_cell hY2]; rfl, by rw [blk_cell hY2]; rfl, by rw [blk_cell hY2]; rfl, by rw [blk_cell hY2]; rfl⟩
  have f0 := blk_frozen hY2 0; have f1 := blk_frozen hY2 1; have f2 := blk_frozen hY2 2; have f3 := blk_frozen hY2 3; have f4 := blk_frozen hY2 4
  have hrs : Tryz.f8.results = #[.cell 8 29, .tmp 9] := by kernel_rfl
  have HFin : Hid (∀ W', W' = ((((w2.setCell ⟨N, 0, none⟩ (.int .i64 i)).setCell ⟨N, 1, none⟩ (.int .i64 j)).setCell ⟨N, 2, none⟩ (.string s)).setCell ⟨N, 3, none⟩ (.slice vo vn vc)).setCell ⟨N, 4, none⟩ (.int .i64 kk) → (∀ tmps : Array Value, tmps[8]?.getD undef = .pointer (some ⟨N, 0, none⟩) → tmps[9]?.getD undef = .int .i64 E → (results Tryz.f8 tmps).run Tryz.prog W' = .ok (.tuple #[tA i j s (.slice vo vn vc) kk, .int .i64 E]) W') ∧ ChgOut F b E (creT gv nm cols key) (L ++ [creT gv nm cols key]) (gv + 1) w (.returned (.tuple #[tA i j s (.slice vo vn vc) kk, .int .i64 E])) W') := fun W' hW' => by
    have tE : Tch (fun i => i = N) w2 W' := by rw [hW']; exact ((((Tch.setCell (fun i => i = N) w2 ⟨N, 0, none⟩ _ rfl).setCellR ⟨N, 1, none⟩ _ rfl).setCellR ⟨N, 2, none⟩ _ rfl).setCellR ⟨N, 3, none⟩ _ rfl).setCellR ⟨N, 4, none⟩ _ rfl
    have hb : W'.heap[N]? = some (.cells #[.int .i64 i, .int .i64 j, .string s, .slice vo vn vc, .int .i64 kk] 29 (0, 0)) := by
      rw [hW', blk_set (blk_set (blk_set (blk_set (blk_set hY2 _) _) _) _) _]; rfl
    exact ⟨fun tmps h4 h5 => res_pair hrs h4 h5 (by rw [blk_cell hb]; rfl) (by rw [blk_cell hb]; rfl) (by rw [blk_cell hb]; rfl) (by rw [blk_cell hb]; rfl) (by rw [blk_cell hb]; rfl), chg_end HN.out Ht0.out Hs0.out hO tE⟩
  clear hO hY2 t2
  go_wp2_with fail
  refine bodyPost_ret ((HFin.out _ rfl).1 _ ?_ ?_) rfl (HFin.out _ rfl).2 <;> rfl
end Go.Proofs.YtmfbhhloabkecaaGreatDoor.C
/- removal.on. -/
namespace Go.Proofs.YtmfbhhloabkecaaGreatDoor.C
open Go.RowKit Go

theorem tcl_take : ∀ (P : List (Tbl × Value)) (k : Nat), (tcl P).take (k * 5) = tcl (P.take k)
  | [], k => by simp [tcl]
  | p :: P, 0 => by simp [tcl]
  | p :: P, k + 1 => by
    have h := tcl_take P k
    have e : tcl (p :: P) = tcs p ++ tcl P := rfl
    rw [e, List.take_succ_cons, show tcl (p :: P.take k) = tcs p ++ tcl (P.take k) from rfl, ← h, show (k + 1) * 5 = (tcs p).length + k * 5 by simp [tcs]; omega, List.take_length_add_append]
theorem tcl_drop : ∀ (P : List (Tbl × Value)) (k : Nat), (tcl P).drop (k * 5) = tcl (P.drop k)
  | [], k => by simp [tcl]
  | p :: P, 0 => by simp
  | p :: P, k + 1 => by
    have h := tcl_drop P k
    have e : tcl (p :: P) = tcs p ++ tcl P := rfl
    rw [e, List.drop_succ_cons, ← h, show (k + 1) * 5 = (tcs p).length + k * 5 by simp [tcs]; omega, List.drop_length_add_append]
theorem tcl_erase (P : List (Tbl × Value)) (k : Nat) : tcl (P.eraseIdx k) = (tcl P).take (k * 5) ++ (tcl P).drop ((k + 1) * 5) := by
  rw [tcl_take, tcl_drop, ← tcl_append, List.eraseIdx_eq_take_drop_succ]
theorem TO.tch2 {S : Nat → Prop} {W W' : World} {base : Nat} {tv : Value} {P : List (Tbl × Value)} (h : TO W base tv P) (t : Tch S W W') (h1 : ∀ g, tv.ownBlock = some g → ¬ S g) (h2 : ∀ i (hi : i < P.length) g, P[i].2.ownBlock = some g → ¬ S g) : TO W' base tv P :=
  ⟨own_tch h.own t h1, fun i hi => own_tch (h.col i hi) t (h2 i hi), h.sep, h.dis⟩
theorem erase_fst (P : List (Tbl × Value)) (k : Nat) : (P.eraseIdx k).map Prod.fst = (P.map Prod.fst).eraseIdx k := by
  rw [List.eraseIdx_eq_take_drop_succ, List.eraseIdx_eq_take_drop_succ, List.map_append, List.map_take, List.map_drop]
theorem erase_all {Q : Tbl × Value → Prop} {P : List (Tbl × Value)} (h : ∀ i (hi : i < P.length), Q P[i]) (k : Nat) : ∀ i (hi : i < (P.eraseIdx k).length), Q (P.eraseIdx k)[i] := fun i hi => by
  obtain ⟨j, hj, e⟩ := List.getElem_of_mem (List.mem_of_mem_eraseIdx (List.getElem_mem hi))
  rw [← e]; exact h j hj
theorem TO.erase {W W' : World} {base T tc k : Nat} {P : List (Tbl × Value)} {cur' : Array Value} (h : TO W base (.slice (some ⟨T, 0, none⟩) P.length tc) P) (hk : k < P.length) (t : Tch (fun i => i = T) W W') (hb : W'.heap[T]? = some (.cells cur' 29 (0, 0))) (hs : cur'.size = tc * 5) (ht : cur'.toList.take ((P.length - 1) * 5) = tcl (P.eraseIdx k)) :
    TO W' base (.slice (some ⟨T, 0, none⟩) (P.length - 1) tc) (P.eraseIdx k) := by
  have hle : (P.eraseIdx k).length = P.length - 1 := List.length_eraseIdx_of_lt hk
  have hget : ∀ i (hi : i < (P.eraseIdx k).length), ∃ j, ∃ (hj : j < P.length), (P.eraseIdx k)[i] = P[j] ∧ j = if i < k then i else i + 1 := fun i hi => by
    rw [hle] at hi
    refine ⟨if i < k then i else i + 1, by split <;> omega, ?_, rfl⟩
    rw [List.getElem_eraseIdx]
    split
    · rfl
    · rfl
  refine ⟨⟨?_, ?_⟩, fun i hi => ?_, fun i hi g e => ?_, fun i j hi hj g hne e => ?_⟩
  · rw [tcl_len]
  · rcases h.own.2 with ⟨h1, _⟩ | ⟨g, cap, cur, hv, hb0, hg, hnc, hcm, hcs, htk⟩
    · injection h1 with h1; cases h1
    · injection hv with e1 e2 e3
      injection e1 with e1
      injection e1 with e1
      subst e1 e3
      exact Or.inr ⟨T, tc, cur', by rw [hle], hb0, hb, by omega, hcm, by rw [hs], by rw [hle]; exact ht⟩
  · obtain ⟨j, hj, e, _⟩ := hget i hi
    rw [e]
    exact own_tch (h.col j hj) t (fun g e2 e3 => h.sep j hj g e2 (by rw [e3]; rfl))
  · obtain ⟨j, hj, e2, _⟩ := hget i hi
    rw [e2] at e
    exact h.sep j hj g e
  · obtain ⟨i', hi', e2, e3⟩ := hget i hi
    obtain ⟨j', hj', e4, e5⟩ := hget j hj
    rw [e2] at e
    rw [e4]
    refine h.dis i' j' hi' hj' g ?_ e
    rw [e3, e5]
    split <;> split <;> omega

end Go.Proofs.YtmfbhhloabkecaaGreatDoor.C
/- change, with a removal. -/
namespace Go.Proofs.YtmfbhhloabkecaaGreatDoor.C
open Go.RowKit Go

end Go.Proofs.YtmfbhhloabkecaaGreatDoor.C
