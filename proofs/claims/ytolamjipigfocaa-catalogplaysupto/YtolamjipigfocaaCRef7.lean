import Derived.Test.YtolamjipigfocaaCRef5
import Derived.Test.YtolamjipigfocaaCChgD
import Derived.Test.YtolamjipigfocaaCRight3
/- The document's catalog: Drop. -/
namespace Go.Proofs.Ytolamjipigfocaa
open Go.RowKit Go

/-- What a change of the document's catalog gives: P, tv: what was its own before. -/
def RChg (b : Nat) (E : Int) (t0 : Tbl) (L' : List Tbl) (n' : Int) (P : List (Tbl × Value)) (tv : Value) (w : World) (x : Ending) (w' : World) : Prop :=
  (E = 0 → ∃ v P' tv', x = .returned (.tuple #[tA t0.id t0.ver t0.nm v t0.key, .int .i64 0]) ∧ w'.ownsRow 0 43 3 v t0.cols.length (ccl t0.cols) ∧ RO w' 0 b L' n' P' tv' ∧ (∀ g, BL tv' P' g → BL tv P g ∨ w.heap.size ≤ g) ∧ (∀ g, v.ownBlock = some g → (BL tv P g ∨ w.heap.size ≤ g) ∧ g ≠ b ∧ ¬ BL tv' P' g) ∧ Tch (fun i => i = b ∨ BL tv P i) w w') ∧
  (E ≠ 0 → x = .returned (.tuple #[zA, .int .i64 E]) ∧ Tch (fun _ => False) w w')

theorem RO.tl {W : World} {base b : Nat} {L : List Tbl} {nx : Int} {P : List (Tbl × Value)} {to : Option Addr} {tc : Nat} (h : RO W base b L nx P (.slice to P.length tc)) : TL W (fun i => i = b) to P :=
  h.to.tl' (fun g hg e => by
    subst e
    rcases hg with e | ⟨i, hi, e⟩
    · exact h.nb.1 e
    · exact h.nb.2 i hi e)

theorem tcl_one : ∀ (l : List (Tbl × Value)), (∀ p ∈ l, ∃ o n c, p.2 = Value.slice o n c) → ∀ u ∈ tcl l, u.oneCell' = true
  | [], _, u, hu => by simp [tcl] at hu
  | p :: l, h, u, hu => by
    have e : tcl (p :: l) = tcs p ++ tcl l := rfl
    rw [e, List.mem_append] at hu
    rcases hu with hu | hu
    · obtain ⟨o, n, c, e2⟩ := h p (List.mem_cons_self ..)
      simp only [tcs, e2, List.mem_cons, List.not_mem_nil, or_false] at hu
      rcases hu with rfl | rfl | rfl | rfl | rfl <;> rfl
    · exact tcl_one l (fun q hq => h q (List.mem_cons_of_mem _ hq)) u hu
/-- A table less: the list is a new one, the columns are the old ones. -/
theorem TO.less {S : Nat → Prop} {W W' : World} {M k : Nat} {tv tv' : Value} {P : List (Tbl × Value)} (h : TO W 0 tv P) (t : Tch S W W') (hS : ∀ i (hi : i < P.length) g, P[i].2.ownBlock = some g → ¬ S g) (hk : k < P.length) (hM : W.heap.size ≤ M) (ho : W'.ownsRow M 36 5 tv' (P.length - 1) (tcl (P.eraseIdx k))) : TO W' 0 tv' (P.eraseIdx k) := by
  have hle : (P.eraseIdx k).length = P.length - 1 := List.length_eraseIdx_of_lt hk
  have hget : ∀ i (hi : i < (P.eraseIdx k).length), ∃ j, ∃ (hj : j < P.length), (P.eraseIdx k)[i] = P[j] ∧ j = if i < k then i else i + 1 := fun i hi => by
    rw [hle] at hi
    refine ⟨if i < k then i else i + 1, by split <;> omega, ?_, rfl⟩
    rw [List.getElem_eraseIdx]
    split
    · rfl
    · rfl
  refine ⟨by rw [hle]; exact own_low ho (Nat.zero_le _), fun i hi => ?_, fun i hi g e e' => ?_, fun i j hi hj g hne e => ?_⟩
  · obtain ⟨j, hj, e, _⟩ := hget i hi
    rw [e]
    exact own_tch (h.col j hj) t (hS j hj)
  · obtain ⟨j, hj, e2, _⟩ := hget i hi
    rw [e2] at e
    have := ((h.col j hj).lt g e).2
    have := (ho.lt g e').1
    omega
  · obtain ⟨i', hi', e2, e3⟩ := hget i hi
    obtain ⟨j', hj', e4, e5⟩ := hget j hj
    rw [e2] at e
    rw [e4]
    refine h.dis i' j' hi' hj' g ?_ e
    rw [e3, e5]
    split <;> split <;> omega

set_option maxHeartbeats 2000000 in
set_option maxRecDepth 100000 in
theorem rdrop_none (b : Nat) (L : List Tbl) (nx : Int) (P : List (Tbl × Value)) (tv : Value) (nm : ByteArray) (t0 : Tbl) (L' : List Tbl) (n' : Int) (w : World) (h : RO w 0 b L nx P tv) (hl : P.length ≤ 17) (hpos : posP (fun t => decide (t.nm = nm)) P = -1) :
    Calls Try.prog 22 #[.pointer (some ⟨b, 0, none⟩), .string nm] w fun x w' => RChg b 52 t0 L' n' P tv w x w' := by
  obtain ⟨to, tc, htv⟩ := row_slice h.to.own
  subst htv
  have hT := h.tl
  have hb : w.cell? ⟨b, 0, none⟩ = some (.slice to P.length tc) := by rw [blk_cell h.blk]; rfl
  obtain ⟨w0, hw0⟩ : ∃ w0, w0 = w.alloc (.cells #[.int .i64 0, .int .i64 0, .string ⟨#[]⟩, .slice none 0 0, .int .i64 0] 36) := ⟨_, rfl⟩
  have t0' : Tch (fun _ => False) w w0 := by rw [hw0]; exact Tch.alloc _ _ _
  have q0 := rplace_any b to tc P _ nm w0 (by rw [t0'.cell (p := ⟨b, 0, none⟩) (cell_lt hb) (fun h => h)]; exact hb) (hT.tch t0' (fun _ _ h => h.elim)) hl
  rw [hpos, hw0] at q0
  clear hw0 t0' hb hT hl hpos h
  have hrs : Try.f22.results = #[.cell 4 36, .tmp 5] := by kernel_rfl
  go_enter Try.func22, Try.ntmps22
  go_wp2_with fail
  refine q0.mono ?_
  rintro y w0' ⟨rfl, hw0'⟩
  subst hw0'
  clear q0
  go_wp2_with fail
  refine bodyPost_ret (v := .tuple #[zA, .int .i64 52]) (by simp only [results, hrs]; go_simp) rfl ⟨fun e => absurd e (by decide), fun _ => ⟨rfl, Tch.alloc _ _ _⟩⟩

set_option maxHeartbeats 4000000 in
set_option maxRecDepth 100000 in
theorem rdrop_some (b : Nat) (L : List Tbl) (nx : Int) (P : List (Tbl × Value)) (tv : Value) (nm : ByteArray) (w : World) (h : RO w 0 b L nx P tv) (hl : P.length ≤ 16) (k : Nat) (hk : k < P.length) (hpos : posP (fun t => decide (t.nm = nm)) P = k) :
    Calls Try.prog 22 #[.pointer (some ⟨b, 0, none⟩), .string nm] w fun x w' => RChg b 0 P[k].1 (L.eraseIdx k) nx P tv w x w' := by
  obtain ⟨i0, hi0, hz0, hz1, hz2⟩ := info_parts info_tbl
  obtain ⟨T, tc, hTc, rfl⟩ : ∃ T tc, P.length ≤ tc ∧ tv = .slice (some ⟨T, 0, none⟩) P.length tc := by
    rcases h.to.own.2 with ⟨h1, h2⟩ | ⟨g, cap, cur, hv, hb0, hg, hnc, hcm, hcs, htk⟩
    · exfalso; omega
    · exact ⟨g, cap, hnc, hv⟩
  have hT := h.tl
  have hb : w.cell? ⟨b, 0, none⟩ = some (.slice (some ⟨T, 0, none⟩) P.length tc) := by rw [blk_cell h.blk]; rfl
  obtain ⟨N, hN⟩ : ∃ N, N = w.heap.size := ⟨_, rfl⟩
  obtain ⟨w0, hw0⟩ : ∃ w0, w0 = w.alloc (.cells #[.int .i64 0, .int .i64 0, .string ⟨#[]⟩, .slice none 0 0, .int .i64 0] 36) := ⟨_, rfl⟩
  have t0 : Tch (fun _ => False) w w0 := by rw [hw0]; exact Tch.alloc _ _ _
  have q0 := rplace_any b (some ⟨T, 0, none⟩) tc P _ nm w0 (by rw [t0.cell (p := ⟨b, 0, none⟩) (cell_lt hb) (fun h => h)]; exact hb) (hT.tch t0 (fun _ _ h => h.elim)) (by omega)
  rw [hpos] at q0
  obtain ⟨g, o, ego, c0, c1, c2, c3, c4⟩ := (hT.tch t0 (fun _ _ h => h.elim)).at k hk
  obtain ⟨rfl, rfl⟩ : T = g ∧ 0 = o := by simpa using ego
  obtain ⟨co, cc, hck⟩ := (hT.tch t0 (fun _ _ h => h.elim)).col k hk
  have hb0 : w0.cell? ⟨b, 0, none⟩ = some (.slice (some ⟨T, 0, none⟩) P.length tc) := by rw [t0.cell (p := ⟨b, 0, none⟩) (cell_lt hb) (fun h => h)]; exact hb
  obtain ⟨p, hp⟩ : ∃ p, p = P[k] := ⟨_, rfl⟩
  rw [← hp] at c0 c1 c2 c3 c4 hck ⊢
  rw [hck.eq] at c3
  simp only [Nat.zero_add] at c0 c1 c2 c3 c4
  obtain ⟨n, hn⟩ : ∃ n, n = P.length := ⟨_, rfl⟩
  obtain ⟨wb, hwb⟩ : ∃ wb, wb = w0.alloc (.cells #[.int .i64 p.1.id, .int .i64 p.1.ver, .string p.1.nm, .slice co p.1.cols.length cc, .int .i64 p.1.key] 36) := ⟨_, rfl⟩
  have tb : Tch (fun _ => False) w wb := by rw [hwb]; exact t0.allocR _
  have hN0 : w0.heap[N]? = some (.cells #[.int .i64 0, .int .i64 0, .string ⟨#[]⟩, .slice none 0 0, .int .i64 0] 36 (0, 0)) := by rw [hw0, hN]; exact alloc_new _ _
  have hs0 : w0.heap.size = N + 1 := by rw [hw0, World.size_alloc, hN]
  have hNb : wb.heap[N]? = some (.cells #[.int .i64 0, .int .i64 0, .string ⟨#[]⟩, .slice none 0 0, .int .i64 0] 36 (0, 0)) := by rw [hwb, (Tch.alloc (fun _ => False) w0 _).block N (blk_lt hN0) (fun h => h)]; exact hN0
  have hMb : wb.heap[N + 1]? = some (.cells #[.int .i64 p.1.id, .int .i64 p.1.ver, .string p.1.nm, .slice co p.1.cols.length cc, .int .i64 p.1.key] 36 (0, 0)) := by rw [hwb, ← hs0]; exact alloc_new _ _
  have hsb : wb.heap.size = N + 2 := by rw [hwb, World.size_alloc, hs0]
  have hbw : wb.cell? ⟨b, 0, none⟩ = some (.slice (some ⟨T, 0, none⟩) P.length tc) := by rw [tb.cell (p := ⟨b, 0, none⟩) (cell_lt hb) (fun h => h)]; exact hb
  have hbN : b < N := by rw [hN]; exact blk_lt h.blk
  have hAt : At w T 0 (tcl P) := by
    obtain ⟨g, o, e, ha⟩ := hT.sl (tcl_nil (by rintro rfl; simp at hk))
    obtain ⟨rfl, rfl⟩ : T = g ∧ 0 = o := by simpa using e
    exact ha
  have HA : Hid (∀ W, Tch (fun _ => False) w W → (∀ j u, (tcl (P.take k))[j]? = some u → W.cell? ((⟨T, 0, none⟩ : Addr).add j) = some u) ∧ (∀ j u, (tcl (P.drop (k + 1)))[j]? = some u → W.cell? ((⟨T, (k + 1) * 5, none⟩ : Addr).add j) = some u)) := fun W tW => by
    have ha := hAt.tch tW (fun _ h => h)
    refine ⟨fun j u hu => ?_, fun j u hu => ?_⟩
    · rw [← tcl_take, List.getElem?_take] at hu
      split at hu
      · rw [add_plain]; exact ha j u hu
      · cases hu
    · rw [← tcl_drop, List.getElem?_drop] at hu
      rw [add_plain]
      have := ha _ u hu
      rw [Nat.zero_add] at this
      exact this
  have Hone : Hid ((∀ u ∈ tcl (P.take k), u.oneCell' = true) ∧ ∀ u ∈ tcl (P.drop (k + 1)), u.oneCell' = true) := by
    have hs : ∀ q ∈ P, ∃ o n c, q.2 = Value.slice o n c := fun q hq => by
      obtain ⟨i, hi, e⟩ := List.getElem_of_mem hq
      obtain ⟨o, c, e2⟩ := row_slice (h.to.col i hi)
      exact ⟨o, _, c, by rw [← e]; exact e2⟩
    exact ⟨tcl_one _ (fun q hq => hs q (List.mem_of_mem_take hq)), tcl_one _ (fun q hq => hs q (List.mem_of_mem_drop hq))⟩
  have Hw0 : Hid _ := hw0
  have Hwb : Hid _ := hwb
  have HN : Hid (N = w.heap.size) := hN
  have Hs0 : Hid (w0.heap.size = N + 1) := hs0
  have Hsb : Hid (wb.heap.size = N + 2) := hsb
  have Ht0 : Hid (Tch (fun _ => False) w w0) := t0
  have Htb : Hid (Tch (fun _ => False) w wb) := tb
  have HNb : Hid _ := hNb
  have HMb : Hid _ := hMb
  have Hn : Hid (n = P.length) := hn
  have Hp : Hid (p = P[k]) := hp
  have Hck : Hid (P[k].2 = .slice co p.1.cols.length cc) := by show _ = _; rw [← hp]; exact hck.eq
  have H : Hid (RO w 0 b L nx P (.slice (some ⟨T, 0, none⟩) P.length tc)) := h
  have Htl : Hid ((tcl (P.take k)).length = k * 5) := by show _ = _; rw [tcl_len, List.length_take]; congr 1; omega
  have Hdl : Hid ((tcl (P.drop (k + 1))).length = (n - (k + 1)) * 5) := by show _ = _; rw [tcl_len, List.length_drop, hn]
  rw [← hn] at hb0 hk hTc hl hbw
  rw [hwb] at hbw
  have hkI : (k : Int) < n := by omega
  have hnI : (n : Int) ≤ 16 := by omega
  have htI : (n : Int) ≤ tc := by omega
  have hkt : (k : Int) ≤ tc := by omega
  clear hw0 hN hT hb hck t0 hp hn h hpos ego hwb tb hN0 hs0 hNb hMb hsb hAt
  have hrs : Try.f22.results = #[.cell 4 36, .tmp 5] := by kernel_rfl
  go_enter Try.func22, Try.ntmps22
  go_wp2_with fail
  have hw0 := Hw0.out
  rw [← hw0]
  clear hw0
  refine q0.mono ?_
  rintro y w0' ⟨rfl, hw0'⟩
  subst hw0'
  clear q0
  have HTb2 : Hid (∀ w1 w2, Tch (fun _ => False) wb w1 → Tch (fun i => N + 2 ≤ i) w1 w2 → Tch (fun i => N + 2 ≤ i) wb w2) := fun w1 w2 t1 t2 => (t1.mono (fun _ _ h => h.elim)).trans' t2
  have HS : Hid (∀ W, Tch (fun i => N + 2 ≤ i) wb W → W.heap[N]? = some (.cells #[.int .i64 0, .int .i64 0, .string ⟨#[]⟩, .slice none 0 0, .int .i64 0] 36 (0, 0)) ∧ (W.cell? ⟨N + 1, 0, none⟩ = some (.int .i64 p.1.id) ∧ W.cell? ⟨N + 1, 1, none⟩ = some (.int .i64 p.1.ver) ∧ W.cell? ⟨N + 1, 2, none⟩ = some (.string p.1.nm) ∧ W.cell? ⟨N + 1, 3, none⟩ = some (.slice co p.1.cols.length cc) ∧ W.cell? ⟨N + 1, 4, none⟩ = some (.int .i64 p.1.key)) ∧ (W.cell? ⟨N, 0, none⟩ = some (.int .i64 0) ∧ W.cell? ⟨N, 1, none⟩ = some (.int .i64 0) ∧ W.cell? ⟨N, 2, none⟩ = some (.string ⟨#[]⟩) ∧ W.cell? ⟨N, 3, none⟩ = some (.slice none 0 0) ∧ W.cell? ⟨N, 4, none⟩ = some (.int .i64 0)) ∧ (W.frozen? ⟨N, 0, none⟩ = false ∧ W.frozen? ⟨N, 1, none⟩ = false ∧ W.frozen? ⟨N, 2, none⟩ = false ∧ W.frozen? ⟨N, 3, none⟩ = false ∧ W.frozen? ⟨N, 4, none⟩ = false) ∧ W.cell? ⟨b, 0, none⟩ = some (.slice (some ⟨T, 0, none⟩) n tc) ∧ W.frozen? ⟨b, 0, none⟩ = false) := fun W tW => by
    have h1 : W.heap[N + 1]? = some (.cells #[.int .i64 p.1.id, .int .i64 p.1.ver, .string p.1.nm, .slice co p.1.cols.length cc, .int .i64 p.1.key] 36 (0, 0)) := by rw [tW.block (N + 1) (blk_lt HMb.out) (by omega)]; exact HMb.out
    have h0 : W.heap[N]? = some (.cells #[.int .i64 0, .int .i64 0, .string ⟨#[]⟩, .slice none 0 0, .int .i64 0] 36 (0, 0)) := by rw [tW.block N (blk_lt HNb.out) (by omega)]; exact HNb.out
    have hB : W.heap[b]? = some (.cells #[.slice (some ⟨T, 0, none⟩) P.length tc, .int .i64 nx] 57 (0, 0)) := by
      rw [tW.block b (Nat.lt_of_lt_of_le (blk_lt H.out.blk) Htb.out.size) (by omega), Htb.out.block b (blk_lt H.out.blk) (fun h => h)]; exact H.out.blk
    exact ⟨h0, ⟨by rw [blk_cell h1]; rfl, by rw [blk_cell h1]; rfl, by rw [blk_cell h1]; rfl, by rw [blk_cell h1]; rfl, by rw [blk_cell h1]; rfl⟩, ⟨by rw [blk_cell h0]; rfl, by rw [blk_cell h0]; rfl, by rw [blk_cell h0]; rfl, by rw [blk_cell h0]; rfl, by rw [blk_cell h0]; rfl⟩, ⟨blk_frozen h0 0, blk_frozen h0 1, blk_frozen h0 2, blk_frozen h0 3, blk_frozen h0 4⟩, by rw [blk_cell hB, Hn.out]; rfl, blk_frozen hB 0⟩
  have hN1 : w0'.heap.size = N + 1 := Hs0.out
  have hNw : w.heap.size = N := HN.out.symm
  by_cases htk : tc = k + 1
  · subst htk
    have hnk : n = k + 1 := by omega
    have Hnk : Hid (n = k + 1) := hnk
    have Hd0 : Hid ((tcl (P.drop (k + 1))).length = 0 * 5 ∧ ∀ j u, (tcl (P.drop (k + 1)))[j]? = some u → w.cell? ((⟨T, 0, none⟩ : Addr).add j) = some u ∧ ∀ W : World, W.cell? ((⟨T, 0, none⟩ : Addr).add j) = some u) := by
      have h1 := Hdl.out
      rw [hnk, Nat.sub_self] at h1
      refine ⟨h1, fun j u hu => ?_⟩
      have := (List.getElem?_eq_some_iff.1 hu).1
      omega
    clear hnk
    go_wp2_with (first | (at_builtin; have hwb := Hwb.out; rw [← hwb]; clear hwb; refine wpList_append_keeps _ rfl _ _ 37 rfl w.heap.size 36 i0 (.agg #[.int .i64 0, .int .i64 0, .string ⟨#[]⟩, .slice none 0 0, .int .i64 0]) 5 64 Try.underlying37 hi0 hz0 hz1 hz2 rfl (by decide) (.slice none 0 0) 0 [] rfl (World.ownsRow_nil _ _ _ _) ⟨T, 0, none⟩ k (k + 1) (tcl (P.take k)) rfl Htl.out (HA.out _ Htb.out).1 Hone.out.1 (by unfold maxLen; omega) (by omega) Htb.out.size ?_; intro v1 w1 hown1 hgr1 hat1 _; have HO1 : Hid (w1.ownsRow w.heap.size 36 5 v1 k (tcl (P.take k))) := (by have h1 := hown1; rw [Nat.zero_add, List.nil_append] at h1; exact h1); have HT1 : Hid (Tch (fun _ => False) wb w1) := ((grown_at (Tch.refl (fun _ => False) wb) hgr1).mono (fun i _ e => by cases e)); have Hat1 : Hid (∀ g, v1.ownBlock = some g → N + 2 ≤ g) := (fun g e => by rcases hat1 with e2 | e2; { rw [e2] at e; cases e }; { rw [e2] at e; injection e with e; have := Hsb.out; omega }); obtain ⟨o1, oc1, hv1⟩ := row_slice HO1.out; subst hv1; have HTw1 : Hid (Tch (fun _ => False) w w1) := Htb.out.trans' HT1.out; have hb1 : w1.cell? ⟨b, 0, none⟩ = some (.slice (some ⟨T, 0, none⟩) n (k + 1)) := (by rw [HTw1.out.cell (p := ⟨b, 0, none⟩) (blk_lt H.out.blk) (fun h => h), blk_cell H.out.blk, Hn.out]; rfl); clear hown1 hgr1 hat1 hbw) | (at_builtin; refine wpList_append_keeps _ rfl _ _ 37 rfl w.heap.size 36 i0 (.agg #[.int .i64 0, .int .i64 0, .string ⟨#[]⟩, .slice none 0 0, .int .i64 0]) 5 64 Try.underlying37 hi0 hz0 hz1 hz2 rfl (by decide) (.slice o1 k oc1) k (tcl (P.take k)) rfl HO1.out ⟨T, 0, none⟩ 0 0 (tcl (P.drop (k + 1))) rfl Hd0.out.1 (fun j u hu => ((Hd0.out.2 j u hu).2 _)) Hone.out.2 (by unfold maxLen; omega) (by omega) HTw1.out.size ?_; intro v2 w2 hown2 hgr2 hat2 _; have HO2 : Hid (w2.ownsRow w.heap.size 36 5 v2 (k) (tcl (P.eraseIdx k))) := (by show World.ownsRow _ _ _ _ _ _ _; rw [tcl_erase, tcl_take, tcl_drop]; exact hown2); have HT2 : Hid (Tch (fun i => N + 2 ≤ i) w1 w2) := ((grown_at (Tch.refl (fun _ => False) w1) hgr2).mono (fun i _ e => Hat1.out i e)); have HO2n : Hid (∀ g, v2.ownBlock = some g → g ≠ N) := (fun g e => by rcases hat2 with e2 | e2; { rw [e2] at e; have := Hat1.out g e; omega }; { rw [e2] at e; injection e with e; have h1 := HT1.out.size; have h2 := Hsb.out; omega }); obtain ⟨o2, oc2, hv2⟩ := row_slice HO2.out; subst hv2; obtain ⟨_, ⟨x0, x1, x2, x3, x4⟩, ⟨y0, y1, y2, y3, y4⟩, ⟨g0, g1, g2, g3, g4⟩, bb, bf⟩ := HS.out w2 (HTb2.out w1 w2 HT1.out HT2.out); clear hown2 hgr2 hat2 hb1))
    have HFin : Hid (∀ W', W' = (((((w2.setCell ⟨b, 0, none⟩ (.slice o2 k oc2)).setCell ⟨N, 0, none⟩ (.int .i64 p.1.id)).setCell ⟨N, 1, none⟩ (.int .i64 p.1.ver)).setCell ⟨N, 2, none⟩ (.string p.1.nm)).setCell ⟨N, 3, none⟩ (.slice co p.1.cols.length cc)).setCell ⟨N, 4, none⟩ (.int .i64 p.1.key) → (∀ tmps : Array Value, tmps[4]?.getD undef = .pointer (some ⟨N, 0, none⟩) → tmps[5]?.getD undef = .int .i64 0 → (results Try.f22 tmps).run Try.prog W' = .ok (.tuple #[tA p.1.id p.1.ver p.1.nm (.slice co p.1.cols.length cc) p.1.key, .int .i64 0]) W') ∧ RChg b 0 p.1 (L.eraseIdx k) nx P (.slice (some ⟨T, 0, none⟩) P.length (k + 1)) w (.returned (.tuple #[tA p.1.id p.1.ver p.1.nm (.slice co p.1.cols.length cc) p.1.key, .int .i64 0])) W') := fun W' hW' => by
      have hw2 := HS.out w2 (HTb2.out w1 w2 HT1.out HT2.out)
      have hbN' : N ≠ b := by omega
      have tB : Tch (fun i => i = b) w2 (w2.setCell ⟨b, 0, none⟩ (.slice o2 k oc2)) := Tch.setCell (fun i => i = b) w2 ⟨b, 0, none⟩ _ rfl
      have tE : Tch (fun i => i = N) (w2.setCell ⟨b, 0, none⟩ (.slice o2 k oc2)) W' := by rw [hW']; exact ((((Tch.setCell (fun i => i = N) _ ⟨N, 0, none⟩ _ rfl).setCellR ⟨N, 1, none⟩ _ rfl).setCellR ⟨N, 2, none⟩ _ rfl).setCellR ⟨N, 3, none⟩ _ rfl).setCellR ⟨N, 4, none⟩ _ rfl
      have hN2 : (w2.setCell ⟨b, 0, none⟩ (.slice o2 k oc2)).heap[N]? = some (.cells #[.int .i64 0, .int .i64 0, .string ⟨#[]⟩, .slice none 0 0, .int .i64 0] 36 (0, 0)) := by rw [tB.block N (blk_lt hw2.1) hbN']; exact hw2.1
      have hb : W'.heap[N]? = some (.cells #[.int .i64 p.1.id, .int .i64 p.1.ver, .string p.1.nm, .slice co p.1.cols.length cc, .int .i64 p.1.key] 36 (0, 0)) := by
        rw [hW', blk_set (blk_set (blk_set (blk_set (blk_set hN2 _) _) _) _) _]; rfl
      have tw2 : Tch (fun _ => False) w w2 := (Htb.out.trans' HT1.out).trans HT2.out (fun i hi h => by omega)
      have twB : Tch (fun i => i = b) w (w2.setCell ⟨b, 0, none⟩ (.slice o2 k oc2)) := (tw2.mono (fun _ _ h => h.elim)).trans' tB
      have twE : Tch (fun i => i = b) w W' := twB.trans tE (fun i hi h => by omega)
      have hbB : (w2.setCell ⟨b, 0, none⟩ (.slice o2 k oc2)).heap[b]? = some (.cells #[.slice o2 k oc2, .int .i64 nx] 57 (0, 0)) := by
        have h1 : w2.heap[b]? = some (.cells #[.slice (some ⟨T, 0, none⟩) P.length (k + 1), .int .i64 nx] 57 (0, 0)) := by rw [tw2.block b (blk_lt H.out.blk) (fun h => h)]; exact H.out.blk
        rw [blk_set h1]; rfl
      have hbE : W'.heap[b]? = some (.cells #[.slice o2 k oc2, .int .i64 nx] 57 (0, 0)) := by rw [tE.block b (blk_lt hbB) (by omega)]; exact hbB
      have hkP : k < P.length := by have := Hn.out; omega
      have hO : W'.ownsRow w.heap.size 36 5 (.slice o2 k oc2) (P.length - 1) (tcl (P.eraseIdx k)) := by
        have h1 := own_tch (own_tch HO2.out tB (fun g e h => by have := (HO2.out.lt g e).1; omega)) tE (fun g e h => HO2n.out g e h)
        have e : P.length - 1 = k := by have := Hn.out; omega
        rw [e]; exact h1
      have hTO : TO W' 0 (.slice o2 k oc2) (P.eraseIdx k) := H.out.to.less twE (fun i hi g e e2 => H.out.nb.2 i hi (e2 ▸ e)) hkP (Nat.le_refl _) hO
      have hck : P[k].2.ownBlock = (Value.slice co p.1.cols.length cc).ownBlock := by rw [Hck.out]
      have hcol : w.ownsRow 0 43 3 (.slice co p.1.cols.length cc) p.1.cols.length (ccl p.1.cols) := by
        have h1 := H.out.to.col k hkP
        rw [Hck.out, ← Hp.out] at h1
        exact h1
      have hmem : ∀ i (hi : i < (P.eraseIdx k).length), ∃ j, ∃ (hj : j < P.length), (P.eraseIdx k)[i] = P[j] ∧ j ≠ k := fun i hi => by
        rw [List.length_eraseIdx_of_lt hkP] at hi
        refine ⟨if i < k then i else i + 1, by split <;> omega, ?_, by split <;> omega⟩
        rw [List.getElem_eraseIdx]
        split <;> rfl
      refine ⟨fun tmps h4 h5 => res_pair hrs h4 h5 (by rw [blk_cell hb]; rfl) (by rw [blk_cell hb]; rfl) (by rw [blk_cell hb]; rfl) (by rw [blk_cell hb]; rfl) (by rw [blk_cell hb]; rfl), fun _ => ⟨_, P.eraseIdx k, .slice o2 k oc2, rfl, own_tch hcol twE (fun g e e2 => H.out.nb.2 k hkP (by rw [hck, e, e2])), ⟨hbE, Nat.zero_le _, by rw [erase_fst, H.out.eq], hTO, fun e => ?_, fun i hi e => ?_⟩, fun g hg => ?_, fun g e => ⟨Or.inl (Or.inr ⟨k, hkP, by rw [hck, e]⟩), fun e2 => H.out.nb.2 k hkP (by rw [hck, e, e2]), fun hg => ?_⟩, twE.mono (fun i _ h => Or.inl h)⟩, fun e => absurd rfl e⟩
      · have := (hO.lt b e).1; omega
      · obtain ⟨j, hj, e2, _⟩ := hmem i hi
        rw [e2] at e; exact H.out.nb.2 j hj e
      · rcases hg with e | ⟨i, hi, e⟩
        · exact Or.inr (hO.lt g e).1
        · obtain ⟨j, hj, e2, _⟩ := hmem i hi
          rw [e2] at e; exact Or.inl (Or.inr ⟨j, hj, e⟩)
      · rcases hg with e2 | ⟨i, hi, e2⟩
        · have := (hO.lt g e2).1; have := (hcol.lt g e).2; omega
        · obtain ⟨j, hj, e3, hne⟩ := hmem i hi
          rw [e3] at e2
          exact H.out.to.dis j k hj hkP g hne e2 (by rw [hck]; exact e)
    refine bodyPost_ret ((HFin.out _ rfl).1 _ ?_ ?_) rfl (HFin.out _ rfl).2 <;> rfl
  · go_wp2_with (first | (at_builtin; have hwb := Hwb.out; rw [← hwb]; clear hwb; refine wpList_append_keeps _ rfl _ _ 37 rfl w.heap.size 36 i0 (.agg #[.int .i64 0, .int .i64 0, .string ⟨#[]⟩, .slice none 0 0, .int .i64 0]) 5 64 Try.underlying37 hi0 hz0 hz1 hz2 rfl (by decide) (.slice none 0 0) 0 [] rfl (World.ownsRow_nil _ _ _ _) ⟨T, 0, none⟩ k tc (tcl (P.take k)) rfl Htl.out (HA.out _ Htb.out).1 Hone.out.1 (by unfold maxLen; omega) (by omega) Htb.out.size ?_; intro v1 w1 hown1 hgr1 hat1 _; have HO1 : Hid (w1.ownsRow w.heap.size 36 5 v1 k (tcl (P.take k))) := (by have h1 := hown1; rw [Nat.zero_add, List.nil_append] at h1; exact h1); have HT1 : Hid (Tch (fun _ => False) wb w1) := ((grown_at (Tch.refl (fun _ => False) wb) hgr1).mono (fun i _ e => by cases e)); have Hat1 : Hid (∀ g, v1.ownBlock = some g → N + 2 ≤ g) := (fun g e => by rcases hat1 with e2 | e2; { rw [e2] at e; cases e }; { rw [e2] at e; injection e with e; have := Hsb.out; omega }); obtain ⟨o1, oc1, hv1⟩ := row_slice HO1.out; subst hv1; have HTw1 : Hid (Tch (fun _ => False) w w1) := Htb.out.trans' HT1.out; have hb1 : w1.cell? ⟨b, 0, none⟩ = some (.slice (some ⟨T, 0, none⟩) n tc) := (by rw [HTw1.out.cell (p := ⟨b, 0, none⟩) (blk_lt H.out.blk) (fun h => h), blk_cell H.out.blk, Hn.out]; rfl); clear hown1 hgr1 hat1 hbw) | (at_builtin; refine wpList_append_keeps _ rfl _ _ 37 rfl w.heap.size 36 i0 (.agg #[.int .i64 0, .int .i64 0, .string ⟨#[]⟩, .slice none 0 0, .int .i64 0]) 5 64 Try.underlying37 hi0 hz0 hz1 hz2 rfl (by decide) (.slice o1 k oc1) k (tcl (P.take k)) rfl HO1.out ⟨T, (k + 1) * 5, none⟩ (n - (k + 1)) (tc - (k + 1)) (tcl (P.drop (k + 1))) rfl Hdl.out (HA.out _ HTw1.out).2 Hone.out.2 (by unfold maxLen; omega) (by omega) HTw1.out.size ?_; intro v2 w2 hown2 hgr2 hat2 _; have HO2 : Hid (w2.ownsRow w.heap.size 36 5 v2 (k + (n - (k + 1))) (tcl (P.eraseIdx k))) := (by show World.ownsRow _ _ _ _ _ _ _; rw [tcl_erase, tcl_take, tcl_drop]; exact hown2); have HT2 : Hid (Tch (fun i => N + 2 ≤ i) w1 w2) := ((grown_at (Tch.refl (fun _ => False) w1) hgr2).mono (fun i _ e => Hat1.out i e)); have HO2n : Hid (∀ g, v2.ownBlock = some g → g ≠ N) := (fun g e => by rcases hat2 with e2 | e2; { rw [e2] at e; have := Hat1.out g e; omega }; { rw [e2] at e; injection e with e; have h1 := HT1.out.size; have h2 := Hsb.out; omega }); obtain ⟨o2, oc2, hv2⟩ := row_slice HO2.out; subst hv2; obtain ⟨_, ⟨x0, x1, x2, x3, x4⟩, ⟨y0, y1, y2, y3, y4⟩, ⟨g0, g1, g2, g3, g4⟩, bb, bf⟩ := HS.out w2 (HTb2.out w1 w2 HT1.out HT2.out); clear hown2 hgr2 hat2 hb1))
    have HFin : Hid (∀ W', W' = (((((w2.setCell ⟨b, 0, none⟩ (.slice o2 (k + (n - (k + 1))) oc2)).setCell ⟨N, 0, none⟩ (.int .i64 p.1.id)).setCell ⟨N, 1, none⟩ (.int .i64 p.1.ver)).setCell ⟨N, 2, none⟩ (.string p.1.nm)).setCell ⟨N, 3, none⟩ (.slice co p.1.cols.length cc)).setCell ⟨N, 4, none⟩ (.int .i64 p.1.key) → (∀ tmps : Array Value, tmps[4]?.getD undef = .pointer (some ⟨N, 0, none⟩) → tmps[5]?.getD undef = .int .i64 0 → (results Try.f22 tmps).run Try.prog W' = .ok (.tuple #[tA p.1.id p.1.ver p.1.nm (.slice co p.1.cols.length cc) p.1.key, .int .i64 0]) W') ∧ RChg b 0 p.1 (L.eraseIdx k) nx P (.slice (some ⟨T, 0, none⟩) P.length tc) w (.returned (.tuple #[tA p.1.id p.1.ver p.1.nm (.slice co p.1.cols.length cc) p.1.key, .int .i64 0])) W') := fun W' hW' => by
      have hw2 := HS.out w2 (HTb2.out w1 w2 HT1.out HT2.out)
      have hbN' : N ≠ b := by omega
      have tB : Tch (fun i => i = b) w2 (w2.setCell ⟨b, 0, none⟩ (.slice o2 (k + (n - (k + 1))) oc2)) := Tch.setCell (fun i => i = b) w2 ⟨b, 0, none⟩ _ rfl
      have tE : Tch (fun i => i = N) (w2.setCell ⟨b, 0, none⟩ (.slice o2 (k + (n - (k + 1))) oc2)) W' := by rw [hW']; exact ((((Tch.setCell (fun i => i = N) _ ⟨N, 0, none⟩ _ rfl).setCellR ⟨N, 1, none⟩ _ rfl).setCellR ⟨N, 2, none⟩ _ rfl).setCellR ⟨N, 3, none⟩ _ rfl).setCellR ⟨N, 4, none⟩ _ rfl
      have hN2 : (w2.setCell ⟨b, 0, none⟩ (.slice o2 (k + (n - (k + 1))) oc2)).heap[N]? = some (.cells #[.int .i64 0, .int .i64 0, .string ⟨#[]⟩, .slice none 0 0, .int .i64 0] 36 (0, 0)) := by rw [tB.block N (blk_lt hw2.1) hbN']; exact hw2.1
      have hb : W'.heap[N]? = some (.cells #[.int .i64 p.1.id, .int .i64 p.1.ver, .string p.1.nm, .slice co p.1.cols.length cc, .int .i64 p.1.key] 36 (0, 0)) := by
        rw [hW', blk_set (blk_set (blk_set (blk_set (blk_set hN2 _) _) _) _) _]; rfl
      have tw2 : Tch (fun _ => False) w w2 := (Htb.out.trans' HT1.out).trans HT2.out (fun i hi h => by omega)
      have twB : Tch (fun i => i = b) w (w2.setCell ⟨b, 0, none⟩ (.slice o2 (k + (n - (k + 1))) oc2)) := (tw2.mono (fun _ _ h => h.elim)).trans' tB
      have twE : Tch (fun i => i = b) w W' := twB.trans tE (fun i hi h => by omega)
      have hbB : (w2.setCell ⟨b, 0, none⟩ (.slice o2 (k + (n - (k + 1))) oc2)).heap[b]? = some (.cells #[.slice o2 (k + (n - (k + 1))) oc2, .int .i64 nx] 57 (0, 0)) := by
        have h1 : w2.heap[b]? = some (.cells #[.slice (some ⟨T, 0, none⟩) P.length tc, .int .i64 nx] 57 (0, 0)) := by rw [tw2.block b (blk_lt H.out.blk) (fun h => h)]; exact H.out.blk
        rw [blk_set h1]; rfl
      have hbE : W'.heap[b]? = some (.cells #[.slice o2 (k + (n - (k + 1))) oc2, .int .i64 nx] 57 (0, 0)) := by rw [tE.block b (blk_lt hbB) (by omega)]; exact hbB
      have hkP : k < P.length := by have := Hn.out; omega
      have hO : W'.ownsRow w.heap.size 36 5 (.slice o2 (k + (n - (k + 1))) oc2) (P.length - 1) (tcl (P.eraseIdx k)) := by
        have h1 := own_tch (own_tch HO2.out tB (fun g e h => by have := (HO2.out.lt g e).1; omega)) tE (fun g e h => HO2n.out g e h)
        have e : P.length - 1 = k + (n - (k + 1)) := by have := Hn.out; omega
        rw [e]; exact h1
      have hTO : TO W' 0 (.slice o2 (k + (n - (k + 1))) oc2) (P.eraseIdx k) := H.out.to.less twE (fun i hi g e e2 => H.out.nb.2 i hi (e2 ▸ e)) hkP (Nat.le_refl _) hO
      have hck : P[k].2.ownBlock = (Value.slice co p.1.cols.length cc).ownBlock := by rw [Hck.out]
      have hcol : w.ownsRow 0 43 3 (.slice co p.1.cols.length cc) p.1.cols.length (ccl p.1.cols) := by
        have h1 := H.out.to.col k hkP
        rw [Hck.out, ← Hp.out] at h1
        exact h1
      have hmem : ∀ i (hi : i < (P.eraseIdx k).length), ∃ j, ∃ (hj : j < P.length), (P.eraseIdx k)[i] = P[j] ∧ j ≠ k := fun i hi => by
        rw [List.length_eraseIdx_of_lt hkP] at hi
        refine ⟨if i < k then i else i + 1, by split <;> omega, ?_, by split <;> omega⟩
        rw [List.getElem_eraseIdx]
        split <;> rfl
      refine ⟨fun tmps h4 h5 => res_pair hrs h4 h5 (by rw [blk_cell hb]; rfl) (by rw [blk_cell hb]; rfl) (by rw [blk_cell hb]; rfl) (by rw [blk_cell hb]; rfl) (by rw [blk_cell hb]; rfl), fun _ => ⟨_, P.eraseIdx k, .slice o2 (k + (n - (k + 1))) oc2, rfl, own_tch hcol twE (fun g e e2 => H.out.nb.2 k hkP (by rw [hck, e, e2])), ⟨hbE, Nat.zero_le _, by rw [erase_fst, H.out.eq], hTO, fun e => ?_, fun i hi e => ?_⟩, fun g hg => ?_, fun g e => ⟨Or.inl (Or.inr ⟨k, hkP, by rw [hck, e]⟩), fun e2 => H.out.nb.2 k hkP (by rw [hck, e, e2]), fun hg => ?_⟩, twE.mono (fun i _ h => Or.inl h)⟩, fun e => absurd rfl e⟩
      · have := (hO.lt b e).1; omega
      · obtain ⟨j, hj, e2, _⟩ := hmem i hi
        rw [e2] at e; exact H.out.nb.2 j hj e
      · rcases hg with e | ⟨i, hi, e⟩
        · exact Or.inr (hO.lt g e).1
        · obtain ⟨j, hj, e2, _⟩ := hmem i hi
          rw [e2] at e; exact Or.inl (Or.inr ⟨j, hj, e⟩)
      · rcases hg with e2 | ⟨i, hi, e2⟩
        · have := (hO.lt g e2).1; have := (hcol.lt g e).2; omega
        · obtain ⟨j, hj, e3, hne⟩ := hmem i hi
          rw [e3] at e2
          exact H.out.to.dis j k hj hkP g hne e2 (by rw [hck]; exact e)
    refine bodyPost_ret ((HFin.out _ rfl).1 _ ?_ ?_) rfl (HFin.out _ rfl).2 <;> rfl
end Go.Proofs.Ytolamjipigfocaa
/- The document's catalog: Create that is refused. -/
namespace Go.Proofs.Ytolamjipigfocaa
open Go.RowKit Go

theorem creE_eq (L : List Tbl) (gv : Int) (nm : ByteArray) (cols : List Col) (key : Int) (h0 : 0 ≤ gv) (h1 : gv ≤ 2147483647) : creE L gv nm cols key = if nmOk nm = false then 50 else if L.any (fun t => decide (t.nm = nm)) then 51 else if L.length = 16 ∨ gv = 2147483647 then 53 else if colsE cols ≠ 0 then colsE cols else keyE cols key := by
  unfold creE
  by_cases h : nmOk nm = false
  · rw [if_pos h, if_pos h]
  · rw [if_neg h, if_neg h]
    by_cases h2 : L.any (fun t => decide (t.nm = nm)) = true
    · rw [if_pos h2, if_pos h2]
    · rw [if_neg h2, if_neg h2]
      by_cases h3 : L.length = 16 ∨ gv = 2147483647
      · rw [if_pos h3, if_pos h3]
      · rw [if_neg h3, if_neg h3]
        unfold rightE creT keyE
        rw [if_neg (by simp [numOk]; omega), if_neg h]

set_option maxHeartbeats 4000000 in
set_option maxRecDepth 100000 in
theorem rcreate_no (b : Nat) (L : List Tbl) (gv : Int) (P : List (Tbl × Value)) (tv : Value) (nm : ByteArray) (cols : List Col) (ao : Option Addr) (c : Nat) (key : Int) (t0 : Tbl) (L' : List Tbl) (n' : Int) (w : World) (h : RO w 0 b L (gv + 1) P tv) (hl : P.length ≤ 16)
    (ht : SL w ao (ccl cols)) (h0 : 0 ≤ gv) (h1 : gv ≤ 2147483647) (hE : creE L gv nm cols key ≠ 0) :
    Calls Try.prog 19 #[.pointer (some ⟨b, 0, none⟩), .string nm, .slice ao cols.length c, .int .i64 key] w fun x w' => RChg b (creE L gv nm cols key) t0 L' n' P tv w x w' := by
  obtain ⟨to, tc, htv⟩ := row_slice h.to.own
  subst htv
  have hT := h.tl
  have hb : w.cell? ⟨b, 0, none⟩ = some (.slice to P.length tc) := by rw [blk_cell h.blk]; rfl
  have hb1 : w.cell? ⟨b, 1, none⟩ = some (.int .i64 (gv + 1)) := by rw [blk_cell h.blk]; rfl
  obtain ⟨N, hN⟩ : ∃ N, N = w.heap.size := ⟨_, rfl⟩
  obtain ⟨w0, hw0⟩ : ∃ w0, w0 = w.alloc (.cells #[.int .i64 0, .int .i64 0, .string ⟨#[]⟩, .slice none 0 0, .int .i64 0] 36) := ⟨_, rfl⟩
  have tw : Tch (fun _ => False) w w0 := by rw [hw0]; exact Tch.alloc _ _ _
  have hY : w0.heap[N]? = some (.cells #[.int .i64 0, .int .i64 0, .string ⟨#[]⟩, .slice none 0 0, .int .i64 0] 36 (0, 0)) := by rw [hw0, hN]; exact alloc_new _ _
  have c0 : w0.cell? ⟨b, 0, none⟩ = some (.slice to P.length tc) := by rw [tw.cell (p := ⟨b, 0, none⟩) (cell_lt hb) (fun h => h)]; exact hb
  have c1 : w0.cell? ⟨b, 1, none⟩ = some (.int .i64 (gv + 1)) := by rw [tw.cell (p := ⟨b, 1, none⟩) (cell_lt hb1) (fun h => h)]; exact hb1
  have q1 := named_any nm w0
  have q2 := rplace_any b to tc P _ nm w0 c0 (hT.tch tw (fun _ _ h => h.elim)) (by omega)
  have q3 := rcolumns_any cols ao c w0 (ht.no tw)
  have q4 := fun W (tW : Tch (fun _ => False) w0 W) => rkey_any cols ao c key W ((ht.no tw).no tW)
  obtain ⟨n1, e1⟩ : ∃ n1, n1 = nmOk nm := ⟨_, rfl⟩
  obtain ⟨n2, e2⟩ : ∃ n2, n2 = posP (fun t => decide (t.nm = nm)) P := ⟨_, rfl⟩
  obtain ⟨n3, e3⟩ : ∃ n3, n3 = colsE cols := ⟨_, rfl⟩
  obtain ⟨n4, e4⟩ : ∃ n4 : Int, n4 = keyE cols key := ⟨_, rfl⟩
  obtain ⟨n, hn⟩ : ∃ n, n = P.length := ⟨_, rfl⟩
  have hpa := posP_any (fun t => decide (t.nm = nm)) P
  rw [h.eq, ← e2] at hpa
  have hLn : L.length = n := by rw [hn, ← h.eq, List.length_map]
  obtain ⟨E, hEE⟩ : ∃ E, E = creE L gv nm cols key := ⟨_, rfl⟩
  have hR : E = if n1 = false then 50 else if 0 ≤ n2 then 51 else if n = 16 ∨ gv = 2147483647 then 53 else if n3 ≠ 0 then n3 else n4 := by
    rw [hEE, creE_eq L gv nm cols key h0 h1, ← hpa, hLn, e1, e3, e4]
    simp only [decide_eq_true_eq]
  rw [← e1] at q1
  rw [← e2] at q2
  rw [← e3] at q3
  rw [← hEE] at hE
  rw [← hEE]
  have Q4 : Hid (∀ W, Tch (fun _ => False) w0 W → Calls Try.prog 43 #[.slice ao cols.length c, .int .i64 key] W fun x w' => x = .returned (.int .i64 n4) ∧ w' = W) := by rw [e4]; exact q4
  have HR : Hid _ := hR
  have HE : Hid (E ≠ 0) := hE
  have Hw0 : Hid _ := hw0
  have HN : Hid (N = w.heap.size) := hN
  have HY : Hid _ := hY
  have Htw : Hid (Tch (fun _ => False) w w0) := tw
  rw [← hn] at c0 hl
  have hnI : (n : Int) ≤ 16 := by omega
  have hrs : Try.f19.results = #[.cell 8 36, .tmp 9] := by kernel_rfl
  have HZ : Hid (∀ W, Tch (fun _ => False) w0 W → ((W.cell? ⟨N, 0, none⟩ = some (.int .i64 0) ∧ W.cell? ⟨N, 1, none⟩ = some (.int .i64 0) ∧ W.cell? ⟨N, 2, none⟩ = some (.string ⟨#[]⟩) ∧ W.cell? ⟨N, 3, none⟩ = some (.slice none 0 0) ∧ W.cell? ⟨N, 4, none⟩ = some (.int .i64 0)) ∧ (W.frozen? ⟨N, 0, none⟩ = false ∧ W.frozen? ⟨N, 1, none⟩ = false ∧ W.frozen? ⟨N, 2, none⟩ = false ∧ W.frozen? ⟨N, 3, none⟩ = false ∧ W.frozen? ⟨N, 4, none⟩ = false)) ∧ ∀ W', W' = ((((W.setCell ⟨N, 0, none⟩ (.int .i64 0)).setCell ⟨N, 1, none⟩ (.int .i64 0)).setCell ⟨N, 2, none⟩ (.string ⟨#[]⟩)).setCell ⟨N, 3, none⟩ (.slice none 0 0)).setCell ⟨N, 4, none⟩ (.int .i64 0) → (∀ tmps : Array Value, tmps[8]?.getD undef = .pointer (some ⟨N, 0, none⟩) → tmps[9]?.getD undef = .int .i64 E → (results Try.f19 tmps).run Try.prog W' = .ok (.tuple #[zA, .int .i64 E]) W') ∧ RChg b E t0 L' n' P (.slice to P.length tc) w (.returned (.tuple #[zA, .int .i64 E])) W') := fun W tW => by
    have hW : W.heap[N]? = some (.cells #[.int .i64 0, .int .i64 0, .string ⟨#[]⟩, .slice none 0 0, .int .i64 0] 36 (0, 0)) := by rw [tW.block N (blk_lt hY) (fun h => h)]; exact hY
    refine ⟨⟨⟨by rw [blk_cell hW]; rfl, by rw [blk_cell hW]; rfl, by rw [blk_cell hW]; rfl, by rw [blk_cell hW]; rfl, by rw [blk_cell hW]; rfl⟩, blk_frozen hW 0, blk_frozen hW 1, blk_frozen hW 2, blk_frozen hW 3, blk_frozen hW 4⟩, fun W' hW' => ?_⟩
    have tE : Tch (fun i => i = N) W W' := by rw [hW']; exact ((((Tch.setCell (fun i => i = N) W ⟨N, 0, none⟩ _ rfl).setCellR ⟨N, 1, none⟩ _ rfl).setCellR ⟨N, 2, none⟩ _ rfl).setCellR ⟨N, 3, none⟩ _ rfl).setCellR ⟨N, 4, none⟩ _ rfl
    have hb' : W'.heap[N]? = some (.cells #[.int .i64 0, .int .i64 0, .string ⟨#[]⟩, .slice none 0 0, .int .i64 0] 36 (0, 0)) := by
      rw [hW', blk_set (blk_set (blk_set (blk_set (blk_set hW _) _) _) _) _]; rfl
    exact ⟨fun tmps h4 h5 => res_pair hrs h4 h5 (by rw [blk_cell hb']; rfl) (by rw [blk_cell hb']; rfl) (by rw [blk_cell hb']; rfl) (by rw [blk_cell hb']; rfl) (by rw [blk_cell hb']; rfl), fun e => absurd e hE, fun _ => ⟨rfl, (tw.trans' tW).trans tE (fun i hi e => by omega)⟩⟩
  clear hN h hT hb hb1 hw0 tw hY e1 e2 e3 e4 hn hpa hLn hEE hR hE q4 ht
  go_enter Try.func19, Try.ntmps19
  go_wp2_with fail
  rw [← HN.out]
  have hw0 := Hw0.out
  rw [← hw0]
  clear hw0
  refine q1.mono ?_
  rintro y w0' ⟨rfl, hw0'⟩
  subst hw0'
  clear q1
  cases n1 with
  | false =>
    have HEE : Hid (E = 50) := by show _ = _; rw [HR.out]; rfl
    obtain ⟨⟨⟨z0, z1, z2, z3, z4⟩, f0, f1, f2, f3, f4⟩, HF⟩ := HZ.out w0' (Tch.refl _ _)
    have HFF : Hid _ := HF
    clear HF
    go_wp2_with fail
    refine bodyPost_ret ((HFF.out _ rfl).1 _ ?_ ?_) rfl (HFF.out _ rfl).2
    · rfl
    · first | rfl | (rw [HEE.out]; rfl)
  | true =>
    go_wp2_with fail
    refine q2.mono ?_
    rintro y w0'' ⟨rfl, hw0''⟩
    subst hw0''
    clear q2
    by_cases hn2 : 0 ≤ n2
    · have HEE : Hid (E = 51) := by show _ = _; rw [HR.out, if_neg (by simp), if_pos hn2]
      obtain ⟨⟨⟨z0, z1, z2, z3, z4⟩, f0, f1, f2, f3, f4⟩, HF⟩ := HZ.out w0'' (Tch.refl _ _)
      have HFF : Hid _ := HF
      clear HF
      go_wp2_with fail
      refine bodyPost_ret ((HFF.out _ rfl).1 _ ?_ ?_) rfl (HFF.out _ rfl).2
      · rfl
      · first | rfl | (rw [HEE.out]; rfl)
    · by_cases hn16 : n = 16
      · have HEE : Hid (E = 53) := by show _ = _; rw [HR.out, if_neg (by simp), if_neg hn2, if_pos (Or.inl hn16)]
        subst hn16
        obtain ⟨⟨⟨z0, z1, z2, z3, z4⟩, f0, f1, f2, f3, f4⟩, HF⟩ := HZ.out w0'' (Tch.refl _ _)
        have HFF : Hid _ := HF
        clear HF
        go_wp2_with fail
        refine bodyPost_ret ((HFF.out _ rfl).1 _ ?_ ?_) rfl (HFF.out _ rfl).2
        · rfl
        · first | rfl | (rw [HEE.out]; rfl)
      · have hnl : ¬ (16 : Int) ≤ n := by omega
        by_cases hg : gv = 2147483647
        · have HEE : Hid (E = 53) := by show _ = _; rw [HR.out, if_neg (by simp), if_neg hn2, if_pos (Or.inr hg)]
          subst hg
          clear hn16
          obtain ⟨⟨⟨z0, z1, z2, z3, z4⟩, f0, f1, f2, f3, f4⟩, HF⟩ := HZ.out w0'' (Tch.refl _ _)
          have HFF : Hid _ := HF
          clear HF
          go_wp2_with fail
          refine bodyPost_ret ((HFF.out _ rfl).1 _ ?_ ?_) rfl (HFF.out _ rfl).2
          · rfl
          · first | rfl | (rw [HEE.out]; rfl)
        · have HE3 : Hid (E = if n3 ≠ 0 then n3 else n4) := by show _ = _; rw [HR.out, if_neg (by simp), if_neg hn2, if_neg (by simp [hn16, hg])]
          have hg2 : ¬ (2147483647 : Int) < gv + 1 := by omega
          clear hn16 hg
          go_wp2_with fail
          refine q3.mono ?_
          rintro y w1 ⟨rfl, t1⟩
          clear q3
          by_cases h3 : n3 = 0
          · have HEE : Hid (E = n4) := by show _ = _; rw [HE3.out, if_neg (by simp [h3])]
            have h4 : n4 ≠ 0 := by rw [← HEE.out]; exact HE.out
            have hb4 : (n4 != 0) = true := by simpa using h4
            have hb4' : (n4 == 0) = false := by simpa using h4
            subst h3
            clear h4
            have q4 := Q4.out w1 t1
            go_wp2_with fail
            refine q4.mono ?_
            rintro y w2 ⟨rfl, hw2⟩
            subst hw2
            clear q4
            obtain ⟨⟨⟨z0, z1, z2, z3, z4⟩, f0, f1, f2, f3, f4⟩, HF⟩ := HZ.out w2 t1
            have HFF : Hid _ := HF
            clear HF
            go_wp2_with fail
            refine bodyPost_ret ((HFF.out _ rfl).1 _ ?_ ?_) rfl (HFF.out _ rfl).2
            · rfl
            · first | rfl | (rw [HEE.out]; rfl)
          · have HEE : Hid (E = n3) := by show _ = _; rw [HE3.out, if_pos h3]
            have hb4 : (n3 != 0) = true := by simpa using h3
            have hb4' : (n3 == 0) = false := by simpa using h3
            clear h3
            obtain ⟨⟨⟨z0, z1, z2, z3, z4⟩, f0, f1, f2, f3, f4⟩, HF⟩ := HZ.out w1 t1
            have HFF : Hid _ := HF
            clear HF
            go_wp2_with fail
            refine bodyPost_ret ((HFF.out _ rfl).1 _ ?_ ?_) rfl (HFF.out _ rfl).2
            · rfl
            · first | rfl | (rw [HEE.out]; rfl)
end Go.Proofs.Ytolamjipigfocaa
