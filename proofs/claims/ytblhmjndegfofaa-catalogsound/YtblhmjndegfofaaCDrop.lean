import Derived.Test.YtblhmjndegfofaaCChgD
import Derived.Test.YtblhmjndegfofaaCWid2
/- Drop of the code. -/
namespace Go.Proofs.Ytblhmjndegfofaa
open Go.RowKit Go

set_option maxHeartbeats 4000000 in
set_option maxRecDepth 100000 in
/-- Drop, by what the change does. -/
theorem drop_by (b : Nat) (L : List Tbl) (gv : Int) (P : List (Tbl × Value)) (to : Option Addr) (tc : Nat) (F : Nat → Prop) (nm : ByteArray) (E : Int) (t0 : Tbl) (L' : List Tbl) (w : World) (h : CA w F b L gv P to tc) (hl : P.length ≤ 16) (h8 : ∀ i (hi : i < P.length), P[i].1.cols.length ≤ 8) (hF : ∀ i, F i → i < w.heap.size) (ht8 : t0.cols.length ≤ 8)
    (hon : ∀ base RB W d Q tv, base ≤ W.heap.size → b < base ∧ RB < base → Q.map Prod.fst = P.map Prod.fst → Q.length = P.length → CO W base d L gv Q tv → Calls Try.prog 73 #[.agg #[.string nm], .pointer (some ⟨d, 0, none⟩)] W fun x w' => OnOut base d E (TX b RB t0) L' gv x w' ∧ Tch (fun i => base ≤ i) W w') :
    Calls Try.prog 49 #[.pointer (some ⟨b, 0, none⟩), .string nm] w fun x w' => ChgOut F b E t0 L' gv w x w' := by
  obtain ⟨N, hN⟩ : ∃ N, N = w.heap.size := ⟨_, rfl⟩
  obtain ⟨w0, hw0⟩ : ∃ w0, w0 = w.alloc (.cells #[.int .i64 0, .int .i64 0, .string ⟨#[]⟩, .slice none 0 0, .int .i64 0] 29) := ⟨_, rfl⟩
  have t00 : Tch (fun _ => False) w w0 := by rw [hw0]; exact Tch.alloc _ _ _
  have hs0 : w0.heap.size = N + 1 := by rw [hw0, World.size_alloc, hN]
  have hY : w0.heap[N]? = some (.cells #[.int .i64 0, .int .i64 0, .string ⟨#[]⟩, .slice none 0 0, .int .i64 0] 29 (0, 0)) := by rw [hw0, hN]; exact alloc_new _ _
  have hbN : b < N := by rw [hN]; exact blk_lt h.blk
  have q1 : Calls Try.prog 33 #[.pointer (some ⟨b, 0, none⟩), .func (.func 73) #[.agg #[.string nm]] #[]] w0 fun y w' => ChgOut (fun i => F i ∨ i = N) b E t0 L' gv w0 y w' := by
    have hca : CA w0 (fun i => F i ∨ i = N) b L gv P to tc := by
      have h2 : CA w (fun i => F i ∨ i = N) b L gv P to tc := h.fresh (fun i hi hh => hh.elim id (fun e => by omega))
      exact h2.tch t00 (fun _ _ h => h.elim)
    have hF0 : ∀ i, (F i ∨ i = N) → i < w0.heap.size := fun i hi => by
      rcases hi with hi | hi
      · have := hF i hi; omega
      · omega
    exact change_drop b L gv P to tc (fun i => F i ∨ i = N) nm E t0 L' gv w0 hca hl h8 ht8 hF0 (fun W d Q tv _ hsz hQl hCO => hon (w0.heap.size + 1) w0.heap.size W d Q tv hsz ⟨by omega, by omega⟩ (by rw [hCO.eq, h.eq]) hQl hCO)
  have Hw0 : Hid _ := hw0
  have HN : Hid (N = w.heap.size) := hN
  have Ht0 : Hid (Tch (fun _ => False) w w0) := t00
  have Hs0 : Hid (w0.heap.size = N + 1) := hs0
  have HY : Hid (w0.heap[N]? = some (.cells #[.int .i64 0, .int .i64 0, .string ⟨#[]⟩, .slice none 0 0, .int .i64 0] 29 (0, 0))) := hY
  clear h hw0 hN hY t00 hs0 h8 hF hon
  go_enter Try.func49, Try.ntmps49
  go_wp2_with fail
  have hw0 := Hw0.out
  rw [← hw0]
  clear hw0
  refine q1.mono ?_
  rintro y w2 hO
  clear q1
  rw [← HN.out]
  obtain ⟨i, j, s, v, kk, rfl, vo, vn, vc, rfl⟩ := chg_shape hO
  have t2 : Tch (fun i => i = b) w0 w2 := by
    by_cases e : E = 0
    · obtain ⟨_, _, _, _, _, _, _, ht⟩ := hO.1 e; exact ht
    · exact (hO.2 e).2.mono (fun _ _ h => h.elim)
  have hY2 : w2.heap[N]? = some (.cells #[.int .i64 0, .int .i64 0, .string ⟨#[]⟩, .slice none 0 0, .int .i64 0] 29 (0, 0)) := by rw [t2.block N (blk_lt HY.out) (by omega)]; exact HY.out
  obtain ⟨z0, z1, z2, z3, z4⟩ : w2.cell? ⟨N, 0, none⟩ = some (.int .i64 0) ∧ w2.cell? ⟨N, 1, none⟩ = some (.int .i64 0) ∧ w2.cell? ⟨N, 2, none⟩ = some (.string ⟨#[]⟩) ∧ w2.cell? ⟨N, 3, none⟩ = some (.slice none 0 0) ∧ w2.cell? ⟨N, 4, none⟩ = some (.int .i64 0) := ⟨by rw [blk_cell hY2]; rfl, by rw [blk_cell hY2]; rfl, by rw [blk_cell hY2]; rfl, by rw [blk_cell hY2]; rfl, by rw [blk_cell hY2]; rfl⟩
  have f0 := blk_frozen hY2 0; have f1 := blk_frozen hY2 1; have f2 := blk_frozen hY2 2; have f3 := blk_frozen hY2 3; have f4 := blk_frozen hY2 4
  have hrs : Try.f49.results = #[.cell 4 29, .tmp 5] := by kernel_rfl
  have HFin : Hid (∀ W', W' = ((((w2.setCell ⟨N, 0, none⟩ (.int .i64 i)).setCell ⟨N, 1, none⟩ (.int .i64 j)).setCell ⟨N, 2, none⟩ (.string s)).setCell ⟨N, 3, none⟩ (.slice vo vn vc)).setCell ⟨N, 4, none⟩ (.int .i64 kk) → (∀ tmps : Array Value, tmps[4]?.getD undef = .pointer (some ⟨N, 0, none⟩) → tmps[5]?.getD undef = .int .i64 E → (results Try.f49 tmps).run Try.prog W' = .ok (.tuple #[tA i j s (.slice vo vn vc) kk, .int .i64 E]) W') ∧ ChgOut F b E t0 L' gv w (.returned (.tuple #[tA i j s (.slice vo vn vc) kk, .int .i64 E])) W') := fun W' hW' => by
    have tE : Tch (fun i => i = N) w2 W' := by rw [hW']; exact ((((Tch.setCell (fun i => i = N) w2 ⟨N, 0, none⟩ _ rfl).setCellR ⟨N, 1, none⟩ _ rfl).setCellR ⟨N, 2, none⟩ _ rfl).setCellR ⟨N, 3, none⟩ _ rfl).setCellR ⟨N, 4, none⟩ _ rfl
    have hb : W'.heap[N]? = some (.cells #[.int .i64 i, .int .i64 j, .string s, .slice vo vn vc, .int .i64 kk] 29 (0, 0)) := by
      rw [hW', blk_set (blk_set (blk_set (blk_set (blk_set hY2 _) _) _) _) _]; rfl
    exact ⟨fun tmps h4 h5 => res_pair hrs h4 h5 (by rw [blk_cell hb]; rfl) (by rw [blk_cell hb]; rfl) (by rw [blk_cell hb]; rfl) (by rw [blk_cell hb]; rfl) (by rw [blk_cell hb]; rfl), chg_end HN.out Ht0.out Hs0.out hO tE⟩
  clear hO hY2 t2
  go_wp2_with fail
  refine bodyPost_ret ((HFin.out _ rfl).1 _ ?_ ?_) rfl (HFin.out _ rfl).2 <;> rfl
theorem drop_none (b : Nat) (L : List Tbl) (gv : Int) (P : List (Tbl × Value)) (to : Option Addr) (tc : Nat) (F : Nat → Prop) (nm : ByteArray) (t0 : Tbl) (L' : List Tbl) (w : World) (h : CA w F b L gv P to tc) (hl : P.length ≤ 16) (h8 : ∀ i (hi : i < P.length), P[i].1.cols.length ≤ 8) (hF : ∀ i, F i → i < w.heap.size)
    (hpos : posP (fun t => decide (t.nm = nm)) P = -1) :
    Calls Try.prog 49 #[.pointer (some ⟨b, 0, none⟩), .string nm] w fun x w' => ChgOut F b 52 t0 L' gv w x w' := by
  refine (drop_by b L gv P to tc F nm 52 ⟨0, 0, ⟨#[]⟩, [], 0⟩ L' w h hl h8 hF (by simp) (fun base RB W d Q tv hb _ hmap hQl hCO => removeOn_none base d L L' gv gv Q tv nm _ W hCO (by omega) hb (by rw [posP_congr _ hmap]; exact hpos))).mono ?_
  rintro y w' hO
  exact ⟨fun e => by simp at e, hO.2⟩
theorem drop_some (b : Nat) (L : List Tbl) (gv : Int) (P : List (Tbl × Value)) (to : Option Addr) (tc : Nat) (F : Nat → Prop) (nm : ByteArray) (k : Nat) (hk : k < P.length) (w : World) (h : CA w F b L gv P to tc) (hl : P.length ≤ 16) (h8 : ∀ i (hi : i < P.length), P[i].1.cols.length ≤ 8) (hF : ∀ i, F i → i < w.heap.size)
    (hpos : posP (fun t => decide (t.nm = nm)) P = k) :
    Calls Try.prog 49 #[.pointer (some ⟨b, 0, none⟩), .string nm] w fun x w' => ChgOut F b 0 P[k].1 (L.eraseIdx k) gv w x w' := by
  refine drop_by b L gv P to tc F nm 0 P[k].1 (L.eraseIdx k) w h hl h8 hF (h8 k hk) (fun base RB W d Q tv hb hbb hmap hQl hCO => ?_)
  have hkQ : k < Q.length := by omega
  have hQk : Q[k].1 = P[k].1 := by
    have h2 : (Q.map Prod.fst)[k]? = (P.map Prod.fst)[k]? := by rw [hmap]
    rw [List.getElem?_map, List.getElem?_map, List.getElem?_eq_getElem hkQ, List.getElem?_eq_getElem hk] at h2
    simpa using h2
  have q := removeOn_some base d L gv Q tv nm b RB k hkQ W hCO (by omega) hb hbb (by rw [posP_congr _ hmap]; exact hpos)
  rw [hQk] at q
  exact q
end Go.Proofs.Ytblhmjndegfofaa
