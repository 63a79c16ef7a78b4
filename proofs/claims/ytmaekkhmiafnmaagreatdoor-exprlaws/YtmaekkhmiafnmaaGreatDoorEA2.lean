import Derived.Test.YtmaekkhmiafnmaaGreatDoorEX11
import Derived.Test.YtmaekkhmiafnmaaGreatDoorEZ0
import Derived.Test.YtmaekkhmiafnmaaGreatDoorEZ6
import Derived.Test.YtmaekkhmiafnmaaGreatDoorVRights
set_option maxHeartbeats 8000000
set_option maxRecDepth 100000
namespace Go.Proofs.YtmaekkhmiafnmaaGreatDoor
open Go.RowKit Go Go.Lib
def C6 : List Col11 := [(⟨#[97]⟩, 1, true), (⟨#[98]⟩, 1, true), (⟨#[115]⟩, 2, true), (⟨#[116]⟩, 2, true), (⟨#[112]⟩, 3, true), (⟨#[113]⟩, 3, true)]
theorem cs_C6 : csO C6 = cs6 := rfl
theorem res_t {fn : Func} {j : Nat} (hrs : fn.results = #[.cell j 42]) (tmps : Array Value) (W : World) (p : Nat) (a b c d e : Value) (h2 : tmps[j]?.getD undef = .pointer (some ⟨p, 0, none⟩)) (c0 : W.cell? ⟨p, 0, none⟩ = some a) (c1 : W.cell? ⟨p, 1, none⟩ = some b) (c2 : W.cell? ⟨p, 2, none⟩ = some c) (c3 : W.cell? ⟨p, 3, none⟩ = some d) (c4 : W.cell? ⟨p, 4, none⟩ = some e) :
    (results fn tmps).run Tryz.prog W = .ok (.agg #[a, b, c, d, e]) W := by
  simp only [results, hrs]
  go_simp
theorem two_new (w : World) (a b : Array Value) (s t : TypeId) : ((w.alloc (.cells a s)).alloc (.cells b t)).heap[w.heap.size]? = some (.cells a s (0, 0)) ∧ ((w.alloc (.cells a s)).alloc (.cells b t)).heap[w.heap.size + 1]? = some (.cells b t (0, 0)) ∧ Tch (fun _ => False) w ((w.alloc (.cells a s)).alloc (.cells b t)) := by
  refine ⟨?_, ?_, (Tch.alloc _ _ _).allocR _⟩
  · exact ((Tch.alloc (fun _ => False) (w.alloc (.cells a s)) (.cells b t)).block w.heap.size (by simp) (fun h => h)).trans (alloc_new w _)
  · have h := alloc_new (w.alloc (.cells a s)) (.cells b t)
    rw [show (w.alloc (.cells a s)).heap.size = w.heap.size + 1 by simp] at h
    exact h
def TbOut (w : World) (x : Ending) (w' : World) : Prop := ∃ R, x = .returned (tb11 1 1 ⟨#[116]⟩ (some ⟨R, 0, none⟩) 6 6 0) ∧ At w' R 0 (colc C6) ∧ w.heap.size ≤ R
theorem table_any (w : World) : Calls Tryz.prog 13 #[] w fun x w' => TbOut w x w' ∧ Tch (fun _ => False) w w' := by
  go_enter Tryz.func13, Tryz.ntmps13
  go_wp2_with fail
  obtain ⟨b1, b2, t⟩ := two_new w #[.int .i64 1, .int .i64 1, .string ⟨#[116]⟩, .slice (some ⟨w.heap.size + 1, 0, none⟩) 6 6, .int .i64 0] #[.string ⟨#[97]⟩, .int .i64 1, .bool true, .string ⟨#[98]⟩, .int .i64 1, .bool true, .string ⟨#[115]⟩, .int .i64 2, .bool true, .string ⟨#[116]⟩, .int .i64 2, .bool true, .string ⟨#[112]⟩, .int .i64 3, .bool true, .string ⟨#[113]⟩, .int .i64 3, .bool true] 42 75
  refine bodyPost_ret (res_t (j := 0) (by kernel_rfl) _ _ w.heap.size _ _ _ _ _ rfl (by rw [blk_cell b1]; rfl) (by rw [blk_cell b1]; rfl) (by rw [blk_cell b1]; rfl) (by rw [blk_cell b1]; rfl) (by rw [blk_cell b1]; rfl)) rfl ⟨⟨w.heap.size + 1, rfl, fun j u hu => ?_, Nat.le_succ _⟩, t⟩
  rw [blk_cell b2, Nat.zero_add, ← Array.getElem?_toList]
  exact hu
theorem answer_any (s : ByteArray) (e : Ex) (vs : List Val) (vo : Option Addr) (vc : Nat) (w : World) (hp : parE s = (some e, 0, 0)) (hG : HG w) (hV : SL w vo (rcl vs)) (hi : ∀ v ∈ vs, i64v v.n) :
    Calls Tryz.prog 9 #[.string s, .slice vo vs.length vc] w fun x w' => x = .returned (.tuple #[vV (evE cs6 vs e).1, .int .i64 (evE cs6 vs e).2]) ∧ Tch (fun _ => False) w w' := by
  obtain ⟨R, hR⟩ : ∃ R, R = evE cs6 vs e := ⟨_, rfl⟩
  rw [← hR]
  have HB : Hid (∀ W, Tch (fun _ => False) (w.alloc (.cells #[.int .i64 0, .int .i64 0, .string ⟨#[]⟩] 29)) W → OneB w.heap.size W ∧ Tch (fun _ => False) w W) := fun W t => ⟨oneB t, (Tch.alloc _ _ _).trans' t⟩
  have HQ : Hid (∀ W, Tch (fun _ => False) w W → Calls Tryz.prog 10 #[.string s] W fun x w' => (∃ b, x = .returned (.tuple #[ptV b, .int .i64 0, .int .i64 0]) ∧ TR w' (fun i => i < W.heap.size) e b ∧ gdE e) ∧ Tch (fun _ => False) W w') := fun W t => by
    have g := hG.no t
    refine (parse11_any s W g.wds g.lib g.shp g.far).mono ?_
    rintro x w' ⟨h | h, t'⟩
    · obtain ⟨e', b, he, hx, ht, hg⟩ := h
      rw [hp] at he
      injection he with he _
      injection he with he
      subst he
      exact ⟨⟨b, hx, ht, hg⟩, t'⟩
    · obtain ⟨y, p, he, _⟩ := h
      rw [hp] at he
      injection he with he _
      cases he
  have HE : Hid (∀ W b F A, gdE e → TR W F e b → Tch (fun _ => False) w W → At W A 0 (colc C6) → Calls Tryz.prog 15 #[ptV b, tb11 1 1 ⟨#[116]⟩ (some ⟨A, 0, none⟩) 6 6 0, .slice vo vs.length vc] W fun x w' => x = .returned (.tuple #[vV R.1, .int .i64 R.2]) ∧ Tch (fun _ => False) W w') := fun W b F A hg ht t hA => by
    rw [hR]
    exact eval_any C6 vs F e b (some ⟨A, 0, none⟩) vo 6 vc 1 1 0 ⟨#[116]⟩ W hg (parE_tx hp) ht (fun _ => ⟨A, 0, rfl, hA⟩) (hV.no t) hi (by decide)
  obtain ⟨nV, hnV⟩ : ∃ n, n = vs.length := ⟨_, rfl⟩
  rw [← hnV] at HE ⊢
  obtain ⟨v, ev⟩ := R
  clear hp hG hV hi hR hnV
  go_enter Tryz.func9, Tryz.ntmps9
  go_wp2_with fail
  refine (HQ.out _ (Tch.alloc _ _ _)).mono ?_
  rintro y v1 ⟨⟨b, rfl, hTR, hg⟩, t1⟩
  have HT : Hid (∀ W, Tch (fun _ => False) v1 W → TR W (fun _ => False) e b ∧ gdE e ∧ Tch (fun _ => False) w W ∧ OneB w.heap.size W) := fun W t => ⟨TR.tch t (fun _ h => h.elim) (TR.mono (fun _ _ h => h.elim) hTR), hg, (HB.out W (t1.trans' t)).2, (HB.out W (t1.trans' t)).1⟩
  clear hTR t1 hg
  go_wp2_with fail
  refine (table_any v1).mono ?_
  rintro y v2 ⟨⟨A, rfl, hA, _⟩, t2⟩
  obtain ⟨h1, h2, h3, _⟩ := HT.out v2 t2
  have q := HE.out v2 b _ A h2 h1 h3 hA
  clear h1 h2 h3 hA
  go_wp2_with fail
  refine q.mono ?_
  rintro y v3 ⟨rfl, t3⟩
  obtain ⟨_, _, hw, ⟨x0, x1, x2⟩, f0, f1, f2⟩ := HT.out v3 (t2.trans' t3)
  go_wp2_with fail
  obtain ⟨k0, k1, k2⟩ := box_set _ w.heap.size _ _ _ (.int .i64 (v).k) (.int .i64 (v).n) (.string (v).s) x0 x1 x2
  refine bodyPost_ret (res_ve (j := 4) (m := 5) (by kernel_rfl) _ _ w.heap.size (v) (.int .i64 ev) ?_ ?_ k0 k1 k2) rfl ⟨rfl, hw.trans (box_set_tch _ w.heap.size _ _ _) (fun i hi h => by omega)⟩ <;> rfl
end Go.Proofs.YtmaekkhmiafnmaaGreatDoor
namespace Go.Proofs.YtmaekkhmiafnmaaGreatDoor
open Go.RowKit Go Go.Lib
abbrev v20 : List Val := [inV 20, zV, zV, zV, zV, zV]
theorem kn_ev : evE cs6 v20 eL51 = (inV 41, 0) := by decide +kernel
theorem kn_ch : chk cs6 eL51 = (1, 0) := by decide +kernel
theorem kn_nm : nms eL51 = [⟨#[97]⟩] := by decide +kernel
theorem kn_pr : prt eL51 = ⟨#[49, 32, 43, 32, 50, 32, 42, 32, 97]⟩ := by decide +kernel
instance : DecidablePred i64v := fun n => by unfold i64v; infer_instance
theorem known_any11 (w : World) (hG : HG w) : Calls Tryz.prog 7 #[] w fun x w' => x = .returned (.bool true) ∧ Tch (fun _ => False) w w' := by
  have HQ : Hid (Calls Tryz.prog 10 #[.string ⟨#[49, 43, 50, 42, 97]⟩] w fun x w' => (∃ b, x = .returned (.tuple #[ptV b, .int .i64 0, .int .i64 0]) ∧ TR w' (fun i => i < w.heap.size) eL51 b ∧ gdE eL51) ∧ Tch (fun _ => False) w w') := by
    refine (parse11_any sL51 w hG.wds hG.lib hG.shp hG.far).mono ?_
    rintro x w' ⟨h | h, t'⟩
    · obtain ⟨e', b, he, hx, ht, hg⟩ := h
      rw [pL51] at he
      injection he with he _
      injection he with he
      subst he
      exact ⟨⟨b, hx, ht, hg⟩, t'⟩
    · obtain ⟨y, p, he, _⟩ := h
      rw [pL51] at he
      injection he with he _
      cases he
  have HG0 : Hid (HG w) := hG
  clear hG
  go_enter Tryz.func7, Tryz.ntmps7
  go_wp2_with fail
  refine HQ.out.mono ?_
  rintro y v1 ⟨⟨b, rfl, hTR, hg⟩, t1⟩
  have HT : Hid (∀ W, Tch (fun _ => False) v1 W → TR W (fun _ => False) eL51 b ∧ gdE eL51 ∧ txE eL51 ∧ HG W ∧ Tch (fun _ => False) w W) := fun W t => ⟨TR.tch t (fun _ h => h.elim) (TR.mono (fun _ _ h => h.elim) hTR), hg, parE_tx pL51, HG0.out.no (t1.trans' t), t1.trans' t⟩
  clear hTR t1 hg HQ
  go_wp2_with fail
  obtain ⟨w2, hw2⟩ : ∃ w2, w2 = v1.alloc (.cells #[.int .i64 1, .int .i64 20, .string ⟨#[]⟩, .int .i64 0, .int .i64 0, .string ⟨#[]⟩, .int .i64 0, .int .i64 0, .string ⟨#[]⟩, .int .i64 0, .int .i64 0, .string ⟨#[]⟩, .int .i64 0, .int .i64 0, .string ⟨#[]⟩, .int .i64 0, .int .i64 0, .string ⟨#[]⟩] 29) := ⟨_, rfl⟩
  obtain ⟨R, hR⟩ : ∃ R, R = v1.heap.size := ⟨_, rfl⟩
  have t2 : Tch (fun _ => False) v1 w2 := by rw [hw2]; exact Tch.alloc _ _ _
  have hA : At w2 R 0 (rcl v20) := fun j u hu => by
    have b := alloc_new v1 (.cells #[.int .i64 1, .int .i64 20, .string ⟨#[]⟩, .int .i64 0, .int .i64 0, .string ⟨#[]⟩, .int .i64 0, .int .i64 0, .string ⟨#[]⟩, .int .i64 0, .int .i64 0, .string ⟨#[]⟩, .int .i64 0, .int .i64 0, .string ⟨#[]⟩, .int .i64 0, .int .i64 0, .string ⟨#[]⟩] 29)
    rw [hw2, hR, Nat.zero_add, blk_cell b, ← Array.getElem?_toList]
    exact hu
  have HV : Hid (∀ W, Tch (fun _ => False) w2 W → SL W (some ⟨R, 0, none⟩) (rcl v20) ∧ Tch (fun _ => False) v1 W) := fun W t => ⟨fun _ => ⟨R, 0, rfl, hA.tch t (fun _ h => h)⟩, t2.trans' t⟩
  rw [← hw2, ← hR]
  clear hw2 hR t2 hA
  refine (table_any w2).mono ?_
  rintro y v3 ⟨⟨A, rfl, hA, _⟩, t3⟩
  obtain ⟨hT3, hg3, _, _, _⟩ := HT.out v3 (HV.out v3 t3).2
  have q := check_any C6 (some ⟨A, 0, none⟩) 6 1 1 0 ⟨#[116]⟩ (by decide) _ _ eL51 b v3 (Nat.le_refl _) hg3 hT3 (fun _ => ⟨A, 0, rfl, hA⟩)
  rw [cs_C6, kn_ch] at q
  clear hA hT3 hg3
  go_wp2_with fail
  refine q.mono ?_
  rintro y v4 ⟨rfl, t4⟩
  clear q
  have T4 : Tch (fun _ => False) w2 v4 := t3.trans' t4
  clear t3 t4
  go_wp2_with fail
  refine (table_any v4).mono ?_
  rintro y v5 ⟨⟨A5, rfl, hA5, _⟩, t5⟩
  have T5 := T4.trans' t5
  obtain ⟨hT5, hg5, hx5, _, _⟩ := HT.out v5 (HV.out v5 T5).2
  have q := eval_any C6 v20 _ eL51 b (some ⟨A5, 0, none⟩) (some ⟨R, 0, none⟩) 6 6 1 1 0 ⟨#[116]⟩ v5 hg5 hx5 hT5 (fun _ => ⟨A5, 0, rfl, hA5⟩) (HV.out v5 T5).1 (by decide) (by decide)
  rw [cs_C6, kn_ev] at q
  clear hA5 hT5 hg5 hx5 t5 T4
  go_wp2_with fail
  refine q.mono ?_
  rintro y v6 ⟨rfl, t6⟩
  clear q
  go_wp2_with fail
  have hV := vb_new v6 (inV 41)
  have T6 : Tch (fun _ => False) w2 (v6.alloc (.cells #[.int .i64 (inV 41).k, .int .i64 (inV 41).n, .string (inV 41).s] 29)) := (T5.trans' t6).allocR _
  obtain ⟨w7, hw7⟩ : ∃ w7, w7 = v6.alloc (.cells #[.int .i64 (inV 41).k, .int .i64 (inV 41).n, .string (inV 41).s] 29) := ⟨_, rfl⟩
  obtain ⟨M, hM⟩ : ∃ M, M = v6.heap.size := ⟨_, rfl⟩
  rw [← hw7] at hV T6
  rw [← hM] at hV
  have HV7 : Hid (∀ W, Tch (fun _ => False) w7 W → VB M (inV 41) W) := fun W t => hV.no t
  obtain ⟨hT7, hg7, hx7, _, _⟩ := HT.out w7 (HV.out w7 T6).2
  have q := names_any _ _ eL51 b w7 (Nat.le_refl _) hg7 hT7
  rw [kn_nm] at q
  clear hV hT7 hg7 hx7 T5 t6
  first
    | (rw [← hw7, ← hM])
    | (have hw8 : w7 = v6.alloc (.cells #[.int .i64 1, .int .i64 41, .string ⟨#[]⟩] 29) := hw7
       rw [← hw8, ← hM])
  clear hw7 hM
  refine q.mono ?_
  rintro y v8 ⟨⟨no, nc, rfl, hsr⟩, t8⟩
  clear q
  obtain ⟨g, o, e0, hc⟩ := strc_at (SR.sl rfl hsr) (k := 0) (by decide)
  subst e0
  have T8 : Tch (fun _ => False) w2 v8 := T6.trans' t8
  obtain ⟨hT8, hg8, hx8, hG8, _⟩ := HT.out v8 (HV.out v8 T8).2
  have q := printE_any _ _ eL51 b v8 (Nat.le_refl _) hg8 hx8 hT8 hG8
  rw [kn_pr] at q
  have hcl : g < v8.heap.size := cell_lt hc
  have HN : Hid (∀ W, Tch (fun _ => False) v8 W → W.cell? ⟨g, o, none⟩ = some (.string ⟨#[97]⟩)) := fun W t => (t.cell (p := ⟨g, o, none⟩) hcl (fun h => h)).trans hc
  have HM : Hid (∀ W, Tch (fun _ => False) v8 W → VB M (inV 41) W) := fun W t => HV7.out W (t8.trans' t)
  clear hsr hc hT8 hg8 hx8 hG8 t8 T6 HV7
  have e1 : ∀ W, (binOp .eql 29 (vV (inV 41)) (.agg #[.int .i64 1, .int .i64 41, .string ⟨#[]⟩])).run Tryz.prog W = .ok (.bool true) W := fun W => by
    have h := eql_dec (inV 41) (inV 41) W
    rw [decide_eq_true rfl] at h
    exact h
  go_wp2_with fail
  refine q.mono ?_
  rintro y v9 ⟨rfl, t9⟩
  clear q
  have c9 := HN.out v9 t9
  obtain ⟨⟨x0, x1, x2⟩, _⟩ := HM.out v9 t9
  go_wp2_with fail
  go_ret
  exact ⟨rfl, (HT.out v9 (HV.out v9 (T8.trans' t9)).2).2.2.2.2⟩
end Go.Proofs.YtmaekkhmiafnmaaGreatDoor
namespace Go.Proofs.YtmaekkhmiafnmaaGreatDoor
open Go.RowKit Go Go.Lib
def kds : List Int := [1, 1, 2, 2, 3, 3]
def rwE (raw : List Val) (k : Nat) : Val :=
  if (raw.getD k zV).k = 0 then zV
  else if kds.getD k 0 = 1 then inV (raw.getD k zV).n else if kds.getD k 0 = 3 then ⟨3, (raw.getD k zV).n % 2, ⟨#[]⟩⟩ else txV (cutS (raw.getD k zV).s)
def rw6 (raw : List Val) : List Val := (List.range 6).map (rwE raw)
theorem rw6_row6 {raw : List Val} (hi : ∀ v ∈ raw, i64v v.n) : Row6 (rw6 raw) := by
  have hn : ∀ k, i64v (raw.getD k zV).n := fun k => by
    rw [List.getD_eq_getElem?_getD]
    cases e : raw[k]? with
    | none => exact i64_0
    | some v => exact hi v (List.mem_of_getElem? e)
  have hI : ∀ k, kds.getD k 0 = 1 → IntF (rwE raw k) := fun k hk => by
    unfold rwE
    split
    · exact Or.inl rfl
    · exact Or.inr ⟨_, by first | rfl | (rw [if_pos hk]), hn k⟩
  have hT : ∀ k, kds.getD k 0 = 2 → TxtF (rwE raw k) := fun k hk => by
    unfold rwE
    split
    · exact Or.inl rfl
    · rw [if_neg (by omega), if_neg (by omega)]
      refine Or.inr ⟨_, rfl, ?_⟩
      unfold cutS
      split
      · simp; omega
      · omega
  have hB : ∀ k, kds.getD k 0 = 3 → BooF (rwE raw k) := fun k hk => by
    unfold rwE
    split
    · exact Or.inl rfl
    · try rw [if_pos hk]
      have e1 : (if kds.getD k 0 = 1 then inV (raw.getD k zV).n else (⟨3, (raw.getD k zV).n % 2, ⟨#[]⟩⟩ : Val)) = ⟨3, (raw.getD k zV).n % 2, ⟨#[]⟩⟩ := if_neg (by omega)
      rcases (by omega : (raw.getD k zV).n % 2 = 1 ∨ (raw.getD k zV).n % 2 = 0) with e | e
      · rw [e1, e]; exact Or.inr (Or.inl rfl)
      · rw [e1, e]; exact Or.inr (Or.inr rfl)
  exact ⟨rwE raw 0, rwE raw 1, rwE raw 2, rwE raw 3, rwE raw 4, rwE raw 5, rfl, hI 0 rfl, hI 1 rfl, hT 2 rfl, hT 3 rfl, hB 4 rfl, hB 5 rfl⟩
theorem Row6.i64 {r : List Val} (h : Row6 r) : ∀ v ∈ r, i64v v.n := by
  obtain ⟨a, b, s, t, p, q, rfl, ha, hb, hs, ht, hp, hq⟩ := h.ex
  have hI : ∀ {v}, IntF v → i64v v.n := fun {v} h => by
    rcases h with rfl | ⟨n, rfl, hn⟩
    · exact i64_0
    · exact hn
  have hT : ∀ {v}, TxtF v → i64v v.n := fun {v} h => by rcases h with rfl | ⟨n, rfl, _⟩ <;> exact i64_0
  have hB : ∀ {v}, BooF v → i64v v.n := fun {v} h => by rcases h with rfl | rfl | rfl <;> decide
  intro v hv
  simp only [List.mem_cons, List.not_mem_nil, or_false] at hv
  rcases hv with rfl | rfl | rfl | rfl | rfl | rfl
  · exact hI ha
  · exact hI hb
  · exact hT hs
  · exact hT ht
  · exact hB hp
  · exact hB hq
abbrev VR (W : World) (N : Nat) (v : Value) (l : List Val) : Prop := W.ownsRow N 29 3 v l.length (rcl l)
theorem VR.sl {W : World} {N n : Nat} {ao : Option Addr} {c : Nat} {l : List Val} (hn : l.length = n) (h : VR W N (.slice ao n c) l) : SL W ao (rcl l) := fun hne => by
  have hp : 0 < l.length := by
    cases l with
    | nil => exact absurd rfl hne
    | cons a l => simp
  subst hn
  obtain ⟨g, e, _, ha⟩ := own_at h hp
  exact ⟨g, 0, e, ha⟩
theorem VR.app {w : World} {N : Nat} {ao : Option Addr} {c n : Nat} {l : List Val} (hn : l.length = n) (h : VR w N (.slice ao n c) l) (hN : N ≤ w.heap.size) (hl : n ≤ 1000000000) (x : Val) :
    ∃ o c' w', (Builtin.append_ #[23, 23] 23 #[.slice ao n c, .slice (some ⟨w.heap.size, 0, none⟩) 1 1]).run Tryz.prog (w.alloc (.cells #[.int .i64 x.k, .int .i64 x.n, .string x.s] 29)) = .ok (.slice o ((n + 1 : Nat)) c') w' ∧
      VR w' N (.slice o (n + 1) c') (l ++ [x]) ∧ (l ++ [x]).length = n + 1 ∧ Tch (fun g => N ≤ g) w w' := by
  subst hn
  obtain ⟨i0, hi0, hz0, hz1, hz2⟩ := info_parts info_val
  have t6 : Tch (fun _ => False) w (w.alloc (.cells #[.int .i64 x.k, .int .i64 x.n, .string x.s] 29)) := Tch.alloc _ _ _
  have b6 := alloc_new w (.cells #[.int .i64 x.k, .int .i64 x.n, .string x.s] 29)
  have ho6 := own_tch h t6 (fun _ _ e => e)
  obtain ⟨v7, w7, hr7, hown7, hgr7, _, hat7⟩ := run_append_own_at (P := Tryz.prog) (w.alloc (.cells #[.int .i64 x.k, .int .i64 x.n, .string x.s] 29)) N 23 23 29 i0 _ 3 32 Tryz.underlying23 hi0 hz0 hz1 hz2 rfl (by decide) _ _ _ ho6 ⟨w.heap.size, 0, none⟩ 1 1 [.int .i64 x.k, .int .i64 x.n, .string x.s] rfl (fun j u hu => by rw [add_plain, Nat.zero_add, blk_cell b6, ← Array.getElem?_toList]; exact hu) (fun u hu => by simp only [List.mem_cons, List.not_mem_nil, or_false] at hu; rcases hu with rfl | rfl | rfl <;> rfl) (by unfold maxLen; omega) (by omega) (by simp; omega)
  obtain ⟨o7, c7, rfl⟩ := row_slice hown7
  have t7 : Tch (fun g => (Value.slice ao l.length c).ownBlock = some g) (w.alloc (.cells #[.int .i64 x.k, .int .i64 x.n, .string x.s] 29)) w7 := Tch.of_grown hgr7 (fun g e => e)
  have t67 : Tch (fun g => (Value.slice ao l.length c).ownBlock = some g) w w7 := (t6.mono (fun _ _ h => h.elim)).trans' t7
  refine ⟨o7, c7, w7, hr7, ?_, by simp, t67.mono (fun g _ e => row_ge h e)⟩
  show w7.ownsRow N 29 3 _ (l ++ [x]).length (rcl (l ++ [x]))
  rw [List.length_append, rcl_snoc]
  exact hown7
theorem row_any11 (raw : List Val) (ao : Option Addr) (cp : Nat) (w : World) (hV : SL w ao (rcl raw)) :
    Calls Tryz.prog 8 #[.slice ao raw.length cp] w fun x w' => (∃ o c, x = .returned (.slice o 6 c) ∧ SL w' o (rcl (rw6 raw))) ∧ Tch (fun _ => False) w w' := by
  obtain ⟨n, hn⟩ : ∃ n, n = raw.length := ⟨_, rfl⟩
  rw [← hn]
  obtain ⟨w1, hw1⟩ : ∃ w1, w1 = w.alloc (.cells #[.int .i64 1, .int .i64 1, .int .i64 2, .int .i64 2, .int .i64 3, .int .i64 3] 3) := ⟨_, rfl⟩
  obtain ⟨N, hN⟩ : ∃ N, N = w.heap.size + 1 := ⟨_, rfl⟩
  have hK : At w1 w.heap.size 0 (kds.map fun n => Value.int .i64 n) := fun j u hu => by
    rw [hw1, Nat.zero_add, blk_cell (alloc_new w _), ← Array.getElem?_toList]
    exact hu
  have hs1 : w1.heap.size = N := by rw [hw1, hN]; simp
  have t1 : Tch (fun _ => False) w w1 := by rw [hw1]; exact Tch.alloc _ _ _
  have HV : Hid (∀ W, Tch (fun i => N ≤ i) w1 W → SL W ao (rcl raw) ∧ Tch (fun _ => False) w W ∧ At W w.heap.size 0 (kds.map fun n => Value.int .i64 n)) := fun W t => by
    have T : Tch (fun i => N ≤ i) w W := (t1.mono (fun _ _ h => h.elim)).trans' t
    refine ⟨fun hne => ?_, T.mono (fun i hi h => by have h : N ≤ i := h; omega), hK.tch t (fun _ h => by have h : N ≤ w.heap.size := h; omega)⟩
    obtain ⟨g, o, e, ha⟩ := hV hne
    exact ⟨g, o, e, ha.tch T (fun h hk => by have := ha.lt h; have hk : N ≤ g := hk; omega)⟩
  have HJ : Hid (VR w1 N (.slice none 0 0) [] ∧ N = w1.heap.size ∧ n = raw.length ∧ N = w.heap.size + 1) := ⟨⟨rfl, Or.inl ⟨rfl, rfl⟩⟩, hs1.symm, hn, hN⟩
  have Hw1 : Hid _ := hw1
  clear hV hn hw1 hN hK hs1 t1
  go_enter Tryz.func8, Tryz.ntmps8
  go_wp2_with fail
  rw [← Hw1.out]
  go_loopw [4, 5] (fun lv iv wr => ∃ (k c : Nat) (o : Option Addr), lv = .slice o k c ∧ iv = .int .i64 k ∧ k ≤ 6 ∧ Hid (VR wr N (.slice o k c) ((List.range k).map (rwE raw)) ∧ Tch (fun i => N ≤ i) w1 wr)) (fun _ iv _ => 6 - (RowKit.intOf iv).toNat)
  case atStart => exact ⟨0, 0, none, rfl, rfl, by omega, HJ.out.1, Tch.refl _ _⟩
  case round =>
    obtain ⟨k, c, o, rfl, rfl, hk, HK⟩ := hrel
    by_cases hlt : k < 6
    · have hltI : (k : Int) < 6 := by omega
      obtain ⟨sV, _, aK⟩ := HV.out wr HK.out.2
      have hkd : kds[k]? = some (kds.getD k 0) := by
        rw [List.getD_eq_getElem?_getD, List.getElem?_eq_getElem (show k < kds.length from hlt)]; rfl
      have cK := aK k _ (by rw [List.getElem?_map, hkd]; rfl)
      rw [Nat.zero_add] at cK
      obtain ⟨kd, hkd2⟩ : ∃ kd, kd = kds.getD k 0 := ⟨_, rfl⟩
      have hk3 : kd = 1 ∨ kd = 2 ∨ kd = 3 := by
        have : ∀ k, k < 6 → kds.getD k 0 = 1 ∨ kds.getD k 0 = 2 ∨ kds.getD k 0 = 3 := by decide
        rw [hkd2]; exact this k hlt
      rw [← hkd2] at cK
      have hKl : w.heap.size < wr.heap.size := cell_lt cK
      have cK : ∀ o1, (wr.alloc o1).cell? ⟨w.heap.size, k, none⟩ = some (.int .i64 kd) := fun o1 => (World.cell?_alloc_lt _ _ _ hKl).trans cK
      obtain ⟨x, hx⟩ : ∃ x, x = raw.getD k zV := ⟨_, rfl⟩
      obtain ⟨v, hv⟩ : ∃ v, v = rwE raw k := ⟨_, rfl⟩
      have hv2 : v = if x.k = 0 then zV else if kd = 1 then inV x.n else if kd = 3 then ⟨3, x.n % 2, ⟨#[]⟩⟩ else txV (cutS x.s) := by rw [hv, hx, hkd2]; rfl
      have HF : Hid (∀ o' c' W', VR W' N (.slice o' (k + 1) c') ((List.range k).map (rwE raw) ++ [v]) → Tch (fun g => N ≤ g) wr W' → VR W' N (.slice o' (k + 1) c') ((List.range (k + 1)).map (rwE raw)) ∧ Tch (fun i => N ≤ i) w1 W') := fun o' c' W' h1 h2 => by
        refine ⟨?_, HK.out.2.trans' h2⟩
        rw [List.range_succ, List.map_append, List.map_singleton, ← hv]
        exact h1
      have HA : Hid (∀ (oA : Obj) (ka na : Int) (sa : ByteArray), v.k = ka → v.n = na → v.s = sa → ∃ o' c' w', (Builtin.append_ #[23, 23] 23 #[.slice o k c, .slice (some ⟨wr.heap.size + 1, 0, none⟩) 1 1]).run Tryz.prog ((wr.alloc oA).alloc (.cells #[.int .i64 ka, .int .i64 na, .string sa] 29)) = .ok (.slice o' ((k + 1 : Nat)) c') w' ∧
          Hid (VR w' N (.slice o' (k + 1) c') ((List.range (k + 1)).map (rwE raw)) ∧ Tch (fun i => N ≤ i) w1 w')) := fun oA ka na sa e1 e2 e3 => by
        subst e1; subst e2; subst e3
        have hN1 : N ≤ wr.heap.size := by have := HK.out.2.size; have := HJ.out.2.1; omega
        obtain ⟨o', c', w', hr, h1, _, h3⟩ := VR.app (n := k) (by simp) (own_tch HK.out.1 (Tch.alloc (fun _ => False) wr oA) (fun _ _ e => e)) (by simp; omega) (by omega) v
        rw [show (wr.alloc oA).heap.size = wr.heap.size + 1 by simp] at hr
        exact ⟨o', c', w', hr, HF.out o' c' w' h1 (((Tch.alloc _ wr oA)).trans' h3)⟩
      clear hv HF aK hkd hkd2
      by_cases hlen : k < n
      · have hlenI : (k : Int) < (n : Int) := by omega
        have hkl : k < raw.length := by rw [← HJ.out.2.2.1]; exact hlen
        obtain ⟨g, i, rfl, r0, r1, r2⟩ := vrow_at sV hkl
        have hxx : raw[k] = x := by rw [hx, List.getD_eq_getElem?_getD, List.getElem?_eq_getElem hkl]; rfl
        rw [hxx] at r0 r1 r2
        have hgl : g < wr.heap.size := cell_lt r0
        have r0 : ∀ o1, (wr.alloc o1).cell? ⟨g, i + k * 3, none⟩ = some (.int .i64 x.k) := fun o1 => (World.cell?_alloc_lt _ _ _ hgl).trans r0
        have r1 : ∀ o1, (wr.alloc o1).cell? ⟨g, i + k * 3 + 1, none⟩ = some (.int .i64 x.n) := fun o1 => (World.cell?_alloc_lt _ _ _ hgl).trans r1
        have r2 : ∀ o1, (wr.alloc o1).cell? ⟨g, i + k * 3 + 2, none⟩ = some (.string x.s) := fun o1 => (World.cell?_alloc_lt _ _ _ hgl).trans r2
        clear hx sV hxx hgl
        by_cases h0 : x.k = 0
        · have hvv : v = zV := by rw [hv2, if_pos h0]
          subst hvv
          have e0 : (x.k != 0) = false := by rw [h0]; rfl
          clear hv2 h0
          obtain ⟨o', c', w', hr, HE⟩ := HA.out (.cells #[.int .i64 0, .int .i64 0, .string ⟨#[]⟩] 29) 0 0 ⟨#[]⟩ rfl rfl rfl
          go_wp2_with (at_builtin; refine wpList_app _ rfl _ _ 23 rfl rfl _ _ rfl rfl hr ?_)
          go_roundw
          case rel => exact ⟨k + 1, c', o', rfl, by first | trivial | rfl, by omega, HE⟩
          case measure => simp [RowKit.intOf]; omega
        · have e0 : (x.k != 0) = true := by simpa using h0
          rw [if_neg h0] at hv2
          clear h0
          rcases hk3 with rfl | rfl | rfl
          · have hvv : v = inV x.n := hv2
            subst hvv
            clear hv2
            obtain ⟨o', c', w', hr, HE⟩ := HA.out (.cells #[.int .i64 1, .int .i64 x.n, .string ⟨#[]⟩] 29) 1 x.n ⟨#[]⟩ rfl rfl rfl
            go_wp2_with (at_builtin; refine wpList_app _ rfl _ _ 23 rfl rfl _ _ rfl rfl hr ?_)
            go_roundw
            case rel => exact ⟨k + 1, c', o', rfl, by first | trivial | rfl, by omega, HE⟩
            case measure => simp [RowKit.intOf]; omega
          · have hvv : v = txV (cutS x.s) := hv2
            subst hvv
            clear hv2
            by_cases hl : 200 < x.s.size
            · have hl' : (200 : Int) < (x.s.size : Int) := by omega
              have hcs : cutS x.s = x.s.extract 0 200 := by unfold cutS; rw [if_pos hl]
              rw [hcs] at HA
              clear hcs
              obtain ⟨o', c', w', hr, HE⟩ := HA.out (.cells #[.int .i64 2, .int .i64 0, .string (x.s.extract 0 200)] 29) 2 0 (x.s.extract 0 200) rfl rfl rfl
              go_wp2_with (at_builtin; refine wpList_app _ rfl _ _ 23 rfl rfl _ _ rfl rfl hr ?_)
              go_roundw
              case rel => exact ⟨k + 1, c', o', rfl, by first | trivial | rfl, by omega, HE⟩
              case measure => simp [RowKit.intOf]; omega
            · have hl' : ¬ (200 : Int) < (x.s.size : Int) := by omega
              have hcs : cutS x.s = x.s := by unfold cutS; rw [if_neg hl]
              rw [hcs] at HA
              clear hcs
              obtain ⟨o', c', w', hr, HE⟩ := HA.out (.cells #[.int .i64 2, .int .i64 0, .string x.s] 29) 2 0 x.s rfl rfl rfl
              go_wp2_with (at_builtin; refine wpList_app _ rfl _ _ 23 rfl rfl _ _ rfl rfl hr ?_)
              go_roundw
              case rel => exact ⟨k + 1, c', o', rfl, by first | trivial | rfl, by omega, HE⟩
              case measure => simp [RowKit.intOf]; omega
          · have hvv : v = ⟨3, x.n % 2, ⟨#[]⟩⟩ := hv2
            have hb := i64_and1 x.n
            subst hvv
            clear hv2
            obtain ⟨o', c', w', hr, HE⟩ := HA.out (.cells #[.int .i64 3, .int .i64 (x.n % 2), .string ⟨#[]⟩] 29) 3 (x.n % 2) ⟨#[]⟩ rfl rfl rfl
            go_wp2_with (at_builtin; refine wpList_app _ rfl _ _ 23 rfl rfl _ _ rfl rfl hr ?_)
            go_roundw
            case rel => exact ⟨k + 1, c', o', rfl, by first | trivial | rfl, by omega, HE⟩
            case measure => simp [RowKit.intOf]; omega
      · have hlenI : ¬ (k : Int) < (n : Int) := by omega
        have hx0 : x = zV := by rw [hx, List.getD_eq_getElem?_getD, List.getElem?_eq_none (by have := HJ.out.2.2.1; omega)]; rfl
        have hvv : v = zV := by rw [hv2, hx0, if_pos rfl]
        subst hvv
        clear hv2 hx hx0 sV
        obtain ⟨o', c', w', hr, HE⟩ := HA.out (.cells #[.int .i64 0, .int .i64 0, .string ⟨#[]⟩] 29) 0 0 ⟨#[]⟩ rfl rfl rfl
        go_wp2_with (at_builtin; refine wpList_app _ rfl _ _ 23 rfl rfl _ _ rfl rfl hr ?_)
        go_roundw
        case rel => exact ⟨k + 1, c', o', rfl, by first | trivial | rfl, by omega, HE⟩
        case measure => simp [RowKit.intOf]; omega
    · obtain rfl : k = 6 := by omega
      have HE : Hid (SL wr o (rcl (rw6 raw)) ∧ Tch (fun _ => False) w wr) := ⟨VR.sl (n := 6) (l := (List.range 6).map (rwE raw)) rfl HK.out.1, (HV.out wr HK.out.2).2.1⟩
      go_wp2_with fail
      go_ret
      exact ⟨⟨o, c, rfl, HE.out.1⟩, HE.out.2⟩
end Go.Proofs.YtmaekkhmiafnmaaGreatDoor
