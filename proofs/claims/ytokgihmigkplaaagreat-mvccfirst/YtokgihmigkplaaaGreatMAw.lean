import Derived.Test.YtokgihmigkplaaaGreatFP7
import Derived.Test.YtokgihmigkplaaaGreatFS1
import Derived.Test.YtokgihmigkplaaaGreatFT1
set_option maxHeartbeats 8000000
set_option maxRecDepth 100000
namespace Go.Proofs.YtokgihmigkplaaaGreat.F
open Go.RowKit Go Go.Sort
set_option maxRecDepth 100000
structure Dn where
  fr : Nat
  to : Nat
  ks : Nat → Bool
structure AL (q : Mo) (bg : Nat → Nat) (l : List Dn) (i : Nat) : Prop where
  bl : ∀ k, bg k ≤ i
  ft : ∀ d ∈ l, d.fr ≤ d.to ∧ d.to < i
  st : ∀ d ∈ l, ∃ σ, σ ≤ q.n ∧ (∀ κ, κ < 6 → d.ks κ = true → σ ≤ q.wn.getD κ 0) ∧ ∀ (k : Nat) (s : Se), q.l[k]? = some s → s.op = true → bg k ≤ d.to → s.wh < σ
  pw : ∀ (a b : Nat) (da db : Dn), a < b → l[a]? = some da → l[b]? = some db → ¬ da.to < db.fr → ¬ db.to < da.fr → ∀ κ, κ < 6 → ¬ (da.ks κ = true ∧ db.ks κ = true)
section
variable {i nq k kd : Nat} {m : Mg} {q q' : Mo} {s : Se} {bg : Nat → Nat} {l : List Dn} {K : Nat → List Vn} {σ : Nat → Nat}
theorem AL.same (h : AL q bg l i) (hQ : StQ q q' k kd s) (h1 : ¬ (kd = 1 ∧ s.op = true)) (h0 : ¬ (kd = 0 ∧ s.op = false)) : AL q' bg l (i + 1) := by
  obtain ⟨e1, e2⟩ := hQ.oth h1
  refine ⟨fun k => by have := h.bl k; omega, fun d hd => by have := h.ft d hd; omega, fun d hd => ?_, h.pw⟩
  obtain ⟨τ, g1, g2, g3⟩ := h.st d hd
  refine ⟨τ, by rw [e1]; exact g1, fun κ hκ hk => by rw [e2]; exact g2 κ hκ hk, fun j u hu ho hb => ?_⟩
  rcases hQ.se j u hu ho with ⟨v, hv, hvo, e, _⟩ | ⟨_, e3, e4, _⟩
  · rw [e]; exact g3 j v hv hvo hb
  · exact absurd ⟨e3, e4⟩ h0
theorem AL.begin (h : AL q bg l i) (hQ : StQ q q' k 0 s) : AL q' (fun j => if j = k then i else bg j) l (i + 1) := by
  obtain ⟨e1, e2⟩ := hQ.oth (fun e => by omega)
  refine ⟨fun j => ?_, fun d hd => by have := h.ft d hd; omega, fun d hd => ?_, h.pw⟩
  · show (if j = k then i else bg j) ≤ i + 1
    split
    · omega
    · have := h.bl j; omega
  · obtain ⟨τ, g1, g2, g3⟩ := h.st d hd
    refine ⟨τ, by rw [e1]; exact g1, fun κ hκ hk => by rw [e2]; exact g2 κ hκ hk, fun j u hu ho hb => ?_⟩
    have hb : (if j = k then i else bg j) ≤ d.to := hb
    have hlt := (h.ft d hd).2
    by_cases hj : j = k
    · rw [if_pos hj] at hb; omega
    · rw [if_neg hj] at hb
      rcases hQ.se j u hu ho with ⟨v, hv, hvo, e, _⟩ | ⟨e3, _⟩
      · rw [e]; exact g3 j v hv hvo hb
      · exact absurd e3 hj
theorem AL.commit (h : AL q bg l i) (hI : Inv m q K σ) (hB : SB i nq m q) (hs : q.l[k]? = some s) (ho : s.op = true) (hQ : StQ q q' k 1 s) : AL q' bg (l ++ [⟨bg k, i, wroteS s⟩]) (i + 1) := by
  obtain ⟨e1, e2⟩ := hQ.com rfl ho
  have hbk := h.bl k
  have hop : ∀ (j : Nat) (u : Se), q'.l[j]? = some u → u.op = true → ∃ v, q.l[j]? = some v ∧ v.op = true ∧ u.wh = v.wh := fun j u hu huo => by
    rcases hQ.se j u hu huo with ⟨v, hv, hvo, e, _⟩ | ⟨_, e3, _⟩
    · exact ⟨v, hv, hvo, e⟩
    · omega
  have hmono : ∀ κ, κ < 6 → q.wn.getD κ 0 ≤ q'.wn.getD κ 0 := fun κ hκ => by
    rw [e2 κ hκ]
    split
    · have := hB.wn κ hκ; omega
    · exact Nat.le_refl _
  have hnew : ∀ d ∈ l, ¬ d.to < bg k → ∀ κ, κ < 6 → ¬ (d.ks κ = true ∧ wroteS s κ = true) := fun d hd hnb κ hκ hk => by
    obtain ⟨τ, g1, g2, g3⟩ := h.st d hd
    have h1 := g2 κ hκ hk.1
    have h2 := g3 k s hs ho (by omega)
    obtain ⟨cm, o, hKO⟩ := hI.key κ hκ
    have ho' := hKO.one k s hs ho hk.2
    obtain ⟨s', hs', _, _, h3⟩ := hKO.ow k ho'
    rw [hs] at hs'
    injection hs' with hs'
    rw [← hs'] at h3
    omega
  refine ⟨fun j => by have := h.bl j; omega, fun d hd => ?_, fun d hd => ?_, fun a b da db hab ha hb n1 n2 => ?_⟩
  · rcases List.mem_append.1 hd with hd | hd
    · have := h.ft d hd; omega
    · rw [List.mem_singleton.1 hd]
      exact ⟨hbk, Nat.lt_succ_self _⟩
  · rcases List.mem_append.1 hd with hd | hd
    · obtain ⟨τ, g1, g2, g3⟩ := h.st d hd
      refine ⟨τ, by omega, fun κ hκ hk => Nat.le_trans (g2 κ hκ hk) (hmono κ hκ), fun j u hu huo hb => ?_⟩
      obtain ⟨v, hv, hvo, e⟩ := hop j u hu huo
      rw [e]; exact g3 j v hv hvo hb
    · rw [List.mem_singleton.1 hd]
      refine ⟨q.n + 1, by omega, fun κ hκ hk => ?_, fun j u hu huo _ => ?_⟩
      · rw [e2 κ hκ, if_pos hk]; exact Nat.le_refl _
      · obtain ⟨v, hv, hvo, e⟩ := hop j u hu huo
        have := (hI.ses j v hv hvo).wh
        omega
  · have hbl := (List.getElem?_eq_some_iff.1 hb).1
    rw [List.length_append, List.length_singleton] at hbl
    rw [List.getElem?_append_left (by omega)] at ha
    by_cases hbb : b < l.length
    · rw [List.getElem?_append_left hbb] at hb
      exact h.pw a b da db hab ha hb n1 n2
    · have hb9 : b = l.length := by omega
      rw [hb9, List.getElem?_append_right (Nat.le_refl _), Nat.sub_self] at hb
      injection hb with hb
      subst hb
      exact hnew da (List.mem_of_getElem? ha) n1
end
def dCs (d : Dn) : List Value := [.int .i64 d.fr, .int .i64 d.to, .bool (d.ks 0), .bool (d.ks 1), .bool (d.ks 2), .bool (d.ks 3), .bool (d.ks 4), .bool (d.ks 5)]
def dnC (l : List Dn) : List Value := l.flatMap dCs
theorem dnC_snoc (l : List Dn) (d : Dn) : dnC (l ++ [d]) = dnC l ++ dCs d := by simp [dnC]
theorem dnC_get : ∀ (l : List Dn) (i : Nat) (d : Dn) (j : Nat), l[i]? = some d → j < 8 → (dnC l)[i * 8 + j]? = (dCs d)[j]?
  | [], _, _, _, h, _ => by cases h
  | e :: l, 0, d, j, h, hj => by
    injection h with h; subst h
    show (dCs e ++ dnC l)[0 * 8 + j]? = _
    rw [Nat.zero_mul, Nat.zero_add, List.getElem?_append_left (by show j < 8; exact hj)]
  | e :: l, i + 1, d, j, h, hj => by
    show (dCs e ++ dnC l)[(i + 1) * 8 + j]? = _
    rw [List.getElem?_append_right (by show 8 ≤ _; omega)]
    have : (i + 1) * 8 + j - (dCs e).length = i * 8 + j := by show (i + 1) * 8 + j - 8 = _; omega
    rw [this]
    exact dnC_get l i d j h hj
theorem own_same {w w' : World} {b sz n : Nat} {t : TypeId} {v : Value} {xs : List Value} (h : w.ownsRow b t sz v n xs) (hs : ∀ g, v.ownBlock = some g → w'.heap[g]? = w.heap[g]?) : w'.ownsRow b t sz v n xs := by
  refine ⟨h.1, ?_⟩
  rcases h.2 with e | ⟨g, cap, cur, e, hb, hg, r⟩
  · exact .inl e
  · exact .inr ⟨g, cap, cur, e, hb, by rw [hs g (by rw [e]; rfl)]; exact hg, r⟩
section
variable {f f' : Fr} {w w' : World} {qb hb mb nq : Nat} {m : Mg} {L : HL} {q : Mo} {A : Nat → Sx} {F : Nat → Prop}
theorem SeIn.rebase {s : Se} {a : Sx} (h : SeIn f w F s a) (hw : f'.w = f.w) : SeIn f' w F s a := by
  have e : f'.heap.size = f.heap.size := by show f'.w.heap.size = f.w.heap.size; rw [hw]
  exact ⟨by rw [e]; exact h.on, h.onf, by rw [e]; exact h.ps, h.psf, by rw [e]; exact h.ws, h.wsf⟩
theorem LW.rebase (h : LW f w qb hb mb nq m L q A F) (hw : f'.w = f.w) (hG : ∀ i, f'.G i → F i ∧ w.heap[i]? = f'.S.heap[i]?) : LW f' w qb hb mb nq m L q A F := by
  have e : f'.heap.size = f.heap.size := by show f'.w.heap.size = f.w.heap.size; rw [hw]
  exact ⟨h.hs, fun i hi => hi.elim (fun hi => h.f0 i (.inl (by rw [← e]; exact hi))) (fun hi => (hG i hi).1), h.fq, by rw [e]; exact h.q0, h.bk, h.ln, fun k s hs => (h.se k s hs).rebase hw, h.bd, h.ap, ⟨by rw [hw]; exact h.t.t, fun i hi => (hG i hi).2⟩⟩
theorem LW.side {S : Nat → Prop} (h : LW f w qb hb mb nq m L q A F) (hG : ∀ i, ¬ f.G i) (t : Tch S w w') (hS : ∀ i, S i → F i ∧ f.heap.size ≤ i ∧ ∃ cs ty, w.heap[i]? = some (.cells cs ty (0, 0)) ∧ ty ≠ 109 ∧ ty ≠ 73 ∧ ty ≠ 43 ∧ ty ≠ 3) :
    LW f w' qb hb mb nq m L q A (fun i => F i ∨ w.heap.size ≤ i ∧ i < w'.heap.size) := by
  have hq : ¬ S qb := fun e => by
    obtain ⟨_, _, cs, ty, h1, _, _, h2, _⟩ := hS qb e
    rw [h.bk] at h1
    injection h1 with h1
    injection h1 with _ h1
    exact h2 h1.symm
  have hno : ∀ {b sz n : Nat} {ty : TypeId} {v : Value} {xs : List Value}, w.ownsRow b ty sz v n xs → (ty = 109 ∨ ty = 73 ∨ ty = 3) → ∀ g, v.ownBlock = some g → ¬ S g := fun ho hty g e hs => by
    obtain ⟨_, _, cs, t2, h1, n1, n2, _, n3⟩ := hS g hs
    obtain ⟨cur, hc⟩ := own_blk ho e
    rw [hc] at h1
    injection h1 with h1
    injection h1 with _ h1
    rcases hty with e | e | e
    · exact n1 (h1.symm.trans e)
    · exact n2 (h1.symm.trans e)
    · exact n3 (h1.symm.trans e)
  refine ⟨h.hs.freshS t (fun i hi e => (hS i e).1), fun i hi => .inl (h.f0 i hi), .inl h.fq, h.q0, (t.block qb (blk_lt h.bk) hq).trans h.bk, h.ln, fun k s hs => ?_, h.bd, h.ap, h.t.trans t (fun i hi e => by have := (hS i e).2.1; omega) (fun i hi => absurd hi (hG i))⟩
  have hI := h.se k s hs
  exact SeIn.mono (F := F) ⟨own_tch hI.on t (hno hI.on (.inr (.inr rfl))), hI.onf, own_tch hI.ps t (hno hI.ps (.inl rfl)), hI.psf, own_tch hI.ws t (hno hI.ws (.inr (.inl rfl))), hI.wsf⟩ (fun _ e => .inl e)
end
end Go.Proofs.YtokgihmigkplaaaGreat.F
namespace Go.Proofs.YtokgihmigkplaaaGreat.F
open Go.RowKit Go Go.Sort Go.Maps
def mo0 : Mo := ⟨[se0, se0, se0, se0, se0], [0, 0, 0, 0, 0, 0], [0, 0, 0, 0, 0, 0], 0⟩
def fr0 (w : World) : Fr := ⟨w, w, fun _ => False, fun _ h => h.elim⟩
theorem model_st (w : World) : Calls Tryz.prog 6 #[] w fun x w' => ∃ qb hb mb, x = .returned (.pointer (some ⟨qb, 0, none⟩)) ∧ w.heap.size ≤ qb ∧ St w w' hb mb ⟨1, [], []⟩ [] 0 [(qb, .cells (moC mo0 mb hb (fun _ => sx0)).toArray 43 (0, 0))] := by
  have qN := new_ok 1 w (by omega) (by omega)
  go_enter Tryz.func6, Tryz.ntmps6
  go_wp2_with fail
  refine qN.mono ?_
  rintro x w1 ⟨⟨mb, rfl, hmb, hM⟩, t1⟩
  clear qN
  have hM1 := hM (fun i => i < w.heap.size) (fun _ h => h)
  have qH := mnew_any mb ⟨1, [], []⟩ w1 _ hM1
  clear hM hM1
  go_wp2_with fail
  refine qH.mono ?_
  rintro x w2 ⟨⟨hb, rfl, hhb, hS⟩, t2⟩
  clear qH
  have ST2 : Hid (St w w2 hb mb ⟨1, [], []⟩ [] 0 []) := St.first hS (t1.trans' t2)
  clear hS t1 t2 hmb hhb
  go_wp2
  go_ret
  have st := ST2.out.alloc (.cells ((Tryz.zeroCells43.setIfInBounds 0 (.pointer (some ⟨mb, 0, none⟩))).setIfInBounds 1 (.pointer (some ⟨hb, 0, none⟩))) 43)
  exact ⟨w2.heap.size, hb, mb, rfl, ST2.out.tch.size, st⟩
theorem wf0 : Wf ⟨1, [], []⟩ :=
  ⟨by decide, by decide, (nofun), (nofun), (nofun), (nofun), (nofun), List.Pairwise.nil, List.Pairwise.nil, (nofun), rfl⟩
theorem se0_at {k : Nat} {s : Se} (h : mo0.l[k]? = some s) : s = se0 := by
  have hk := (List.getElem?_eq_some_iff.1 h).1
  have hk : k < 5 := hk
  rcases (by omega : k = 0 ∨ k = 1 ∨ k = 2 ∨ k = 3 ∨ k = 4) with rfl | rfl | rfl | rfl | rfl <;> (injection h with h; exact h.symm)
theorem n6_zero {κ : Nat} (h : κ < 6) : ([0, 0, 0, 0, 0, 0] : List Nat).getD κ 0 = 0 := by
  rcases (by omega : κ = 0 ∨ κ = 1 ∨ κ = 2 ∨ κ = 3 ∨ κ = 4 ∨ κ = 5) with rfl | rfl | rfl | rfl | rfl | rfl <;> rfl
theorem inv0 : Inv ⟨1, [], []⟩ mo0 (fun _ => []) (fun _ => 0) := by
  have hc : ∀ {k : Nat} {s : Se}, mo0.l[k]? = some s → s.op = true → False := fun h ho => by
    rw [se0_at h] at ho; cases ho
  refine ⟨wf0, rfl, fun k s hs ho => (hc hs ho).elim, fun k s hs ho => (hc hs ho).elim, fun k k' s s' hs _ ho => (hc hs ho).elim, (nofun), fun k s hs ho => (hc hs ho).elim, fun κ hκ => ⟨[], none, ?_⟩⟩
  exact ⟨(nofun), rfl, (nofun), (nofun), fun k s hs ho => (hc hs ho).elim, n6_zero hκ, n6_zero hκ, List.Pairwise.nil, fun k s hs ho => (hc hs ho).elim⟩
theorem sb0 : SB 0 0 ⟨1, [], []⟩ mo0 :=
  ⟨Nat.le_refl _, Nat.le_refl _, Nat.le_refl _, Nat.le_refl _, fun κ hκ => by show ([0, 0, 0, 0, 0, 0] : List Nat).getD κ 0 ≤ 1000; rw [n6_zero hκ]; omega, fun κ hκ => by show ([0, 0, 0, 0, 0, 0] : List Nat).getD κ 0 ≤ 0; rw [n6_zero hκ]; exact Nat.le_refl _, fun k s hs => by rw [se0_at hs]; exact ⟨Nat.le_refl _, Nat.zero_le _, Nat.le_refl _⟩⟩
theorem hk0 : HK [] (fun _ => []) := ⟨fun _ _ => rfl, (nofun)⟩
theorem al0 : AL mo0 (fun _ => 0) [] 0 :=
  ⟨fun _ => Nat.le_refl _, (nofun), (nofun), (nofun)⟩
theorem lw0 {w w' : World} {qb hb mb : Nat} (hq : w.heap.size ≤ qb) (h : St w w' hb mb ⟨1, [], []⟩ [] 0 [(qb, .cells (moC mo0 mb hb (fun _ => sx0)).toArray 43 (0, 0))]) : ∃ F, LW (fr0 w) w' qb hb mb 0 ⟨1, [], []⟩ [] mo0 (fun _ => sx0) F := by
  obtain ⟨F, h1, h2, h3, h4⟩ := h
  obtain ⟨b1, b2⟩ := h3 _ List.mem_cons_self
  refine ⟨F, h1, fun i hi => hi.elim (h2 i) (fun e => e.elim), b2, hq, b1, rfl, fun k s hs => ?_, fun k s hs => ?_, fun k k' hne h5 h5' a a' => ⟨(nofun), (nofun)⟩, ⟨h4, fun i hi => hi.elim⟩⟩
  · rw [se0_at hs]; exact se0_in _ _ _
  · rw [se0_at hs]; exact se0_bd
end Go.Proofs.YtokgihmigkplaaaGreat.F
namespace Go.Proofs.YtokgihmigkplaaaGreat.F
open Go.RowKit Go Go.Sort
set_option maxRecDepth 100000
def bgC (bg : Nat → Nat) : Array Value := #[.int .i64 (bg 0), .int .i64 (bg 1), .int .i64 (bg 2), .int .i64 (bg 3), .int .i64 (bg 4)]
theorem bgC_set (bg : Nat → Nat) {k : Nat} (hk : k < 5) (n : Nat) : (bgC bg).setIfInBounds k (.int .i64 n) = bgC (fun j => if j = k then n else bg j) := by
  rcases (by omega : k = 0 ∨ k = 1 ∨ k = 2 ∨ k = 3 ∨ k = 4) with rfl | rfl | rfl | rfl | rfl <;> rfl
theorem bgC_get (bg : Nat → Nat) {k : Nat} (hk : k < 5) : (bgC bg)[k]? = some (.int .i64 (bg k)) := by
  rcases (by omega : k = 0 ∨ k = 1 ∨ k = 2 ∨ k = 3 ∨ k = 4) with rfl | rfl | rfl | rfl | rfl <;> rfl
structure LB (w1 W : World) (qb hb mb gb i : Nat) (ao : Option Addr) (ac ln : Nat) (cs : List Value) (bg : Nat → Nat) (nq : Nat) (m : Mg) (L : HL) (q : Mo) (A : Nat → Sx) (F : Nat → Prop) (K : Nat → List Vn) (σ : Nat → Nat) : Prop where
  lw : LW (fr0 w1) W qb hb mb nq m L q A F
  inv : Inv m q K σ
  hk : HK L K
  sb : SB i nq m q
  gf : F gb
  gl : w1.heap.size ≤ gb
  g : W.heap[gb]? = some (.cells (bgC bg) 27 (0, 0))
  ow : W.ownsRow w1.heap.size 47 8 (.slice ao ln ac) ln cs
  of : ∀ g, (Value.slice ao ln ac).ownBlock = some g → F g
section
variable {w1 W W' : World} {qb hb mb gb i : Nat} {ao : Option Addr} {ac ln : Nat} {cs : List Value} {bg : Nat → Nat} {nq : Nat} {m : Mg} {L : HL} {q : Mo} {A : Nat → Sx} {F : Nat → Prop} {K : Nat → List Vn} {σ : Nat → Nat}
theorem LB.no (h : LB w1 W qb hb mb gb i ao ac ln cs bg nq m L q A F K σ) (t : Tch (fun _ => False) W W') : LB w1 W' qb hb mb gb i ao ac ln cs bg nq m L q A F K σ :=
  ⟨h.lw.no t, h.inv, h.hk, h.sb, h.gf, h.gl, (t.block _ (blk_lt h.g) (fun e => e)).trans h.g, own_tch h.ow t (fun _ _ e => e), h.of⟩
theorem LB.began (h : LB w1 W qb hb mb gb i ao ac ln cs bg nq m L q A F K σ) {k : Nat} (hk : k < 5) (n : Nat) : ∃ F', LB w1 (W.setCell ⟨gb, k, none⟩ (.int .i64 n)) qb hb mb gb i ao ac ln cs (fun j => if j = k then n else bg j) nq m L q A F' K σ := by
  have t : Tch (fun i => i = gb) W (W.setCell ⟨gb, k, none⟩ (.int .i64 n)) := Tch.setCell _ _ _ _ rfl
  refine ⟨_, h.lw.side (fun _ e => e) t (fun j e => ?_), h.inv, h.hk, h.sb, .inl h.gf, h.gl, ?_, own_tch h.ow t (fun g e e2 => ?_), fun g e => .inl (h.of g e)⟩
  · rw [e]
    exact ⟨h.gf, h.gl, _, _, h.g, by decide, by decide, by decide, by decide⟩
  · rw [← bgC_set bg hk]
    exact blk_set h.g _
  · rw [e2] at e
    exact row_ne h.ow h.g (by decide) e rfl
theorem LB.grown (h : LB w1 W qb hb mb gb i ao ac ln cs bg nq m L q A F K σ) {ao' : Option Addr} {ac' ln' : Nat} {cs' : List Value} (ho : W'.ownsRow w1.heap.size 47 8 (.slice ao' ln' ac') ln' cs') (t : Tch (fun i => (Value.slice ao ln ac).ownBlock = some i) W W') (hat : (Value.slice ao' ln' ac').ownBlock = (Value.slice ao ln ac).ownBlock ∨ (Value.slice ao' ln' ac').ownBlock = some W.heap.size) :
    ∃ F', LB w1 W' qb hb mb gb i ao' ac' ln' cs' bg nq m L q A F' K σ := by
  refine ⟨_, h.lw.side (fun _ e => e) t (fun j e => ?_), h.inv, h.hk, h.sb, .inl h.gf, h.gl, ?_, ho, fun g e => ?_⟩
  · obtain ⟨cur, hc⟩ := own_blk h.ow e
    exact ⟨h.of j e, row_ge h.ow e, _, _, hc, by decide, by decide, by decide, by decide⟩
  · exact (t.block gb (blk_lt h.g) (fun e => row_ne h.ow h.g (by decide) e rfl)).trans h.g
  · rcases hat with e2 | e2
    · exact .inl (h.of g (e2.symm.trans e))
    · rw [e] at e2
      injection e2 with e2
      obtain ⟨cur, hc⟩ := own_blk ho e
      exact .inr ⟨by omega, blk_lt hc⟩
theorem LB.does (h : LB w1 W qb hb mb gb i ao ac ln cs bg nq m L q A F K σ) (hi : i < 200) {kind who key n : Int} (hki : -9223372036854775808 ≤ kind ∧ kind ≤ 9223372036854775807) (hwi : -9223372036854775808 ≤ who ∧ who ≤ 9223372036854775807) (hke : -9223372036854775808 ≤ key ∧ key ≤ 9223372036854775807) (hni : -9223372036854775808 ≤ n ∧ n ≤ 9223372036854775807) {s : Se} (hs : q.l[pkN who 5]? = some s) (t : Tch (fun _ => False) W W') :
    Calls Tryz.prog 8 #[.pointer (some ⟨qb, 0, none⟩), actV kind who key n] W' fun x w5 => x = .returned (.bool true) ∧ ∃ nq' m' L' q' A' F' K' σ', LB w1 w5 qb hb mb gb (i + 1) ao ac ln cs bg nq' m' L' q' A' F' K' σ' ∧ StQ q q' (pkN who 5) (pkN kind 12) s ∧
      (∀ (r : Nat) (cr : Array Value) (ty : TypeId), W.heap.size ≤ r → W'.heap[r]? = some (.cells cr ty (0, 0)) → ty ≠ 109 → ty ≠ 73 → ty ≠ 43 → w5.heap[r]? = some (.cells cr ty (0, 0))) ∧
      (pkN kind 12 = 1 → s.op = true → ∀ r, w5.heap[r]? = some (.cells (seC s (A (pkN who 5))).toArray 38 (0, 0)) → SR w5 r 0 s (A (pkN who 5))) := by
  obtain ⟨F4, hF4⟩ : ∃ F4 : Nat → Prop, F4 = fun i => F i ∨ W.heap.size ≤ i ∧ i < W'.heap.size := ⟨_, rfl⟩
  have h4 : LW (fr0 w1) W' qb hb mb nq m L q A F4 := by rw [hF4]; exact h.lw.fresh t
  obtain ⟨f1, hf1⟩ : ∃ f1 : Fr, f1 = ⟨w1, W', fun i => F4 i ∧ Gd W' i, fun i hi => hi.2⟩ := ⟨_, rfl⟩
  have h5 : LW f1 W' qb hb mb nq m L q A F4 := h4.rebase (by rw [hf1]; rfl) (fun i hi => by
    rw [hf1] at hi ⊢
    exact ⟨hi.1, rfl⟩)
  refine (does_step h5 h.inv h.hk h.sb hi hki hwi hke hni hs).mono ?_
  rintro x w5 ⟨b, rfl, rfl, nq', m', L', q', A', F', K', σ', hl, hI, hK, hB, hQ, hS⟩
  have hkeep : ∀ j, F4 j → Gd W' j → w5.heap[j]? = W'.heap[j]? ∧ F' j := fun j h1 h2 => by
    have hj : f1.G j := by rw [hf1]; exact ⟨h1, h2⟩
    have e := hl.t.z j hj
    rw [hf1] at e
    exact ⟨e, hl.f0 j (.inr hj)⟩
  have hg4 : W'.heap[gb]? = some (.cells (bgC bg) 27 (0, 0)) := (t.block _ (blk_lt h.g) (fun e => e)).trans h.g
  have ho4 := own_tch h.ow t (fun _ _ e => e)
  have hgb := hkeep gb (by rw [hF4]; exact .inl h.gf) ⟨_, _, hg4, by decide, by decide, by decide⟩
  have hown : ∀ g, (Value.slice ao ln ac).ownBlock = some g → w5.heap[g]? = W'.heap[g]? ∧ F' g := fun g e => by
    obtain ⟨cur, hc⟩ := own_blk ho4 e
    exact hkeep g (by rw [hF4]; exact .inl (h.of g e)) ⟨_, _, hc, by decide, by decide, by decide⟩
  refine ⟨rfl, nq', m', L', q', A', F', K', σ', ⟨hl.rebase (by rw [hf1]; rfl) (fun _ e => e.elim), hI, hK, hB, hgb.2, h.gl, hgb.1.trans hg4, own_same ho4 (fun g e => (hown g e).1), fun g e => (hown g e).2⟩, hQ, fun r cr ty hr hc n1 n2 n3 => ?_, fun hkd hop r hr => ?_⟩
  · exact (hkeep r (by rw [hF4]; exact .inr ⟨hr, blk_lt hc⟩) ⟨_, _, hc, n1, n2, n3⟩).1.trans hc
  · refine (hS hkd hop).sr (h.lw.bd _ s hs) (blk_lt hr) (fun j u hu => ?_)
    rw [blk_cell hr, Nat.zero_add, List.getElem?_toArray]; exact hu
end
end Go.Proofs.YtokgihmigkplaaaGreat.F
namespace Go.Proofs.YtokgihmigkplaaaGreat
open Go.RowKit Go Go.Sort Go.Maps
abbrev mg0 : Mg := ⟨1, [], []⟩
abbrev mg1 : Mg := ⟨2, [1], [⟨1, 1, []⟩]⟩
abbrev mg2 : Mg := ⟨3, [1, 2], [⟨1, 1, []⟩, ⟨2, 1, []⟩]⟩
abbrev aw3 : Mg := ⟨3, [2], [⟨1, 3, []⟩, ⟨2, 1, []⟩]⟩
abbrev awV : Ver := ⟨1, true, 1, rowC 5⟩
abbrev awL : HL := [((7, [107]), [awV])]
theorem aw_i1 : insE mg1 1 1 [] 1 (chL [] 7 [107]) = 0 := rfl
theorem aw_i2 : insE mg2 1 2 [1] 2 (chL awL 7 [107]) = 92 := rfl
theorem aw_g1 : getV mg2 1 1 [] 1 (chL awL 7 [107]) = some awV := rfl
theorem aw_g2 : getV mg2 1 2 [1] 2 (chL awL 7 [107]) = none := rfl
theorem awake_any (w : World) : Calls Tryz.prog 5 #[] w fun x w' => x = .returned (.bool true) ∧ Tch (fun _ => False) w w' := by
  have qN := new_ok 1 w (by omega) (by omega)
  go_enter Tryz.func5, Tryz.ntmps5
  go_wp2_with fail
  refine qN.mono ?_
  rintro x w1 ⟨⟨mb, rfl, hmb, hM⟩, t1⟩
  clear qN
  have hM1 := hM (fun i => i < w.heap.size) (fun _ h => h)
  have qH := mnew_any mb mg0 w1 _ hM1
  clear hM hM1
  go_wp2_with fail
  refine qH.mono ?_
  rintro x w2 ⟨⟨hb, rfl, hhb, hS⟩, t2⟩
  clear qH
  have st2 : St w w2 hb mb mg0 [] 0 [] := St.first hS (t1.trans' t2)
  clear hS t1 t2 hmb hhb
  have qS := snap_s st2
  go_wp2_with fail
  refine qS.mono ?_
  rintro x w3 ⟨so, sc, nb, rfl, st3, t3, J1, I1⟩
  clear qS st2 t3
  simp only [List.nil_append, List.headD_nil, List.length_nil] at st3 ⊢
  have st4 := st3.alloc (.cells #[.int .i64 1, .int .i64 1, .slice so 0 sc] 33)
  obtain ⟨sb, hsb⟩ : ∃ sb, sb = w3.heap.size := ⟨_, rfl⟩
  obtain ⟨w4, hw4⟩ : ∃ w4, w4 = w3.alloc (.cells #[.int .i64 1, .int .i64 1, .slice so 0 sc] 33) := ⟨_, rfl⟩
  rw [← hw4, ← hsb] at st4
  obtain ⟨BX, hBX⟩ : ∃ BX, BX = nb ++ [(sb, Obj.cells #[.int .i64 1, .int .i64 1, .slice so 0 sc] 33 (0, 0))] := ⟨_, rfl⟩
  rw [← hBX] at st4
  have M1 : (sb, Obj.cells #[.int .i64 1, .int .i64 1, .slice so 0 sc] 33 (0, 0)) ∈ BX := by rw [hBX]; simp
  have N1 : ∀ p ∈ nb, p ∈ BX := fun p hp => by rw [hBX]; exact List.mem_append.2 (.inl hp)
  have J1' : ∀ a, so = some a → ∃ o, (a.block, o) ∈ BX := fun a ha => by obtain ⟨o, ho⟩ := J1 a ha; exact ⟨o, N1 _ ho⟩
  clear J1 hBX st3
  have qB : Calls Tryz.prog 17 #[.pointer (some ⟨mb, 0, none⟩)] w4 fun x w' => x = .returned (.tuple #[.int .i64 1, .int .i64 0]) ∧ St w w' hb mb mg1 [] 0 BX := begin_s st4 (by decide)
  rw [hw4] at qB
  have Hw4 : Hid _ := hw4
  clear hw4 st4
  go_wp2_with fail
  refine qB.mono ?_
  rw [← hsb]
  rintro x wA ⟨rfl, hst⟩
  clear qB Hw4 hsb
  have J1 := J1'
  go_wp2_with fail
  obtain ⟨C, hC⟩ : ∃ C : List Value → World → Prop, C = fun s W => match s with
    | [] => St w W hb mb mg1 [] 0 BX
    | [y] => St w W hb mb mg1 [] 0 BX ∧ ∃ g, y = .slice (some ⟨g, 0, none⟩) 1 1 ∧ RdR W (some ⟨g, 0, none⟩) 1 1 (rowC 5)
    | [_, x] => x = .int .i64 0 ∧ St w W hb mb mg1 awL (0 + 3) BX
    | _ => False := ⟨_, rfl⟩
  have hK : ∀ s W, C s W → W.cell? ⟨sb, 0, none⟩ = some (.int .i64 1) ∧ W.cell? ⟨sb, 1, none⟩ = some (.int .i64 1) ∧ W.cell? ⟨sb, 2, none⟩ = some (.slice so 0 sc) := fun s W hW => by
    rw [hC] at hW
    have hbb : W.heap[sb]? = some (.cells #[.int .i64 1, .int .i64 1, .slice so 0 sc] 33 (0, 0)) := by
      match s, hW with
      | [], hW => exact St.box hW M1
      | [_], hW => exact St.box hW.1 M1
      | [_, _], hW => exact St.box hW.2 M1
    exact ⟨by rw [blk_cell hbb]; rfl, by rw [blk_cell hbb]; rfl, by rw [blk_cell hbb]; rfl⟩
  have h0' : C [] wA.drew := by rw [hC]; exact hst.no (Tch.refl _ _).drew
  have c1 : ∀ W, C [] W → Calls Tryz.prog 19 #[.int .i64 5] W fun x W' => ∃ y, x = .returned y ∧ C [y] W' := fun W hW => by
    rw [hC] at hW ⊢
    refine (row_any 5 W).mono ?_
    rintro x W' ⟨rfl, rfl⟩
    exact ⟨_, rfl, St.no hW (Tch.alloc _ _ _), _, rfl, row_rd 5 W⟩
  have s1 : ∀ y W, C [y] W → ∃ g, y = .slice (some ⟨g, 0, none⟩) 1 1 := fun y W hW => by
    rw [hC] at hW
    obtain ⟨_, g, e, _⟩ := hW
    exact ⟨g, e⟩
  have c2 : ∀ y W, C [y] W → Calls Tryz.prog 18 #[.pointer (some ⟨hb, 0, none⟩), .agg #[.int .i64 1, .int .i64 1, .slice so 0 sc], .int .i64 1, .int .i64 7, .string ⟨#[107]⟩, y] W fun x W' => ∃ u, x = .returned u ∧ C [y, u] W' := fun y W hW => by
    rw [hC] at hW ⊢
    obtain ⟨h1, g, rfl, h2⟩ := hW
    have q := insert_s h1 (by omega) 7 (by omega) (by omega) ⟨#[107]⟩ (by decide) 1 1 [] so sc 1 (by omega) (by omega) (by simp) (I1 W (fun p hp => St.box h1 (N1 p hp))) J1 _ 1 1 _ h2
    rw [show (⟨#[107]⟩ : ByteArray).data.toList = [107] from rfl, aw_i1] at q
    refine Calls.mono q ?_
    rintro x W' ⟨rfl, h3⟩
    exact ⟨_, rfl, rfl, h3⟩
  have HF : Hid (∀ y u W, C [y, u] W → u = .int .i64 0 ∧ St w W hb mb mg1 awL (0 + 3) BX) := fun y u W hW => by
    rw [hC] at hW
    exact hW
  clear hC
  refine wp_region_ordv [3, 4] C 5 [0, 1, 2, 3, 4] (by kernel_rfl) (by kernel_rfl) h0' ?_
  clear h0'
  refine ordv_read rfl (by go_simp) (by rfl) ?_
  apply Exists.intro
  refine ⟨fun s' W hW b K Q hK' => ?_, fun K hK' => ?_⟩
  · obtain ⟨q0, q1, q2⟩ := hK _ W hW
    go_simp
    exact hK' W hW
  go_simp
  refine hK' _ ?_
  clear hK' K
  refine ordv_read rfl (by go_simp) (by rfl) ?_
  apply Exists.intro
  refine ⟨fun s' W hW b K Q hK' => ?_, fun K hK' => ?_⟩
  · obtain ⟨q0, q1, q2⟩ := hK _ W hW
    go_simp
    exact hK' W hW
  go_simp
  refine hK' _ ?_
  clear hK' K
  refine ordv_read rfl (by go_simp) (by rfl) ?_
  apply Exists.intro
  refine ⟨fun s' W hW b K Q hK' => ?_, fun K hK' => ?_⟩
  · obtain ⟨q0, q1, q2⟩ := hK _ W hW
    go_simp
    exact hK' W hW
  go_simp
  refine hK' _ ?_
  clear hK' K
  refine ordv_turn rfl (by go_simp) (by rfl) (fun W hW b K Q hK' => ?_) (fun u hu K hK' => ?_)
  · go_simp
    go_at_call 19
    refine (c1 W hW).mono ?_
    rintro x w' ⟨y, rfl, h1⟩
    exact hK' y w' h1
  obtain ⟨g9, rfl⟩ : ∃ g, u = .slice (some ⟨g, 0, none⟩) 1 1 := by
    obtain ⟨W', hW'⟩ := hu
    exact s1 u W' hW'
  clear hu c1 s1
  go_simp
  refine hK' _ ?_
  clear hK' K
  refine ordv_turn rfl (by go_simp) (by rfl) (fun W hW b K Q hK' => ?_) (fun u hu K hK' => ?_)
  · go_simp
    go_at_call 18
    refine (c2 _ W hW).mono ?_
    rintro x w' ⟨y, rfl, h1⟩
    exact hK' y w' h1
  obtain rfl : u = .int .i64 0 := by
    obtain ⟨W', hW'⟩ := hu
    exact (HF.out _ u W' hW').1
  clear hu c2
  go_simp
  refine hK' _ ?_
  clear hK' K
  refine ordv_nil ?_
  intro wB hwB
  have hstB := (HF.out _ _ wB hwB).2
  clear hK HF hwB C
  clear hst
  have qS := snap_s hstB
  go_wp2_with fail
  refine qS.mono ?_
  rintro x w5 ⟨so2, sc2, nb2, rfl, st5, t5, J2, I2⟩
  clear qS hstB t5
  simp only [List.headD_cons, List.length_cons, List.length_nil] at st5 ⊢
  have st6 := st5.alloc (.cells #[.int .i64 1, .int .i64 2, .slice so2 1 sc2] 33)
  obtain ⟨sb2, hsb2⟩ : ∃ sb2, sb2 = w5.heap.size := ⟨_, rfl⟩
  rw [← hsb2] at st6
  obtain ⟨BX2, hBX2⟩ : ∃ BX2, BX2 = BX ++ nb2 ++ [(sb2, Obj.cells #[.int .i64 1, .int .i64 2, .slice so2 1 sc2] 33 (0, 0))] := ⟨_, rfl⟩
  rw [← hBX2] at st6
  have M2 : (sb2, Obj.cells #[.int .i64 1, .int .i64 2, .slice so2 1 sc2] 33 (0, 0)) ∈ BX2 := by rw [hBX2]; simp
  have N2 : ∀ p ∈ nb2, p ∈ BX2 := fun p hp => by rw [hBX2]; simp [hp]
  have N12 : ∀ p ∈ BX, p ∈ BX2 := fun p hp => by rw [hBX2]; simp [hp]
  have J2' : ∀ a, so2 = some a → ∃ o, (a.block, o) ∈ BX2 := fun a ha => by obtain ⟨o, ho⟩ := J2 a ha; exact ⟨o, N2 _ ho⟩
  clear J2 hBX2 st5
  have qB : Calls Tryz.prog 17 #[.pointer (some ⟨mb, 0, none⟩)] (w5.alloc (.cells #[.int .i64 1, .int .i64 2, .slice so2 1 sc2] 33)) fun x w' => x = .returned (.tuple #[.int .i64 2, .int .i64 0]) ∧ St w w' hb mb mg2 awL 3 BX2 := begin_s st6 (by decide)
  go_wp2_with fail
  refine qB.mono ?_
  rw [← hsb2]
  rintro x w7 ⟨rfl, st7⟩
  clear qB st6 hsb2
  have J2 := J2'
  have r1 := st7.box (N12 _ M1)
  have a0 : w7.cell? ⟨sb, 0, none⟩ = some (.int .i64 1) := by rw [blk_cell r1]; rfl
  have a1 : w7.cell? ⟨sb, 1, none⟩ = some (.int .i64 1) := by rw [blk_cell r1]; rfl
  have a2 : w7.cell? ⟨sb, 2, none⟩ = some (.slice so 0 sc) := by rw [blk_cell r1]; rfl
  obtain ⟨F7, hs7⟩ := st7.hs
  have qG := get_f hs7 (by omega) 7 (by omega) (by omega) ⟨#[107]⟩ (by decide) 1 1 [] so sc 1 (by omega) (by omega) (by simp) (I1 w7 (fun p hp => st7.box (N12 _ (N1 _ hp))))
  rw [show (⟨#[107]⟩ : ByteArray).data.toList = [107] from rfl, aw_g1] at qG
  have ST7 : Hid (St w w7 hb mb mg2 awL 3 BX2) := st7
  clear r1 hs7 st7
  go_wp2_with fail
  refine qG.mono ?_
  rintro x w8 ⟨⟨ro8, rc8, rfl, ho8⟩, t8⟩
  have st8 := ST7.out.no t8
  obtain ⟨g8, cap8, cur8, e8, gg8, hg8, p81, p82, p83, p84⟩ := ho8.2.resolve_left (fun h => by cases h.2)
  cases e8
  have st8' := ST7.out.add t8 [(g8, .cells cur8 89 (0, 0))] (fun p hp => by obtain rfl := List.mem_singleton.1 hp; exact ⟨gg8, hg8⟩)
  obtain ⟨BX3, hBX3⟩ : ∃ BX3, BX3 = BX2 ++ [(g8, Obj.cells cur8 89 (0, 0))] := ⟨_, rfl⟩
  rw [← hBX3] at st8'
  have N23 : ∀ p ∈ BX2, p ∈ BX3 := fun p hp => by rw [hBX3]; simp [hp]
  have HR8 : Hid (∀ W : World, W.heap[g8]? = some (.cells cur8 89 (0, 0)) → RdR W (some ⟨g8, 0, none⟩) 1 rc8 (rowC 5)) := fun W hW => RdR.of_own (base := w7.heap.size) ⟨ho8.1, .inr ⟨g8, _, cur8, rfl, gg8, hW, p81, p82, p83, p84⟩⟩ (by simp [rowC, Value.oneCell']) (by omega)
  have M8 : (g8, Obj.cells cur8 89 (0, 0)) ∈ BX3 := by rw [hBX3]; simp
  clear ho8 t8 st8 hg8 p81 p82 p83 p84 gg8 qG a0 a1 a2 ST7 hBX3
  have r2 := st8'.box (N23 _ M2)
  have b0 : w8.cell? ⟨sb2, 0, none⟩ = some (.int .i64 1) := by rw [blk_cell r2]; rfl
  have b1 : w8.cell? ⟨sb2, 1, none⟩ = some (.int .i64 2) := by rw [blk_cell r2]; rfl
  have b2 : w8.cell? ⟨sb2, 2, none⟩ = some (.slice so2 1 sc2) := by rw [blk_cell r2]; rfl
  obtain ⟨F8, hs8⟩ := st8'.hs
  have qG := get_f hs8 (by omega) 7 (by omega) (by omega) ⟨#[107]⟩ (by decide) 1 2 [1] so2 sc2 2 (by omega) (by omega) (by simp) (I2 w8 (fun p hp => st8'.box (N23 _ (N2 _ hp))))
  rw [show (⟨#[107]⟩ : ByteArray).data.toList = [107] from rfl, aw_g2] at qG
  simp only [List.length_cons, List.length_nil, Nat.zero_add] at qG
  have ST8 : Hid (St w w8 hb mb mg2 awL 3 BX3) := st8'
  clear r2 hs8 st8'
  go_wp2_with fail
  refine qG.mono ?_
  rintro x wA ⟨rfl, t9⟩
  have hst := ST8.out.no t9
  clear t9 qG b0 b1 b2 ST8
  obtain ⟨BXo, hBXo⟩ : ∃ BXo, BXo = BX := ⟨_, rfl⟩
  obtain ⟨Mo2, No2, Jo2⟩ : ((sb2, Obj.cells #[.int .i64 1, .int .i64 2, .slice so2 1 sc2] 33 (0, 0)) ∈ BX3) ∧ (∀ p ∈ nb2, p ∈ BX3) ∧ (∀ a, so2 = some a → ∃ o, (a.block, o) ∈ BX3) := ⟨N23 _ M2, fun p hp => N23 _ (N2 p hp), fun a ha => by obtain ⟨o, ho⟩ := J2 a ha; exact ⟨o, N23 _ ho⟩⟩
  clear M1 N1 J1 J1' I1 N12 M2 N2 J2 J2' N23 hBXo BXo
  obtain ⟨M2, N2, J2⟩ := And.intro Mo2 (And.intro No2 Jo2)
  go_wp2_with fail
  obtain ⟨C, hC⟩ : ∃ C : List Value → World → Prop, C = fun s W => match s with
    | [] => St w W hb mb mg2 awL 3 BX3
    | [y] => St w W hb mb mg2 awL 3 BX3 ∧ ∃ g, y = .slice (some ⟨g, 0, none⟩) 1 1 ∧ RdR W (some ⟨g, 0, none⟩) 1 1 (rowC 6)
    | [_, x] => x = .int .i64 92 ∧ St w W hb mb mg2 awL (3 + 3) BX3
    | _ => False := ⟨_, rfl⟩
  have hK : ∀ s W, C s W → W.cell? ⟨sb2, 0, none⟩ = some (.int .i64 1) ∧ W.cell? ⟨sb2, 1, none⟩ = some (.int .i64 2) ∧ W.cell? ⟨sb2, 2, none⟩ = some (.slice so2 1 sc2) := fun s W hW => by
    rw [hC] at hW
    have hbb : W.heap[sb2]? = some (.cells #[.int .i64 1, .int .i64 2, .slice so2 1 sc2] 33 (0, 0)) := by
      match s, hW with
      | [], hW => exact St.box hW M2
      | [_], hW => exact St.box hW.1 M2
      | [_, _], hW => exact St.box hW.2 M2
    exact ⟨by rw [blk_cell hbb]; rfl, by rw [blk_cell hbb]; rfl, by rw [blk_cell hbb]; rfl⟩
  have h0' : C [] wA.drew := by rw [hC]; exact hst.no (Tch.refl _ _).drew
  have c1 : ∀ W, C [] W → Calls Tryz.prog 19 #[.int .i64 6] W fun x W' => ∃ y, x = .returned y ∧ C [y] W' := fun W hW => by
    rw [hC] at hW ⊢
    refine (row_any 6 W).mono ?_
    rintro x W' ⟨rfl, rfl⟩
    exact ⟨_, rfl, St.no hW (Tch.alloc _ _ _), _, rfl, row_rd 6 W⟩
  have s1 : ∀ y W, C [y] W → ∃ g, y = .slice (some ⟨g, 0, none⟩) 1 1 := fun y W hW => by
    rw [hC] at hW
    obtain ⟨_, g, e, _⟩ := hW
    exact ⟨g, e⟩
  have c2 : ∀ y W, C [y] W → Calls Tryz.prog 18 #[.pointer (some ⟨hb, 0, none⟩), .agg #[.int .i64 1, .int .i64 2, .slice so2 1 sc2], .int .i64 2, .int .i64 7, .string ⟨#[107]⟩, y] W fun x W' => ∃ u, x = .returned u ∧ C [y, u] W' := fun y W hW => by
    rw [hC] at hW ⊢
    obtain ⟨h1, g, rfl, h2⟩ := hW
    have q := insert_s h1 (by omega) 7 (by omega) (by omega) ⟨#[107]⟩ (by decide) 1 2 [1] so2 sc2 2 (by omega) (by omega) (by simp) (I2 W (fun p hp => St.box h1 (N2 p hp))) J2 _ 1 1 _ h2
    rw [show (⟨#[107]⟩ : ByteArray).data.toList = [107] from rfl, aw_i2] at q
    refine Calls.mono q ?_
    rintro x W' ⟨rfl, h3⟩
    exact ⟨_, rfl, rfl, h3⟩
  have HF : Hid (∀ y u W, C [y, u] W → u = .int .i64 92 ∧ St w W hb mb mg2 awL (3 + 3) BX3) := fun y u W hW => by
    rw [hC] at hW
    exact hW
  clear hC
  refine wp_region_ordv [3, 4] C 5 [0, 1, 2, 3, 4] (by kernel_rfl) (by kernel_rfl) h0' ?_
  clear h0'
  refine ordv_read rfl (by go_simp) (by rfl) ?_
  apply Exists.intro
  refine ⟨fun s' W hW b K Q hK' => ?_, fun K hK' => ?_⟩
  · obtain ⟨q0, q1, q2⟩ := hK _ W hW
    go_simp
    exact hK' W hW
  go_simp
  refine hK' _ ?_
  clear hK' K
  refine ordv_read rfl (by go_simp) (by rfl) ?_
  apply Exists.intro
  refine ⟨fun s' W hW b K Q hK' => ?_, fun K hK' => ?_⟩
  · obtain ⟨q0, q1, q2⟩ := hK _ W hW
    go_simp
    exact hK' W hW
  go_simp
  refine hK' _ ?_
  clear hK' K
  refine ordv_read rfl (by go_simp) (by rfl) ?_
  apply Exists.intro
  refine ⟨fun s' W hW b K Q hK' => ?_, fun K hK' => ?_⟩
  · obtain ⟨q0, q1, q2⟩ := hK _ W hW
    go_simp
    exact hK' W hW
  go_simp
  refine hK' _ ?_
  clear hK' K
  refine ordv_turn rfl (by go_simp) (by rfl) (fun W hW b K Q hK' => ?_) (fun u hu K hK' => ?_)
  · go_simp
    go_at_call 19
    refine (c1 W hW).mono ?_
    rintro x w' ⟨y, rfl, h1⟩
    exact hK' y w' h1
  obtain ⟨g9, rfl⟩ : ∃ g, u = .slice (some ⟨g, 0, none⟩) 1 1 := by
    obtain ⟨W', hW'⟩ := hu
    exact s1 u W' hW'
  clear hu c1 s1
  go_simp
  refine hK' _ ?_
  clear hK' K
  refine ordv_turn rfl (by go_simp) (by rfl) (fun W hW b K Q hK' => ?_) (fun u hu K hK' => ?_)
  · go_simp
    go_at_call 18
    refine (c2 _ W hW).mono ?_
    rintro x w' ⟨y, rfl, h1⟩
    exact hK' y w' h1
  obtain rfl : u = .int .i64 92 := by
    obtain ⟨W', hW'⟩ := hu
    exact (HF.out _ u W' hW').1
  clear hu c2
  go_simp
  refine hK' _ ?_
  clear hK' K
  refine ordv_nil ?_
  intro wB hwB
  have hstB := (HF.out _ _ wB hwB).2
  clear hK HF hwB C
  clear hst
  have qC : Calls Tryz.prog 20 #[.pointer (some ⟨mb, 0, none⟩), .int .i64 1] wB fun x w' => x = .returned (.int .i64 0) ∧ St w w' hb mb aw3 awL (3 + 3) BX3 := hstB.kept (X := fun x => x = .returned (.int .i64 0)) (fun _ hs _ _ => commit_h (t := ⟨1, 1, []⟩) hs rfl (by decide) (by omega) (by omega))
  clear hstB
  go_wp2_with fail
  refine qC.mono ?_
  rintro x wC ⟨rfl, stC⟩
  clear qC
  have qS := snap_s stC
  go_wp2_with fail
  refine qS.mono ?_
  rintro x wD ⟨so4, sc4, nb4, rfl, stD, tD, J4, I4⟩
  clear qS stC tD J4
  simp only [List.headD_cons, List.length_cons, List.length_nil] at stD ⊢
  obtain ⟨F9, hs9⟩ := stD.hs
  have qG : Calls Tryz.prog 11 #[.pointer (some ⟨hb, 0, none⟩), .agg #[.int .i64 2, .int .i64 3, .slice so4 1 sc4], .int .i64 0, .int .i64 7, .string ⟨#[107]⟩] wD fun x w' => GetOut wD (some awV) x w' := get_f hs9 (by omega) 7 (by omega) (by omega) ⟨#[107]⟩ (by decide) 2 3 [2] so4 sc4 0 (by omega) (by omega) (by simp) (I4 wD (fun p hp => stD.box (List.mem_append.2 (.inr hp))))
  have STD : Hid (St w wD hb mb aw3 awL (3 + 3) (BX3 ++ nb4)) := stD
  clear hs9 stD
  go_wp2_with fail
  refine qG.mono ?_
  rintro x wE ⟨⟨roE, rcE, rfl, hoE⟩, tE⟩
  have hE8 : wE.heap[g8]? = some (.cells cur8 89 (0, 0)) := (STD.out.no tE).box (List.mem_append.2 (.inl M8))
  have hrE : RdR wE roE 1 rcE (rowC 5) := RdR.of_own hoE (by simp [rowC, Value.oneCell']) (by omega)
  have hr8 := HR8.out wE hE8
  have TE : Hid (Tch (fun _ => False) w wE) := (STD.out.no tE).tch
  have q1 := row_any 5 wE
  clear qG hoE tE STD hE8 HR8 M8 I2 Mo2 No2 Jo2 M2 N2 J2 I4
  have HrE : Hid (RdR wE roE 1 rcE (rowC 5)) := hrE
  have Hr8 : Hid (RdR wE (some ⟨g8, 0, none⟩) 1 rc8 (rowC 5)) := hr8
  clear hrE hr8
  go_wp2_with fail
  refine q1.mono ?_
  rintro x wF ⟨rfl, hF⟩
  clear q1
  have tF : Tch (fun _ => False) wE wF := by rw [hF]; exact Tch.alloc _ _ _
  have q2 := same_any 5 (some ⟨g8, 0, none⟩) (some ⟨wE.heap.size, 0, none⟩) rc8 1 wF (Hr8.out.no tF) (by rw [hF]; exact row_rd 5 wE)
  have TF : Hid (Tch (fun _ => False) wE wF) := tF
  clear tF hF
  go_wp2_with fail
  refine q2.mono ?_
  rintro x wG ⟨rfl, tG⟩
  clear q2
  have TG : Hid (Tch (fun _ => False) wE wG) := TF.out.trans' tG
  clear tG
  have q3 := row_any 5 wG
  go_wp2_with fail
  refine q3.mono ?_
  rintro x wH ⟨rfl, hH⟩
  clear q3
  have tH : Tch (fun _ => False) wG wH := by rw [hH]; exact Tch.alloc _ _ _
  have q4 := same_any 5 roE (some ⟨wG.heap.size, 0, none⟩) rcE 1 wH (HrE.out.no (TG.out.trans' tH)) (by rw [hH]; exact row_rd 5 wG)
  have TH : Hid (Tch (fun _ => False) w wH) := TE.out.trans' (TG.out.trans' tH)
  clear tH hH
  go_wp2_with fail
  refine q4.mono ?_
  rintro x wI ⟨rfl, tI⟩
  clear q4
  have TI : Hid (Tch (fun _ => False) w wI) := TH.out.trans' tI
  clear tI
  go_wp2
  go_ret
  exact ⟨rfl, TI.out⟩
end Go.Proofs.YtokgihmigkplaaaGreat
