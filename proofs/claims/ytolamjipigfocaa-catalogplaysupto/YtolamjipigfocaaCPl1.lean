import Derived.Test.YtolamjipigfocaaCLds
import Derived.Test.YtolamjipigfocaaCCh1
import Derived.Test.YtolamjipigfocaaCCh2
import Derived.Test.YtolamjipigfocaaCCh3a
import Derived.Test.YtolamjipigfocaaCCh3b
import Derived.Test.YtolamjipigfocaaCCh8
import Derived.Test.YtolamjipigfocaaCCh9
import Derived.Test.YtolamjipigfocaaCAk4
import Derived.Test.YtolamjipigfocaaCAk5
import Derived.Test.YtolamjipigfocaaCAk6
import Derived.Test.YtolamjipigfocaaCAk15
/- CatalogPlays: the law's state between the steps. -/
namespace Go.Proofs.Ytolamjipigfocaa
open Go.RowKit Go

/-- Which of n things. -/
def pkN (c : Int) (n : Nat) : Nat := ((if c < 0 then -(c + 1) else c) % (n : Int)).toNat
theorem pkN_lt (c : Int) {n : Nat} (h : 0 < n) : pkN c n < n := by
  unfold pkN
  have h1 := Int.emod_nonneg (if c < 0 then -(c + 1) else c) (show (n : Int) ≠ 0 by omega)
  have h2 := Int.emod_lt_of_pos (if c < 0 then -(c + 1) else c) (show (0 : Int) < n by omega)
  omega
theorem pick_any (c : Int) (n : Nat) (w : World) (h1 : -9223372036854775808 ≤ c) (h2 : c ≤ 9223372036854775807) (hn : 0 < n) (hn2 : n ≤ 9223372036854775807) : Calls Try.prog 6 #[.int .i64 c, .int .i64 n] w fun x w' => x = .returned (.int .i64 (pkN c n)) ∧ w' = w := by
  have hn0 : ¬ (n : Int) = 0 := by omega
  have hnb : ((n : Int) == 0) = false := by simp; omega
  by_cases hc : c < 0
  · obtain ⟨d, hd⟩ : ∃ d : Nat, -(c + 1) = d := ⟨(-(c + 1)).toNat, by omega⟩
    obtain ⟨rfl⟩ : c = -(d : Int) - 1 := by omega
    have HE : Hid (((d : Int) % n) = (pkN (-(d : Int) - 1) n : Nat)) := by
      show _ = _
      have e : (if (-(d : Int) - 1) < 0 then -((-(d : Int) - 1) + 1) else (-(d : Int) - 1)) = (d : Int) := by rw [if_pos hc]; omega
      simp only [pkN, e]
      have := Int.emod_nonneg (d : Int) (show (n : Int) ≠ 0 by omega)
      omega
    clear hd
    go_enter Try.func6, Try.ntmps6
    go_wp2
    go_ret
    exact ⟨by rw [← HE.out]; rfl, rfl⟩
  · obtain ⟨d, rfl⟩ : ∃ d : Nat, c = d := ⟨c.toNat, by omega⟩
    have HE : Hid (((d : Int) % n) = (pkN (d : Int) n : Nat)) := by
      show _ = _
      have e : (if (d : Int) < 0 then -((d : Int) + 1) else (d : Int)) = (d : Int) := if_neg (by omega)
      simp only [pkN, e]
      have := Int.emod_nonneg (d : Int) (show (n : Int) ≠ 0 by omega)
      omega
    go_enter Try.func6, Try.ntmps6
    go_wp2
    go_ret
    exact ⟨by rw [← HE.out]; rfl, rfl⟩
theorem chg_any (w : World) (o : Nat → Nat) (Z : Nat → Prop) (b n k cb rb : Nat) (L : List Tbl) (gv : Int) (p : Opv) (be : BE w o b n) (pr : PR w o k cb rb L gv) (az : AZ Z w o) (ok : p.ok Z w) (hk : 20 ≤ k) (hn : n ≤ 80000000) (hkd : p.kd = 1 ∨ p.kd = 2 ∨ p.kd = 3 ∨ p.kd = 8 ∨ p.kd = 9) :
    Calls Try.prog 7 #[.agg #[.pointer (some ⟨cb, 0, none⟩), .pointer (some ⟨rb, 0, none⟩)], .pointer (some ⟨b, 0, none⟩), .agg p.cel.toArray] w fun x w' => x = .returned (.bool true) ∧ StOut w o b n k cb rb w' := by
  rcases hkd with h | h | h | h | h
  · exact chg_1 w o Z b n k cb rb L gv p be pr az ok hk hn h
  · exact chg_2 w o Z b n k cb rb L gv p be pr az ok hk hn h
  · rcases hc : p.cols with _ | ⟨y, ys⟩
    · exact chg_3a w o Z b n k cb rb L gv p be pr az ok hk hn h hc
    · exact chg_3b w o Z b n k cb rb L gv p be pr az ok hk hn h y ys hc
  · exact chg_8 w o Z b n k cb rb L gv p be pr az ok hk hn h
  · exact chg_9 w o Z b n k cb rb L gv p be pr az ok hk hn h
theorem ask_any (w : World) (o : Nat → Nat) (Z : Nat → Prop) (b n k cb rb : Nat) (L : List Tbl) (gv : Int) (p : Opv) (be : BE w o b n) (pr : PR w o k cb rb L gv) (az : AZ Z w o) (ok : p.ok Z w) (hk : 20 ≤ k) (hn : n ≤ 80000000) (hkd : p.kd = 4 ∨ p.kd = 5 ∨ p.kd = 6 ∨ p.kd = 7 ∨ p.kd = 13 ∨ p.kd = 14 ∨ p.kd = 15) :
    Calls Try.prog 13 #[.agg #[.pointer (some ⟨cb, 0, none⟩), .pointer (some ⟨rb, 0, none⟩)], .pointer (some ⟨b, 0, none⟩), .agg p.cel.toArray] w fun x w' => x = .returned (.bool true) ∧ StOut w o b n k cb rb w' := by
  rcases hkd with h | h | h | h | h | h | h
  · exact ask_4 w o Z b n k cb rb L gv p be pr az ok hk hn h
  · exact ask_5 w o Z b n k cb rb L gv p be pr az ok hk hn h
  · exact ask_6 w o Z b n k cb rb L gv p be pr az ok hk hn h
  · exact ask_7 w o Z b n k cb rb L gv p be pr az ok hk hn h
  · exact ask_13 w o Z b n k cb rb L gv p be pr az ok hk hn h
  · exact ask_14 w o Z b n k cb rb L gv p be pr az ok hk hn h
  · exact ask_15 w o Z b n k cb rb L gv p be pr az ok hk hn h
theorem PR.ev {K : Nat → Prop} {w w' : World} {o o' : Nat → Nat} {k cb rb : Nat} {L : List Tbl} {gv : Int} (h : PR w o k cb rb L gv) (e : Ev K w o w' o') (h1 : ¬ K k) (h2 : ¬ K (k + 1)) : PR w' o' k cb rb L gv := ⟨h.cf.ev e h1, h.rf.ev e h2, h.gi⟩
/-- Its cells, at a place. -/
def OpAt (w : World) (g o : Nat) (p : Opv) : Prop := ∀ j u, p.cel[j]? = some u → w.cell? ⟨g, o + j, none⟩ = some u
theorem OpAt.no {w w' : World} {g o : Nat} {p : Opv} (h : OpAt w g o p) (t : Tch (fun _ => False) w w') : OpAt w' g o p := fun j u hu => by
  have := h j u hu
  rw [t.cell (cell_lt this) (fun h => h)]; exact this
theorem TL.less {W : World} {F F' : Nat → Prop} {to : Option Addr} {P : List (Tbl × Value)} (h : TL W F to P) (hF : ∀ i, F' i → F i) : TL W F' to P := ⟨h.sl, fun a g o e hf => h.nf a g o e (hF _ hf), fun i hi => by
  obtain ⟨co, cc, hck⟩ := h.col i hi
  exact ⟨co, cc, hck.eq, hck.sl, hck.no, hck.cap, fun hne g o e => ⟨fun hf => (hck.nf hne g o e).1 (hF _ hf), (hck.nf hne g o e).2⟩⟩⟩
theorem Opv.ok.up {p : Opv} {Z Z' : Nat → Prop} {w : World} (h : p.ok Z w) (hz : ∀ i, Z i → Z' i) : p.ok Z' w :=
  ⟨h.b1, h.b2, h.b3, h.b4, ⟨h.hC.sl, fun a g o e => hz _ (h.hC.lt a g o e)⟩, ⟨h.hT.sl, fun a g o e => hz _ (h.hT.lt a g o e)⟩, ⟨h.hR.sl, fun a g o e => hz _ (h.hR.lt a g o e)⟩, h.hL.less (fun i hi hz' => hi (hz i hz')), h.nC, h.nT, h.nR, h.cT, h.lC, h.lT, h.lR, h.lL, h.lLc⟩
/-- The law's pairs. -/
def pcl (Ps : List (Nat × Nat)) : List Value := Ps.flatMap fun p => [.pointer (some ⟨p.1, 0, none⟩), .pointer (some ⟨p.2, 0, none⟩)]
theorem pcl_snoc (Ps : List (Nat × Nat)) (d e : Nat) : pcl (Ps ++ [(d, e)]) = pcl Ps ++ [.pointer (some ⟨d, 0, none⟩), .pointer (some ⟨e, 0, none⟩)] := by simp [pcl]
theorem pcl_get (Ps : List (Nat × Nat)) : ∀ (j : Nat) (hj : j < Ps.length), (pcl Ps)[j * 2]? = some (.pointer (some ⟨Ps[j].1, 0, none⟩)) ∧ (pcl Ps)[j * 2 + 1]? = some (.pointer (some ⟨Ps[j].2, 0, none⟩)) := by
  induction Ps with
  | nil => intro j hj; simp at hj
  | cons p Ps ih =>
    intro j hj
    have e : pcl (p :: Ps) = .pointer (some ⟨p.1, 0, none⟩) :: .pointer (some ⟨p.2, 0, none⟩) :: pcl Ps := rfl
    rw [e]
    rcases j with _ | j
    · exact ⟨rfl, rfl⟩
    · have h := ih j (by simpa using hj)
      rw [show (j + 1) * 2 = j * 2 + 1 + 1 by omega]
      exact h
/-- The first three of a script. -/
def fop0 (fc : Nat) : Opv := ⟨1, 0, 0, ⟨#[116]⟩, some ⟨fc, 0, none⟩, 2, [⟨⟨#[105, 100]⟩, 1, false⟩, ⟨⟨#[120]⟩, 2, true⟩], ⟨0, 0, ⟨#[]⟩, [], 0⟩, none, 0, none, 0, [], none, 0, []⟩
def fop1 : Opv := ⟨4, 0, 0, ⟨#[116]⟩, none, 0, [], ⟨0, 0, ⟨#[]⟩, [], 0⟩, none, 0, none, 0, [], none, 0, []⟩
def fopK (k : Int) : Opv := ⟨k, 0, 0, ⟨#[]⟩, none, 0, [], ⟨0, 0, ⟨#[]⟩, [], 0⟩, none, 0, none, 0, [], none, 0, []⟩
def fcols : List Value := ccl [⟨⟨#[105, 100]⟩, 1, false⟩, ⟨⟨#[120]⟩, 2, true⟩]
def fcl (fc : Nat) : List Value := (fop0 fc).cel ++ fop1.cel ++ (fopK 7).cel
theorem SZ.nil (Z : Nat → Prop) (w : World) (ao : Option Addr) : SZ Z w ao [] := ⟨SL.nil _ _, fun h => absurd rfl h⟩
theorem TL.nil (w : World) (F : Nat → Prop) : TL w F none [] := ⟨SL.nil _ _, fun h => absurd rfl h, fun i hi => by simp at hi⟩
theorem fopK_ok (k : Int) (Z : Nat → Prop) (w : World) : (fopK k).ok Z w :=
  ⟨by simp [fopK], by simp [fopK], by simp [fopK], by simp [fopK], SZ.nil _ _ _, SZ.nil _ _ _, SZ.nil _ _ _, TL.nil _ _, fun _ => ⟨rfl, rfl⟩, fun _ => ⟨rfl, rfl⟩, fun _ => rfl, by simp [fopK], by simp [fopK], by simp [fopK], by simp [fopK], by simp [fopK], fun i hi => by simp [fopK] at hi⟩
theorem fop1_ok (Z : Nat → Prop) (w : World) : fop1.ok Z w :=
  ⟨by simp [fop1], by simp [fop1], by simp [fop1], by simp [fop1], SZ.nil _ _ _, SZ.nil _ _ _, SZ.nil _ _ _, TL.nil _ _, fun _ => ⟨rfl, rfl⟩, fun _ => ⟨rfl, rfl⟩, fun _ => rfl, by simp [fop1], by simp [fop1], by simp [fop1], by simp [fop1], by simp [fop1], fun i hi => by simp [fop1] at hi⟩
theorem fop0_ok (fc : Nat) (Z : Nat → Prop) (w : World) (hz : Z fc) (hb : w.heap[fc]? = some (.cells fcols.toArray 43 (0, 0))) : (fop0 fc).ok Z w :=
  ⟨by simp [fop0], by simp [fop0], by simp [fop0], by simp [fop0], ⟨fun _ => ⟨fc, 0, rfl, blk_at hb⟩, fun _ g o e => by
    injection e with e; injection e with e _
    rw [← e]; exact hz⟩, SZ.nil _ _ _, SZ.nil _ _ _, TL.nil _ _, (fun e => by cases e), fun _ => ⟨rfl, rfl⟩, fun _ => rfl, by simp [fop0], by simp [fop0], by simp [fop0], by simp [fop0], by simp [fop0], fun i hi => by simp [fop0] at hi⟩
/-- Whose the arguments' blocks are: those of the world in which the law began, and the first three's. -/
def ZL (w0 : World) : Nat → Prop := fun i => i < w0.heap.size ∨ i = w0.heap.size + 4 ∨ i = w0.heap.size + 5
structure PLs (w0 : World) (b n : Nat) (Ps : List (Nat × Nat)) (lv : Value) (w : World) (o : Nat → Nat) : Prop where
  be : BE w o b n
  pr : ∀ j (hj : j < Ps.length), ∃ L gv, PR w o (20 + 2 * j) Ps[j].1 Ps[j].2 L gv
  az : AZ (ZL w0) w o
  tc : Tch (fun _ => False) w0 w
  row : w.ownsRow 0 28 2 lv Ps.length (pcl Ps)
  lab : ∀ g, lv.ownBlock = some g → o g = 3
  l1 : 1 ≤ Ps.length
  l6 : Ps.length ≤ 6
  f1 : w.heap[w0.heap.size + 4]? = some (.cells fcols.toArray 43 (0, 0))
  f2 : w.heap[w0.heap.size + 5]? = some (.cells (fcl (w0.heap.size + 4)).toArray 45 (0, 0))
section
variable {w0 : World} {b n : Nat} {Ps : List (Nat × Nat)} {lv : Value} {w w' : World} {o o' : Nat → Nat}
theorem PLs.ev (h : PLs w0 b n Ps lv w o) {K : Nat → Prop} (e : Ev K w o w' o') (h0 : ¬ K 0) (h3 : ¬ K 3) {n' : Nat} (hb : BE w' o' b n') (hp : ∀ j (hj : j < Ps.length), ∃ L gv, PR w' o' (20 + 2 * j) Ps[j].1 Ps[j].2 L gv) : PLs w0 b n' Ps lv w' o' := by
  obtain ⟨a1, a2⟩ := h.az.ev e h0
  have hl : ∀ g, lv.ownBlock = some g → ¬ K (o g) := fun g eg => by rw [h.lab g eg]; exact h3
  refine ⟨hb, hp, a1, h.tc.trans a2 (fun i hi hz => hz (Or.inl hi)), own_tch h.row e.tch hl, fun g eg => ?_, h.l1, h.l6, ?_, ?_⟩
  · rw [e.old g (h.row.lt g eg).2 (hl g eg), h.lab g eg]
  · rw [a2.block _ (blk_lt h.f1) (fun hz => hz (Or.inr (Or.inl rfl)))]; exact h.f1
  · rw [a2.block _ (blk_lt h.f2) (fun hz => hz (Or.inr (Or.inr rfl)))]; exact h.f2
theorem PLs.no (h : PLs w0 b n Ps lv w o) (t : Tch (fun _ => False) w w') (kx : Nat) (hx : kx = 5 ∨ 20 + 2 * Ps.length ≤ kx) : PLs w0 b n Ps lv w' (ext w o kx) := by
  have e := Ev.quiet (o := o) kx t
  refine h.ev e (by omega) (by omega) (h.be.ev e (fun j _ _ => by omega)) (fun j hj => ?_)
  obtain ⟨L, gv, hp⟩ := h.pr j hj
  exact ⟨L, gv, hp.ev e (by omega) (by omega)⟩
theorem PLs.out (h : PLs w0 b n Ps lv w o) (j : Nat) (hj : j < Ps.length) (s : StOut w o b n (20 + 2 * j) Ps[j].1 Ps[j].2 w') : ∃ o', PLs w0 b (n + 500) Ps lv w' o' := by
  obtain ⟨o', L', g', hb, hp, e⟩ := s
  refine ⟨o', h.ev e (by unfold KS; omega) (by unfold KS; omega) hb (fun i hi => ?_)⟩
  by_cases hij : i = j
  · subst hij; exact ⟨L', g', hp⟩
  · obtain ⟨L, gv, hq⟩ := h.pr i hi
    exact ⟨L, gv, hq.ev e (by unfold KS; omega) (by unfold KS; omega)⟩
theorem PLs.mono (h : PLs w0 b n Ps lv w o) {m : Nat} (hm : n ≤ m) : PLs w0 b m Ps lv w o := ⟨h.be.mono hm, h.pr, h.az, h.tc, h.row, h.lab, h.l1, h.l6, h.f1, h.f2⟩
theorem PLs.chg (h : PLs w0 b n Ps lv w o) (j : Nat) (hj : j < Ps.length) (p : Opv) (ok : p.ok (ZL w0) w) (hn : n ≤ 80000000) (hkd : p.kd = 1 ∨ p.kd = 2 ∨ p.kd = 3 ∨ p.kd = 8 ∨ p.kd = 9) :
    Calls Try.prog 7 #[.agg #[.pointer (some ⟨Ps[j].1, 0, none⟩), .pointer (some ⟨Ps[j].2, 0, none⟩)], .pointer (some ⟨b, 0, none⟩), .agg p.cel.toArray] w fun x w' => x = .returned (.bool true) ∧ ∃ o', PLs w0 b (n + 500) Ps lv w' o' := by
  obtain ⟨L, gv, hp⟩ := h.pr j hj
  refine (chg_any w o (ZL w0) b n _ _ _ L gv p h.be hp h.az ok (by omega) hn hkd).mono ?_
  rintro x w' ⟨rfl, s⟩
  exact ⟨rfl, h.out j hj s⟩
theorem PLs.ask (h : PLs w0 b n Ps lv w o) (j : Nat) (hj : j < Ps.length) (p : Opv) (ok : p.ok (ZL w0) w) (hn : n ≤ 80000000) (hkd : p.kd = 4 ∨ p.kd = 5 ∨ p.kd = 6 ∨ p.kd = 7 ∨ p.kd = 13 ∨ p.kd = 14 ∨ p.kd = 15) :
    Calls Try.prog 13 #[.agg #[.pointer (some ⟨Ps[j].1, 0, none⟩), .pointer (some ⟨Ps[j].2, 0, none⟩)], .pointer (some ⟨b, 0, none⟩), .agg p.cel.toArray] w fun x w' => x = .returned (.bool true) ∧ ∃ o', PLs w0 b (n + 500) Ps lv w' o' := by
  obtain ⟨L, gv, hp⟩ := h.pr j hj
  refine (ask_any w o (ZL w0) b n _ _ _ L gv p h.be hp h.az ok (by omega) hn hkd).mono ?_
  rintro x w' ⟨rfl, s⟩
  exact ⟨rfl, h.out j hj s⟩
theorem PLs.still (h : PLs w0 b n Ps lv w o) (hn : n ≤ 900000000) : Calls Try.prog 14 #[.pointer (some ⟨b, 0, none⟩)] w fun x w' => x = .returned (.bool true) ∧ w' = w := still_x w o b n h.be hn
theorem PLs.grow {W W' : World} (h : PLs w0 b n Ps lv W o) (h6 : Ps.length < 6) {d e : Nat} {L : List Tbl} {gv : Int} (hp : PR W o (20 + 2 * Ps.length) d e L gv) {lv' : Value} (hgr : W.grownBy W' lv.ownBlock) (hown : W'.ownsRow 0 28 2 lv' (Ps.length + 1) (pcl Ps ++ [.pointer (some ⟨d, 0, none⟩), .pointer (some ⟨e, 0, none⟩)])) (hat : lv'.ownBlock = lv.ownBlock ∨ lv'.ownBlock = some W.heap.size) : ∃ o', PLs w0 b n (Ps ++ [(d, e)]) lv' W' o' := by
  have T := grown_at (Tch.refl (fun _ => False) W) hgr
  have ev : Ev (fun j => j = 3) W o W' (ext W o 3) := Ev.own1 T (fun i _ hi => h.lab i hi)
  obtain ⟨a1, a2⟩ := h.az.ev ev (by omega)
  refine ⟨_, h.be.ev ev (fun j _ _ => by omega), fun j hj => ?_, a1, h.tc.trans a2 (fun i hi hz => hz (Or.inl hi)), by rw [pcl_snoc, List.length_append]; exact hown, fun g eg => ?_, by simp, by simp; omega, ?_, ?_⟩
  · rw [List.length_append, List.length_singleton] at hj
    rcases Nat.lt_or_ge j Ps.length with hl | hl
    · rw [List.getElem_append_left hl]
      obtain ⟨L', g', hq⟩ := h.pr j hl
      exact ⟨L', g', hq.ev ev (by omega) (by omega)⟩
    · obtain rfl : j = Ps.length := by omega
      rw [List.getElem_append_right (Nat.le_refl _)]
      simp only [Nat.sub_self, List.getElem_cons_zero]
      exact ⟨L, gv, hp.ev ev (by omega) (by omega)⟩
  · show ext W o 3 g = 3
    unfold ext
    split
    · rename_i hg
      rcases hat with e1 | e1
      · rw [e1] at eg; exact h.lab g eg
      · rw [e1] at eg; injection eg with eg; omega
    · rfl
  · rw [a2.block _ (blk_lt h.f1) (fun hz => hz (Or.inr (Or.inl rfl)))]; exact h.f1
  · rw [a2.block _ (blk_lt h.f2) (fun hz => hz (Or.inr (Or.inr rfl)))]; exact h.f2
theorem PLs.at (h : PLs w0 b n Ps lv w o) : ∃ g c, lv = .slice (some ⟨g, 0, none⟩) Ps.length c ∧ ∀ j (hj : j < Ps.length), w.cell? ⟨g, j * 2, none⟩ = some (.pointer (some ⟨Ps[j].1, 0, none⟩)) ∧ w.cell? ⟨g, j * 2 + 1, none⟩ = some (.pointer (some ⟨Ps[j].2, 0, none⟩)) := by
  have hr := h.row
  obtain ⟨ao, c, hv⟩ := row_slice hr
  rw [hv] at hr
  obtain ⟨g, e, _, ha⟩ := own_at hr (by have := h.l1; omega)
  refine ⟨g, c, by rw [hv, e], fun j hj => ?_⟩
  have h1 := pcl_get Ps j hj
  have a1 := ha _ _ h1.1
  have a2 := ha _ _ h1.2
  rw [Nat.zero_add] at a1 a2
  exact ⟨a1, a2⟩
end
/-- The empty book. -/
theorem BE.nil {w : World} {o : Nat → Nat} {b : Nat} (hb : w.heap[b]? = some (.cells book0 41 (0, 0))) (ho : o b = 10) : BE w o b 0 :=
  ⟨[], [], [], .slice none 0 0, .slice none 0 0, .slice none 0 0, .slice none 0 0, .slice none 0 0, [], ⟨0, 0, ⟨#[]⟩, [], 0⟩, .slice none 0 0, .slice none 0 0, .slice none 0 0, .slice none 0 0, [], [],
    ⟨⟨BKr.nil _ hb (fun hf => hf.2.2 rfl), ho, rfl, rfl, ⟨⟨rfl, Or.inl ⟨rfl, rfl⟩⟩, (fun g e => by cases e), fun j hj => by simp at hj⟩, ⟨⟨rfl, Or.inl ⟨rfl, rfl⟩⟩, (fun g e => by cases e), fun j hj => by simp at hj⟩, rfl, rfl⟩, RowC.nil _ _ _, RowC.nil _ _ _, by simp, ⟨⟨⟨rfl, Or.inl ⟨rfl, rfl⟩⟩, fun i hi => by simp at hi, fun i hi => by simp at hi, fun i j hi => by simp at hi⟩, fun g hg => by
      rcases hg with e | ⟨i, hi, _⟩
      · cases e
      · simp at hi⟩, ⟨⟨⟨rfl, Or.inl ⟨rfl, rfl⟩⟩, fun i hi => by simp at hi, fun i hi => by simp at hi, fun i j hi => by simp at hi⟩, fun g hg => by
      rcases hg with e | ⟨i, hi, _⟩
      · cases e
      · simp at hi⟩, rfl, by simp, fun i hi => by simp at hi⟩, by simp, by simp, by simp⟩
end Go.Proofs.Ytolamjipigfocaa
/- CatalogPlays: what the law's own calls do. -/
namespace Go.Proofs.Ytolamjipigfocaa
open Go.RowKit Go

theorem info_pair : (Try.prog.info? 28).map (fun i => (i.zero, i.size, i.bytes)) = some (some (.agg #[.pointer none, .pointer none]), 2, 16) := by kernel_rfl
/-- What loads gives the law. -/
def LdRes (w0 : World) (b n : Nat) (Ps : List (Nat × Nat)) (lv : Value) (pc pr : Option Addr) (w' : World) : Prop :=
  (∃ d e L gv o, pc = some ⟨d, 0, none⟩ ∧ pr = some ⟨e, 0, none⟩ ∧ PLs w0 b n Ps lv w' o ∧ PR w' o (20 + 2 * Ps.length) d e L gv) ∨ (pc = none ∧ pr = none ∧ ∃ o, PLs w0 b n Ps lv w' o)
section
variable {w0 : World} {b n : Nat} {Ps : List (Nat × Nat)} {lv : Value} {w w' : World} {o o' : Nat → Nat}
theorem PLs.cloneC (h : PLs w0 b n Ps lv w o) (j : Nat) (hj : j < Ps.length) : Calls Try.prog 8 #[.pointer (some ⟨Ps[j].1, 0, none⟩)] w fun x w' => ∃ d, x = .returned (.pointer (some ⟨d, 0, none⟩)) ∧ Tch (fun _ => False) w w' ∧ ∃ o' L gv, PLs w0 b n Ps lv w' o' ∧ CF w' o' (20 + 2 * Ps.length) d L gv ∧ RF w' o' (20 + 2 * j + 1) Ps[j].2 L gv ∧ GI L gv := by
  obtain ⟨L, gv, hp⟩ := h.pr j hj
  refine (clone_x (kv := 20 + 2 * Ps.length) hp.cf hp.gi).mono ?_
  rintro x w' ⟨d, rfl, hc, t⟩
  exact ⟨d, rfl, t, _, L, gv, h.no t _ (Or.inr (Nat.le_refl _)), hc, hp.rf.ev (Ev.quiet _ t) (by omega), hp.gi⟩
theorem PLs.cloneR (h : PLs w0 b n Ps lv w o) {j d r : Nat} {L : List Tbl} {gv : Int} (hc : CF w o (20 + 2 * Ps.length) d L gv) (hr : RF w o (20 + 2 * j + 1) r L gv) (gi : GI L gv) : Calls Try.prog 9 #[.pointer (some ⟨r, 0, none⟩)] w fun x w' => ∃ e, x = .returned (.pointer (some ⟨e, 0, none⟩)) ∧ ∃ o' L gv, PLs w0 b n Ps lv w' o' ∧ PR w' o' (20 + 2 * Ps.length) d e L gv := by
  refine (rclone_x (kv := 20 + 2 * Ps.length + 1) hr gi).mono ?_
  rintro x w' ⟨e, rfl, hr', t⟩
  exact ⟨e, rfl, _, L, gv, h.no t _ (Or.inr (by omega)), hc.ev (Ev.quiet _ t) (by omega), hr', gi⟩
theorem PLs.loads (h : PLs w0 b n Ps lv w o) (l : List (Tbl × Value)) (lo : Option Addr) (lc : Nat) (F : Nat → Prop) (next : Int) (hT : TL w F lo l) (hlen : l.length ≤ 1048576) (hcl : ∀ i (hi : i < l.length), l[i].1.cols.length ≤ 1048576) :
    Calls Try.prog 12 #[.slice lo l.length lc, .int .i64 next] w fun x w' => ∃ pc pr, x = .returned (.tuple #[.agg #[.pointer pc, .pointer pr], .bool true]) ∧ LdRes w0 b n Ps lv pc pr w' := by
  have h6 := h.l6
  refine (loads_any w o (20 + 2 * Ps.length) l lo lc F next hT hlen hcl (by omega)).mono ?_
  rintro x w' ⟨pc, pr, o', rfl, t, e, hx, hn⟩
  have h' : PLs w0 b n Ps lv w' o' := by
    refine h.ev e (by unfold K3; omega) (by unfold K3; omega) (h.be.ev e (fun j _ _ => by unfold K3; omega)) (fun j hj => ?_)
    obtain ⟨L, gv, hp⟩ := h.pr j hj
    exact ⟨L, gv, hp.ev e (by unfold K3; omega) (by unfold K3; omega)⟩
  refine ⟨pc, pr, rfl, ?_⟩
  by_cases hE : ldE (l.map Prod.fst) next = 0
  · obtain ⟨d, e2, h1, h2, h3, h4⟩ := hx hE
    exact Or.inl ⟨d, e2, _, _, o', h1, h2, h', h3, h4, ldE_gi hE⟩
  · obtain ⟨h1, h2⟩ := hn hE
    exact Or.inr ⟨h1, h2, o', h'⟩
theorem PLs.list (h : PLs w0 b n Ps lv w o) (j : Nat) (hj : j < Ps.length) : Calls Try.prog 10 #[.pointer (some ⟨Ps[j].2, 0, none⟩)] w fun x w' => ∃ lo lc P, x = .returned (.slice lo P.length lc) ∧ Tch (fun _ => False) w w' ∧ TL w' (fun _ => False) lo P ∧ P.length ≤ 16 ∧ (∀ i (hi : i < P.length), P[i].1.cols.length ≤ 8) ∧ ∃ o', PLs w0 b n Ps lv w' o' := by
  obtain ⟨L, gv, hp⟩ := h.pr j hj
  refine (rlist_x (kv := 5) hp.rf hp.gi).mono ?_
  rintro x w' ⟨v, P, rfl, hPL, hT, t⟩
  obtain ⟨p1, p2⟩ := hp.gi.p8 hPL
  obtain ⟨lo, lc, hv⟩ := hT.slice
  subst hv
  exact ⟨lo, lc, P, rfl, t, hT.tl, p1, p2, _, h.no t 5 (Or.inl rfl)⟩
theorem PLs.next (h : PLs w0 b n Ps lv w o) (j : Nat) (hj : j < Ps.length) : ∃ gv : Int, (Calls Try.prog 15 #[.pointer (some ⟨Ps[j].1, 0, none⟩)] w fun x w' => x = .returned (.int .i64 gv) ∧ w' = w) ∧ (Calls Try.prog 11 #[.pointer (some ⟨Ps[j].2, 0, none⟩)] w fun x w' => x = .returned (.int .i64 gv) ∧ w' = w) := by
  obtain ⟨L, gv, hp⟩ := h.pr j hj
  exact ⟨gv + 1, next_x hp.cf hp.gi, rnext_x hp.rf⟩
end
end Go.Proofs.Ytolamjipigfocaa
