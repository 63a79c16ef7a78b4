import Derived.Test.YtjiblajnfnmjnaaGreatDoorCTab
import Derived.Test.YtjiblajnfnmjnaaGreatDoorRRec
import Derived.Test.YtjiblajnfnmjnaaGreatDoorVForm
import Derived.Handy
import Derived.Test.YtjiblajnfnmjnaaGreatDoorCPure
import Derived.Test.YtjiblajnfnmjnaaGreatDoorVLift
set_option maxHeartbeats 4000000
set_option maxRecDepth 100000
namespace Go.Proofs.YtjiblajnfnmjnaaGreatDoor.C
open Go.RowKit Go
def tcs (p : Tbl × Value) : List Value := [.int .i64 p.1.id, .int .i64 p.1.ver, .string p.1.nm, p.2, .int .i64 p.1.key]
def tcl (l : List (Tbl × Value)) : List Value := l.flatMap tcs
theorem tcl_len : ∀ l : List (Tbl × Value), (tcl l).length = l.length * 5
  | [] => rfl
  | a :: l => by
    have := tcl_len l
    unfold tcl at this ⊢
    simp only [List.flatMap_cons, List.length_append, this, List.length_cons]
    simp [tcs]; omega
theorem tcl_append (l m : List (Tbl × Value)) : tcl (l ++ m) = tcl l ++ tcl m := by simp [tcl]
theorem tcl_get : ∀ (l : List (Tbl × Value)) (k j : Nat) (hk : k < l.length), j < 5 → (tcl l)[k * 5 + j]? = (tcs l[k])[j]?
  | [], k, j, hk, _ => by simp at hk
  | a :: l, 0, j, _, hj => by
    unfold tcl
    rw [List.flatMap_cons, Nat.zero_mul, Nat.zero_add, List.getElem?_append_left (by simp [tcs]; omega)]; rfl
  | a :: l, k + 1, j, hk, hj => by
    have := tcl_get l k j (by simpa using hk) hj
    unfold tcl at this ⊢
    rw [List.flatMap_cons, List.getElem?_append_right (by simp [tcs]; omega)]
    simp only [List.getElem_cons_succ]
    rw [← this]
    congr 1
    simp [tcs]; omega
structure CK (W : World) (F : Nat → Prop) (p : Tbl × Value) (co : Option Addr) (cc : Nat) : Prop where
  eq : p.2 = .slice co p.1.cols.length cc
  sl : SL W co (ccl p.1.cols)
  no : co = none → p.1.cols = [] ∧ cc = 0
  cap : p.1.cols.length ≤ cc
  nf : p.1.cols ≠ [] → ∀ g o, co = some ⟨g, o, none⟩ → ¬ F g ∧ g < W.heap.size
structure TL (W : World) (F : Nat → Prop) (to : Option Addr) (P : List (Tbl × Value)) : Prop where
  sl : SL W to (tcl P)
  nf : P ≠ [] → ∀ g o, to = some ⟨g, o, none⟩ → ¬ F g
  col : ∀ i (hi : i < P.length), ∃ co cc, CK W F P[i] co cc
theorem CK.tch {S F : Nat → Prop} {W W' : World} {p : Tbl × Value} {co : Option Addr} {cc : Nat} (h : CK W F p co cc) (t : Tch S W W') (hS : ∀ i, i < W.heap.size → S i → F i) : CK W' F p co cc :=
  ⟨h.eq, fun hc => by
    obtain ⟨g, o, e, ha⟩ := h.sl hc
    have hne : p.1.cols ≠ [] := fun e0 => hc (by rw [e0]; rfl)
    exact ⟨g, o, e, ha.tch t (fun _ hs => (h.nf hne g o e).1 (hS g (h.nf hne g o e).2 hs))⟩, h.no, h.cap, fun hne g o e => ⟨(h.nf hne g o e).1, Nat.lt_of_lt_of_le (h.nf hne g o e).2 t.size⟩⟩
theorem tcl_nil {P : List (Tbl × Value)} (h : P ≠ []) : tcl P ≠ [] := fun e => by
  have := tcl_len P
  rw [e] at this
  have := List.length_pos_iff.2 h
  simp at *; omega
theorem TL.tch {S F : Nat → Prop} {W W' : World} {to : Option Addr} {P : List (Tbl × Value)} (h : TL W F to P) (t : Tch S W W') (hS : ∀ i, i < W.heap.size → S i → F i) : TL W' F to P := by
  refine ⟨fun hc => ?_, h.nf, fun i hi => ?_⟩
  · obtain ⟨g, o, e, ha⟩ := h.sl hc
    have hP : P ≠ [] := by rintro rfl; exact hc rfl
    exact ⟨g, o, e, ha.tch t (fun _ hs => h.nf hP g o e (hS g (ha.lt hc) hs))⟩
  · obtain ⟨co, cc, hck⟩ := h.col i hi
    exact ⟨co, cc, hck.tch t hS⟩
theorem TL.at {W : World} {F : Nat → Prop} {to : Option Addr} {P : List (Tbl × Value)} (h : TL W F to P) (k : Nat) (hk : k < P.length) : ∃ g o, to = some ⟨g, o, none⟩ ∧ W.cell? ⟨g, o + k * 5, none⟩ = some (.int .i64 P[k].1.id) ∧ W.cell? ⟨g, o + k * 5 + 1, none⟩ = some (.int .i64 P[k].1.ver) ∧ W.cell? ⟨g, o + k * 5 + 2, none⟩ = some (.string P[k].1.nm) ∧ W.cell? ⟨g, o + k * 5 + 3, none⟩ = some P[k].2 ∧ W.cell? ⟨g, o + k * 5 + 4, none⟩ = some (.int .i64 P[k].1.key) := by
  obtain ⟨g, o, e, ha⟩ := h.sl (tcl_nil (by rintro rfl; simp at hk))
  have key : ∀ j u, j < 5 → (tcs P[k])[j]? = some u → W.cell? ⟨g, o + k * 5 + j, none⟩ = some u := fun j u hj hu => by
    have := ha (k * 5 + j) u (by rw [tcl_get P k j hk hj]; exact hu)
    rwa [← Nat.add_assoc] at this
  exact ⟨g, o, e, key 0 _ (by omega) rfl, key 1 _ (by omega) rfl, key 2 _ (by omega) rfl, key 3 _ (by omega) rfl, key 4 _ (by omega) rfl⟩
def posP (f : Tbl → Bool) : List (Tbl × Value) → Int
  | [] => -1
  | p :: l => if f p.1 then 0 else if posP f l < 0 then -1 else posP f l + 1
theorem posP_none {f : Tbl → Bool} : ∀ {l : List (Tbl × Value)}, (∀ i (h : i < l.length), f l[i].1 = false) → posP f l = -1
  | [], _ => rfl
  | p :: l, h => by
    have h0 := h 0 (by simp)
    have ih := posP_none (f := f) (l := l) (fun i hi => h (i + 1) (by simpa using hi))
    simp only [List.getElem_cons_zero] at h0
    unfold posP
    rw [h0, ih]; rfl
theorem posP_some {f : Tbl → Bool} : ∀ {l : List (Tbl × Value)} {k : Nat} (hk : k < l.length), f l[k].1 = true → (∀ i (h : i < l.length), i < k → f l[i].1 = false) → posP f l = k
  | [], k, hk, _, _ => by simp at hk
  | p :: l, 0, _, h, _ => by
    simp only [List.getElem_cons_zero] at h
    unfold posP
    rw [h]; rfl
  | p :: l, k + 1, hk, h, h2 => by
    have h0 := h2 0 (by simp) (by omega)
    simp only [List.getElem_cons_zero] at h0
    have ih := posP_some (f := f) (l := l) (k := k) (by simpa using hk) h (fun i hi hik => h2 (i + 1) (by simpa using hi) (by omega))
    unfold posP
    rw [h0, ih, if_neg (by simp), if_neg (by omega)]
    omega
theorem posP_cases (f : Tbl → Bool) (l : List (Tbl × Value)) : (posP f l = -1 ∧ ∀ i (h : i < l.length), f l[i].1 = false) ∨ ∃ k, ∃ (hk : k < l.length), posP f l = k ∧ f l[k].1 = true ∧ ∀ i (h : i < l.length), i < k → f l[i].1 = false := by
  induction l with
  | nil => exact Or.inl ⟨rfl, fun i h => by simp at h⟩
  | cons p l ih =>
    cases hp : f p.1 with
    | true => exact Or.inr ⟨0, by simp, posP_some (by simp) (by simpa using hp) (fun i h h2 => by omega), by simpa using hp, fun i h h2 => by omega⟩
    | false =>
      rcases ih with ⟨_, h2⟩ | ⟨k, hk, _, h2, h3⟩
      · have h4 : ∀ i (h : i < (p :: l).length), f (p :: l)[i].1 = false := fun i hi => by
          rcases i with _ | i
          · simpa using hp
          · simpa using h2 i (by simpa using hi)
        exact Or.inl ⟨posP_none h4, h4⟩
      · have h4 : ∀ i (h : i < (p :: l).length), i < k + 1 → f (p :: l)[i].1 = false := fun i hi hik => by
          rcases i with _ | i
          · simpa using hp
          · simpa using h3 i (by simpa using hi) (by omega)
        exact Or.inr ⟨k + 1, by simpa using hk, posP_some (by simpa using hk) (by simpa using h2) h4, by simpa using h2, h4⟩
theorem nm1_any (B : Nat) (nm : ByteArray) (t : Tbl) (v : Value) (w : World) (hB : w.cell? ⟨B, 0, none⟩ = some (.string nm)) (hv : ∃ ao n c, v = .slice ao n c) :
    Calls Tryz.prog 99 #[tA t.id t.ver t.nm v t.key, .pointer (some ⟨B, 0, none⟩)] w fun x w' => x = .returned (.bool (decide (t.nm = nm))) ∧ Tch (fun _ => False) w w' := by
  obtain ⟨ao, n, c, rfl⟩ := hv
  have hlt := cell_lt hB
  have hB1 : ∀ o, (w.alloc o).cell? ⟨B, 0, none⟩ = some (.string nm) := fun o => by rw [World.cell?_alloc_lt _ _ _ hlt]; exact hB
  by_cases h : t.nm = nm
  · have hd : decide (t.nm = nm) = true := by simp [h]
    rw [hd]
    subst h
    go_enter Tryz.func99, Tryz.ntmps99
    go_wp2
    go_ret
    exact ⟨rfl, Tch.alloc _ _ _⟩
  · have hd : decide (t.nm = nm) = false := by simp [h]
    have hne := str_ne h
    rw [hd]
    clear h hd
    go_enter Tryz.func99, Tryz.ntmps99
    go_wp2
    go_ret
    exact ⟨rfl, Tch.alloc _ _ _⟩
theorem nm2_any (B : Nat) (nm : ByteArray) (to : Option Addr) (tc : Nat) (P : List (Tbl × Value)) (F : Nat → Prop) (w : World) (hB : w.cell? ⟨B, 0, none⟩ = some (.string nm)) (hT : TL w F to P) (hl : P.length ≤ 16) :
    Calls Tryz.prog 98 #[.slice to P.length tc, .func (.func 99) #[] #[.pointer (some ⟨B, 0, none⟩)]] w fun x w' => x = .returned (.int .i64 (posP (fun t => decide (t.nm = nm)) P)) ∧ Tch (fun _ => False) w w' := by
  have HT : Hid (∀ W, Tch (fun _ => False) w W → TL W F to P ∧ W.cell? ⟨B, 0, none⟩ = some (.string nm)) := fun W tW => ⟨hT.tch tW (fun _ _ h => h.elim), (tW.cell (p := ⟨B, 0, none⟩) (cell_lt hB) (fun h => h)).trans hB⟩
  have hlI : (P.length : Int) ≤ 16 := by omega
  obtain ⟨r, hr⟩ : ∃ r, r = posP (fun t => decide (t.nm = nm)) P := ⟨_, rfl⟩
  have HR : Hid (r = posP (fun t => decide (t.nm = nm)) P) := hr
  rw [← hr]
  clear hB hT hr
  go_enter Tryz.func98, Tryz.ntmps98
  go_wp2_with fail
  go_loopw [8] (fun i wr => ∃ k : Nat, i = .int .i64 k ∧ k ≤ P.length ∧ Tch (fun _ => False) w wr ∧ Hid (∀ j (h : j < P.length), j < k → decide ((fun t : Tbl => t.nm) P[j].1 = nm) = false)) (fun i _ => P.length - (intOf i).toNat)
  case atStart => exact ⟨0, rfl, by omega, Tch.refl _ _, fun _ _ h => by omega⟩
  case round =>
    obtain ⟨k, rfl, hk, hT, HK⟩ := hrel
    by_cases hlt : (k : Int) < P.length
    · have hkl : k < P.length := by omega
      obtain ⟨hTL, hBc⟩ := HT.out _ hT
      obtain ⟨g, o, rfl, c0, c1, c2, c3, c4⟩ := hTL.at k hkl
      obtain ⟨co, cc, hck⟩ := hTL.col k hkl
      obtain ⟨p, hp⟩ : ∃ p, p = P[k] := ⟨_, rfl⟩
      rw [← hp] at c0 c1 c2 c3 c4 hck
      rw [hck.eq] at c3
      have q := nm1_any B nm p.1 (.slice co p.1.cols.length cc) wr hBc ⟨_, _, _, rfl⟩
      have Hp : Hid (p = P[k]) := hp
      obtain ⟨d, hd⟩ : ∃ d, d = decide (p.1.nm = nm) := ⟨_, rfl⟩
      rw [← hd] at q
      have HD : Hid (d = decide (p.1.nm = nm)) := hd
      clear hTL hck hp hd
      cases d with
      | true =>
        have HE : Hid (r = k) := by
          show _ = _
          rw [HR.out]
          exact posP_some hkl (by rw [← Hp.out]; exact HD.out.symm) (fun i hi hik => HK.out i hi hik)
        go_wp2_with (go_at_call 99; refine q.mono ?_; rintro y w1 ⟨rfl, t1⟩)
        go_ret
        exact ⟨by rw [HE.out]; rfl, hT.trans' t1⟩
      | false =>
        have HE : Hid (∀ j (h : j < P.length), j < k + 1 → decide ((fun t : Tbl => t.nm) P[j].1 = nm) = false) := fun j hj hjk => by
          rcases Nat.lt_or_ge j k with h1 | h1
          · exact HK.out j hj h1
          · obtain rfl : j = k := by omega
            rw [← Hp.out]; exact HD.out.symm
        go_wp2_with (go_at_call 99; refine q.mono ?_; rintro y w1 ⟨rfl, t1⟩)
        go_roundw
        case rel => exact ⟨k + 1, by go_num, by omega, hT.trans' t1, HE⟩
        case measure => simp [intOf]; omega
    · have HE : Hid (r = -1) := by
        show _ = _
        rw [HR.out]
        exact posP_none (fun i hi => HK.out i hi (by omega))
      go_wp2_with fail
      go_ret
      exact ⟨by rw [HE.out]; rfl, hT⟩
theorem nm3_any (b : Nat) (to : Option Addr) (tc : Nat) (P : List (Tbl × Value)) (F : Nat → Prop) (nm : ByteArray) (w : World) (hb : w.cell? ⟨b, 0, none⟩ = some (.slice to P.length tc)) (hT : TL w F to P) (hl : P.length ≤ 16) :
    Calls Tryz.prog 60 #[.pointer (some ⟨b, 0, none⟩), .string nm] w fun x w' => x = .returned (.int .i64 (posP (fun t => decide (t.nm = nm)) P)) ∧ Tch (fun _ => False) w w' := by
  have hlt := cell_lt hb
  have hb1 : ∀ o, (w.alloc o).cell? ⟨b, 0, none⟩ = some (.slice to P.length tc) := fun o => by rw [World.cell?_alloc_lt _ _ _ hlt]; exact hb
  have q := nm2_any w.heap.size nm to tc P F (w.alloc (.cells #[.string nm] 9)) (by simp) (hT.tch (Tch.alloc (fun _ => False) _ _) (fun _ _ h => h.elim)) hl
  clear hT hb
  go_enter Tryz.func60, Tryz.ntmps60
  go_wp2_with (go_at_call 98; refine q.mono ?_; rintro y w1 ⟨rfl, t1⟩)
  go_ret
  exact ⟨rfl, (Tch.alloc _ _ _).trans' t1⟩
open Go.RowKit
theorem SL.row {w : World} {ao : Option Addr} {vs : List Val} (h : SL w ao (vcl vs)) : RowOf w ao vs := fun hv => by
  obtain ⟨g, o, e, ha⟩ := h (f3_nil _ _ _ hv)
  exact ⟨g, o, e, fun j hj => ha.val j hj⟩
theorem bd {b : Bool} {p : Prop} [Decidable p] (h : b = true ↔ p) : b = decide p := by
  cases b
  · symm; rw [decide_eq_false_iff_not]; intro hp; exact absurd (h.2 hp) (by simp)
  · symm; rw [decide_eq_true_iff]; exact h.1 rfl
theorem isNumber_any (n : Int) (w : World) : Calls Tryz.prog 188 #[.int .i64 n] w fun x w' => x = .returned (.bool (decide (rtN n))) ∧ w' = w := by
  go_enter Tryz.func188, Tryz.ntmps188
  go_wp2
  all_goals (go_ret; refine ⟨vret_bool (bd ?_), rfl⟩; unfold rtN; simp; omega)
def rtNx (n : Int) : Prop := 1 ≤ n ∧ n ≤ 2147483648
instance (n : Int) : Decidable (rtNx n) := by unfold rtNx; infer_instance
theorem isNext_any (n : Int) (w : World) : Calls Tryz.prog 238 #[.int .i64 n] w fun x w' => x = .returned (.bool (decide (rtNx n))) ∧ w' = w := by
  go_enter Tryz.func238, Tryz.ntmps238
  go_wp2
  all_goals (go_ret; refine ⟨vret_bool (bd ?_), rfl⟩; unfold rtNx; simp; omega)
theorem encode_row (vs : List Val) (ao : Option Addr) (c : Nat) (w : World) (hg : HE w) (h : SL w ao (vcl vs)) (hi : ∀ v ∈ vs, v.i64) (hl : vs.length ≤ 9223372036854775807) :
    Calls Tryz.prog 16 #[.slice ao vs.length c] w fun x w' => x = .returned (.tuple #[.string ⟨(encR vs).1.toArray⟩, .int .i64 (encR vs).2]) ∧ Tch (fun _ => False) w w' := by
  by_cases hv : vs = []
  · subst hv
    exact encode_any [] ao 0 0 c w hg (fun h => absurd rfl h) (fun j hj => by simp at hj) hi hl
  · obtain ⟨g, o, e, ha⟩ := h.row hv
    exact encode_any vs ao g o c w hg (fun _ => e) ha hi hl
theorem isRow_any (vs : List Val) (ao : Option Addr) (c : Nat) (w : World) (hg : HE w) (h : SL w ao (vcl vs)) (hi : ∀ v ∈ vs, v.i64) (hl : vs.length ≤ 9223372036854775807) :
    Calls Tryz.prog 198 #[.slice ao vs.length c] w fun x w' => x = .returned (.bool (decide (rtRow vs))) ∧ Tch (fun _ => False) w w' := by
  have q := encode_row vs ao c w hg h hi hl
  obtain ⟨E, hE⟩ : ∃ E, E = (encR vs).2 := ⟨_, rfl⟩
  obtain ⟨s, hs⟩ : ∃ s : ByteArray, s = ⟨(encR vs).1.toArray⟩ := ⟨_, rfl⟩
  rw [← hE, ← hs] at q
  obtain ⟨n, hn⟩ : ∃ n, n = vs.length := ⟨_, rfl⟩
  have HN : Hid (n = vs.length ∧ E = (encR vs).2) := ⟨hn, hE⟩
  rw [← hn] at q ⊢
  clear hn hE hs
  go_enter Tryz.func198, Tryz.ntmps198
  go_wp2_with (go_at_call 16; refine q.mono ?_; rintro x w1 ⟨rfl, t1⟩)
  all_goals
    have h1 := HN.out.1
    have h2 := HN.out.2
    go_ret
    refine ⟨vret_bool (bd ?_), t1⟩
    unfold rtRow
    have h3 : vs ≠ [] ↔ 0 < n := by rw [h1]; exact List.length_pos_iff.symm
    rw [h3, ← h2]
    simp
    omega
theorem nullByte_any (b : Bool) (w : World) : Calls Tryz.prog 229 #[.bool b] w fun x w' => x = .returned (.int .i64 (nb b)) ∧ w' = w := by
  cases b
  all_goals
    go_enter Tryz.func229, Tryz.ntmps229
    go_wp2
    go_ret
    exact ⟨rfl, rfl⟩
end Go.Proofs.YtjiblajnfnmjnaaGreatDoor.C
namespace Go.Proofs.YtjiblajnfnmjnaaGreatDoor
set_option maxRecDepth 100000
open Go
def headV (P : Program) (md : Region.Mode) (ops : Array Oper) (S : List Nat) (C : List Value → World → Prop) (n : Nat) (L : Array Bool → List Value → Act → Prop) : Nat → Array Bool → List Value → Act → Prop
  | 0, listed, s, a => L listed s a
  | f + 1, listed, s, a => Region.ready md ops listed ≠ [] ∧ ∀ i ∈ Region.ready md ops listed, i < n ∧ vOp P ops S C i (headV P md ops S C n L f (listed.setIfInBounds i true)) s a
theorem headV_any {P : Program} {ops : Array Oper} {md : Region.Mode} {S : List Nat} {C : List Value → World → Prop} {n g : Nat} {L : Array Bool → List Value → Act → Prop} {Q' : Exit → Act → World → Prop} (hL : ∀ listed s a w, C s w → L listed s a → wpAny P md ops Q' g listed a w) (f : Nat) :
    ∀ (listed : Array Bool) (s : List Value) (a : Act) (w : World), C s w → headV P md ops S C n L f listed s a → wpAny P md ops Q' (f + g) listed a w := by
  induction f with
  | zero => intro listed s a w hw h; rw [Nat.zero_add]; exact hL _ _ _ _ hw h
  | succ f ih =>
    intro listed s a w hw h
    rw [Nat.succ_add]
    exact ⟨fun h0 => absurd h0 h.1, fun i hi => wpOp_of_vOp hw (fun s' a' w' hw' h' => ih _ s' a' w' hw' h') (h.2 i hi).2⟩
theorem headV_first {P : Program} {ops : Array Oper} {md : Region.Mode} {S : List Nat} {C : List Value → World → Prop} {n i : Nat} {oi : Oper} {v : Value} {L : Array Bool → List Value → Act → Prop} (hi : ops[i]? = some oi) (hsi : S.contains i = false) (hsel : ∀ (j : Nat) (o : Oper) cs b, ops[j]? = some o → o.op ≠ .select cs b)
    (hs : Region.sinkB md ops n = true) (hc : Region.chainB md ops n = true) (hn : n < ops.size) (hin : i < n)
    (hdone : ∀ listed s a, L listed s a → ∀ j ∈ Region.ready md ops listed, n ≤ j) (f : Nat) :
    ∀ (listed : Array Bool) (s : List Value) (a : Act), HeadInv md ops n listed →
      (∀ j oj, ops[j]? = some oj → j ≠ i → listed.getD j true = false → (∀ e ∈ oj.after, Region.binds md e = true → e.on ≠ i) → oi.apart ops oj = true) →
      i ∈ Region.ready md ops listed → YR P ops C oi v s a →
      headV P md ops S C n L f (listed.setIfInBounds i true) s (a.put oi.dst v) → headV P md ops S C n L (f + 1) listed s a := by
  have low : ∀ (listed : Array Bool), HeadInv md ops n listed → i ∈ Region.ready md ops listed → ∀ j ∈ Region.ready md ops listed, j < n := by
    intro listed inv hr j hj
    rcases Nat.lt_or_ge j n with h | h
    · exact h
    · exact absurd hj (tail_waits hs hc hn inv _ i rfl hin (mem_ready.1 hr).1 j h)
  have ne : ∀ (listed : Array Bool), i ∈ Region.ready md ops listed → Region.ready md ops listed ≠ [] := fun listed hr h => by rw [h] at hr; cases hr
  induction f with
  | zero =>
    intro listed s a inv _ hr hy H
    refine ⟨ne _ hr, fun j hj => ⟨low _ inv hr j hj, ?_⟩⟩
    by_cases hji : j = i
    · subst hji; exact hy.vOp hi hsi H
    · have h1 := hdone _ _ _ H j (ready_mono hj hji)
      have h2 := low _ inv hr j hj
      omega
  | succ f ih =>
    intro listed s a inv hfree hr hy H
    refine ⟨ne _ hr, fun j hj => ⟨low _ inv hr j hj, ?_⟩⟩
    by_cases hji : j = i
    · subst hji; exact hy.vOp hi hsi H
    · obtain ⟨hjun, oj, hoj, hall⟩ := mem_ready.1 hj
      have hnot : ∀ e ∈ oj.after, Region.binds md e = true → e.on ≠ i := fun e he hb heq => by
        have h1 := hall e he hb
        rw [heq, getD_both (mem_ready.1 hr).1] at h1
        cases h1
      obtain ⟨h1, h2, h3⟩ := Oper.apart_spec (hfree j oj hoj hji hjun hnot)
      refine vOp_put hoj (execOp_put oj (fun cs b => hsel j oj cs b hoj) a oi.dst v h1).symm (wanted_put oj a oi.dst v h1).symm (H.2 j (ready_mono hj hji)).2 (fun t u hn' => ?_)
      refine ih (listed.setIfInBounds j true) (s ++ t) (a.put oj.dst u) (inv.set hj (low _ inv hr j hj)) (fun m om hm hmi hun hno => hfree m om hm hmi ?_ hno) (ready_mono hr (Ne.symm hji)) ?_ ?_
      · by_cases hjm : j = m
        · subst hjm; exact hjun
        · rwa [getD_set_ne true hjm] at hun
      · exact hy.keep (execOp_put oi (fun cs b => hsel i oi cs b hi) a oj.dst u h3) (wanted_put oi a oj.dst u h3) t
      · rw [Array.setIfInBounds_comm _ _ hji, ← Act.put_comm a v u h2]
        exact hn'
def wpOrd (P : Program) (ops : Array Oper) (S : List Nat) (C : List Value → World → Prop) (Lq : List Value → Act → Prop) : List Nat → List Value → Act → Prop
  | [], s, a => Lq s a
  | i :: r, s, a => vOp P ops S C i (wpOrd P ops S C Lq r) s a
def ordB (md : Region.Mode) (ops : Array Oper) (S : List Nat) (n g : Nat) : List Nat → Array Bool → Bool
  | [], listed => Region.seqB md ops g n listed
  | i :: r, listed => decide (i < n) && (Region.ready md ops listed).contains i && (if S.contains i then Region.ready md ops listed == [i] else Region.free md ops listed i) && ordB md ops S n g r (listed.setIfInBounds i true)
theorem headV_ord {P : Program} {ops : Array Oper} {md : Region.Mode} {S : List Nat} {C : List Value → World → Prop} {n g : Nat} {Lq : List Value → Act → Prop} (hsel : Region.noSelect ops = true) (hs : Region.sinkB md ops n = true) (hc : Region.chainB md ops n = true) (hn : n < ops.size) (ord : List Nat) :
    ∀ (listed : Array Bool) (s : List Value) (a : Act), HeadInv md ops n listed → ordB md ops S n g ord listed = true → wpOrd P ops S C Lq ord s a →
    headV P md ops S C n (fun listed' s' a' => Region.seqB md ops g n listed' = true ∧ Lq s' a') ord.length listed s a := by
  induction ord with
  | nil => intro listed s a _ hB h; exact ⟨hB, h⟩
  | cons i r ih =>
    intro listed s a inv hB h
    simp only [ordB, Bool.and_eq_true, decide_eq_true_eq] at hB
    obtain ⟨⟨⟨hin, hrd⟩, hF⟩, hB⟩ := hB
    have hr : i ∈ Region.ready md ops listed := by simpa using hrd
    obtain ⟨_, oi, hi, _⟩ := mem_ready.1 hr
    have inv' := inv.set hr hin
    by_cases hSi : S.contains i = true
    · rw [if_pos hSi] at hF
      have hrd1 : Region.ready md ops listed = [i] := by simpa using hF
      refine ⟨by rw [hrd1]; simp, fun j hj => ?_⟩
      rw [hrd1] at hj
      obtain rfl : j = i := by simpa using hj
      exact ⟨hin, vOp_mono (fun s' a' h' => ih _ s' a' inv' hB h') h⟩
    · rw [if_neg hSi] at hF
      have hsf : S.contains i = false := by simpa using hSi
      obtain ⟨v, hy, hK⟩ := yr_of_vOp hi hsf h
      exact headV_first hi hsf (Region.noSelect_spec hsel) hs hc hn hin (fun listed' s' a' hL => seqB_ready hL.1) r.length listed s a inv (Region.free_spec hi hF) hr hy (ih _ _ _ inv' hB hK)
def ordTailB (md : Region.Mode) (ops : Array Oper) (S : List Nat) (n : Nat) (ord : List Nat) : Bool :=
  Region.noSelect ops && decide (n < ops.size) && Region.sinkB md ops n && Region.chainB md ops n && decide (ord.length = n) && ordB md ops S n (ops.size - n) ord (Array.replicate ops.size false)
theorem wp_region_ordv {P : Program} {id : Nat} {Q : Exit → Act → World → Prop} {a : Act} {w : World} {l : List Oper} (S : List Nat) (C : List Value → World → Prop) (n : Nat) (ord : List Nat) (hm : P.follows .mixedOrders = true) (hB : ordTailB .any l.toArray S n ord = true) (hC : C [] w.drew)
    (h : wpOrd P l.toArray S C (fun s a' => ∀ w', C s w' → wpList P l.toArray Q (l.drop n) a' w') ord [] a) : (Code.region id l.toArray true).wp P Q a w := by
  simp only [ordTailB, Bool.and_eq_true, decide_eq_true_eq] at hB
  obtain ⟨⟨⟨⟨⟨hsel, hn⟩, hs⟩, hc⟩, hlen⟩, hord⟩ := hB
  have hdl : (l.drop n).length = l.toArray.size - n := by simp
  have inv0 : HeadInv .any l.toArray n (Array.replicate l.toArray.size false) :=
    ⟨by simp, fun j oj _ hl => (by rw [getD_replicate_false] at hl; cases hl), fun t _ ht => getD_in (by simpa using ht) (getD_replicate_false _ _)⟩
  have H := headV_ord (md := .any) (g := l.toArray.size - n) hsel hs hc hn ord _ [] a inv0 hord h
  refine wp_region_any hm ?_
  have := headV_any (Q' := Q) (g := l.toArray.size - n) (fun listed s a' w' hw hL => by
    have := wpAny_of_seq (md := .any) (Q' := Q) (l.drop n) n listed a' w' (fun j => by simp [List.getElem?_drop]) (by rw [hdl]; exact hL.1) (hL.2 w' hw)
    rwa [hdl] at this) _ _ _ _ _ hC H
  rw [hlen, show n + (l.toArray.size - n) = l.toArray.size by omega] at this
  exact this
theorem ordv_nil {P : Program} {ops : Array Oper} {S : List Nat} {C : List Value → World → Prop} {Lq : List Value → Act → Prop} {s : List Value} {a : Act} (h : Lq s a) : wpOrd P ops S C Lq [] s a := h
theorem ordv_read {P : Program} {ops : Array Oper} {S : List Nat} {C : List Value → World → Prop} {Lq : List Value → Act → Prop} {i : Nat} {o : Oper} {r : List Nat} {s : List Value} {a : Act} (hi : ops[i]? = some o) (hw : Region.wanted o (yielded ops a.tmps) = true) (hs : S.contains i = false)
    (h : ∃ v, (∀ s' W, C (s ++ s') W → YS P o a (C (s ++ s')) W v) ∧ ∀ K : Act → Prop, (∀ a, wpOrd P ops S C Lq r s a → K a) → K (a.put o.dst v)) : wpOrd P ops S C Lq (i :: r) s a := by
  obtain ⟨v, h1, h2⟩ := h
  unfold wpOrd vOp
  simp only [hi]
  rw [if_pos hw, if_neg (by rw [hs]; exact Bool.false_ne_true)]
  exact ⟨v, h1, h2 _ (fun _ h => h)⟩
theorem ordv_turn {P : Program} {ops : Array Oper} {S : List Nat} {C : List Value → World → Prop} {Lq : List Value → Act → Prop} {i : Nat} {o : Oper} {r : List Nat} {s : List Value} {a : Act} (hi : ops[i]? = some o) (hw : Region.wanted o (yielded ops a.tmps) = true) (hs : S.contains i = true)
    (h1 : ∀ W, C s W → YV P o a (fun v => C (s ++ [v])) W) (h2 : ∀ v, (∃ W', C (s ++ [v]) W') → ∀ K : Act → Prop, (∀ a, wpOrd P ops S C Lq r (s ++ [v]) a → K a) → K (a.put o.dst v)) : wpOrd P ops S C Lq (i :: r) s a := by
  unfold wpOrd vOp
  simp only [hi]
  rw [if_pos hw, if_pos hs]
  exact ⟨h1, fun v hv => h2 v hv _ (fun _ h => h)⟩
theorem yv_append {P : Program} {o : Oper} {a : Act} {W : World} {C : Value → World → Prop} (s x : Operand) (t : TypeId) (ho : o.op = .call { callee := .builtin .append, args := #[s, x], argTypes := #[t, t] }) (v sl : Value) (hs : a.eval s = v) (hx : a.eval x = sl) {v' : Value} {w' : World}
    (hr : (Builtin.append_ #[t, t] o.type #[v, sl]).run P W = .ok v' w') (hC : C v' w') : YV P o a C W := by
  intro b K Q hK
  unfold execOp
  simp only [ho, resolve, invoke, builtin, Sem.run_bind, Sem.run_pure, Result.andThen_ok, List.map_toArray, List.map_cons, List.map_nil, hs, hx, hr]
  exact hK _ _ hC
end Go.Proofs.YtjiblajnfnmjnaaGreatDoor
namespace Go.Proofs.YtjiblajnfnmjnaaGreatDoor.C
open Go.RowKit
theorem upd_ok (bs l : List UInt8) : upd bs 0 l 0 = (bs ++ l, 0) := by simp [upd]
theorem wvar_ok (b : Nat) (bs : List UInt8) (n : Int) (w : World) (h : WS w b bs 0) (h0 : 0 ≤ n) (hn : n ≤ 9223372036854775807) (hlen : bs.length + 10 ≤ 140737488355328) :
    Calls Tryz.prog 108 #[.pointer (some ⟨b, 0, none⟩), .int .i64 n] w fun x w' => x = .returned (.tuple #[]) ∧ WS w' b (bs ++ dg n.toNat) 0 ∧ Tch (WT b w) w w' := by
  have q := wvar_any b bs 0 n w h hn hlen
  have e : upd bs 0 (varL n) (varC n) = (bs ++ dg n.toNat, 0) := by unfold varC varL; rw [if_neg (by omega)]; exact upd_ok _ _
  rw [e] at q; exact q
theorem wtext_ok (b : Nat) (bs : List UInt8) (s : ByteArray) (most : Int) (w : World) (h : WS w b bs 0) (hs : (s.size : Int) ≤ most) (hlen : bs.length + 10 + s.size ≤ 140737488355328) :
    Calls Tryz.prog 74 #[.pointer (some ⟨b, 0, none⟩), .string s, .int .i64 most] w fun x w' => x = .returned (.tuple #[]) ∧ WS w' b (bs ++ textL s) 0 ∧ Tch (WT b w) w w' := by
  have q := wtext_any b bs 0 s most w h hlen
  have e : upd bs 0 (textL s) (textC s most) = (bs ++ textL s, 0) := by unfold textC; rw [if_neg (by omega), if_neg (by omega)]; exact upd_ok _ _
  rw [e] at q; exact q
theorem wbyte1' (b : Nat) (bs : List UInt8) (n : Int) (z : Nat) (w : World) (h : WS w b bs 0) (hz : w.heap.size = z) (h0 : 0 ≤ n) (h1 : n ≤ 255) (hlen : bs.length + 1 ≤ 140737488355328) :
    Calls Tryz.prog 32 #[.pointer (some ⟨b, 0, none⟩), .slice (some ⟨z, 0, none⟩) 1 1] (w.alloc (.cells #[.int .i64 n] 3)) fun x w' => x = .returned (.tuple #[]) ∧ WS w' b (bs ++ bytesL [n]) 0 ∧ Tch (WT b w) w w' := wbyte1 b bs n z w h hz h0 h1 hlen
theorem wbyte2 (b : Nat) (bs : List UInt8) (n m : Int) (z : Nat) (w : World) (h : WS w b bs 0) (hz : w.heap.size = z) (h0 : 0 ≤ n ∧ n ≤ 255) (h1 : 0 ≤ m ∧ m ≤ 255) (hlen : bs.length + 2 ≤ 140737488355328) :
    Calls Tryz.prog 32 #[.pointer (some ⟨b, 0, none⟩), .slice (some ⟨z, 0, none⟩) 2 2] (w.alloc (.cells #[.int .i64 n, .int .i64 m] 3)) fun x w' => x = .returned (.tuple #[]) ∧ WS w' b (bs ++ bytesL [n, m]) 0 ∧ Tch (WT b w) w w' := by
  subst hz
  have hb := h.lt
  have := wbyte_any b bs 0 [n, m] w.heap.size 2 _ (h.tch (Tch.alloc (fun _ => False) w (.cells #[.int .i64 n, .int .i64 m] 3)) (fun _ _ _ h => h)) (by simpa using hlen) (by omega) ⟨_, _, heap_new w _⟩ (fun j hj => by
    have hj2 : j < 2 := hj
    rcases j with _ | _ | j
    · simp
    · simp
    · omega)
  refine this.mono ?_
  rintro x w' ⟨hx, h2, h3⟩
  have e : upd bs 0 (bytesL [n, m]) (bytesC [n, m]) = (bs ++ bytesL [n, m], 0) := by simp [upd, bytesC, byteOk, h0, h1]
  rw [e] at h2
  exact ⟨hx, h2, wt_alloc h3⟩
theorem wt_keep {b : Nat} {w w' : World} (t : Tch (WT b w) w w') {i : Nat} {cur : Array Value} {T : TypeId} {fr : Nat × Nat} (h : w.heap[i]? = some (.cells cur T fr)) (hT : T ≠ 5) (hi : i ≠ b) : w'.heap[i]? = some (.cells cur T fr) := by
  rw [t.block i (blk_lt h)]
  · exact h
  · rintro (h1 | ⟨_, c, f, h1⟩)
    · exact hi h1
    · rw [h] at h1
      simp at h1
      exact hT h1.2.1
theorem layRow_any (b : Nat) (bs : List UInt8) (vs : List Val) (ao : Option Addr) (c : Nat) (w : World) (h : WS w b bs 0) (hg : HE w) (hr : SL w ao (vcl vs)) (hi : ∀ v ∈ vs, v.i64) (hl : vs.length ≤ 9223372036854775807) (hlen : bs.length + 2000 ≤ 140737488355328) :
    Calls Tryz.prog 199 #[.pointer (some ⟨b, 0, none⟩), .slice ao vs.length c] w fun x w' => x = .returned (.tuple #[]) ∧ WS w' b (bs ++ rowL vs) 0 ∧ Tch (WT b w) w w' := by
  have q := encode_row vs ao c w hg hr hi hl
  have hle := encR_len vs
  have hsz : (⟨(encR vs).1.toArray⟩ : ByteArray).size = (encR vs).1.length := by show (encR vs).1.toArray.size = _; simp
  have q2 : ∀ w1, Tch (fun _ => False) w w1 → Calls Tryz.prog 74 #[.pointer (some ⟨b, 0, none⟩), .string ⟨(encR vs).1.toArray⟩, .int .i64 4000] w1 fun x w' => x = .returned (.tuple #[]) ∧ WS w' b (bs ++ rowL vs) 0 ∧ Tch (WT b w1) w1 w' := fun w1 t =>
    wtext_ok b bs ⟨(encR vs).1.toArray⟩ 4000 w1 (h.tch t (fun _ _ _ h => h)) (by rw [hsz]; omega) (by rw [hsz]; omega)
  obtain ⟨E, hE⟩ : ∃ E, E = (encR vs).2 := ⟨_, rfl⟩
  obtain ⟨s, hs⟩ : ∃ s : ByteArray, s = ⟨(encR vs).1.toArray⟩ := ⟨_, rfl⟩
  rw [← hE, ← hs] at q
  rw [← hs] at q2
  have HQ2 : Hid _ := q2
  obtain ⟨n, hn⟩ : ∃ n, n = vs.length := ⟨_, rfl⟩
  rw [← hn] at q ⊢
  clear hn hE hs q2 hsz hle hlen hl hi hr hg h
  go_enter Tryz.func199, Tryz.ntmps199
  go_wp2_with (go_at_call 16; refine q.mono ?_; rintro x w1 ⟨rfl, t1⟩)
  refine (HQ2.out w1 t1).mono ?_
  rintro x w2 ⟨rfl, h2, t2⟩
  go_wp2_with fail
  go_end0
  exact ⟨rfl, h2, wt_new t1 t2⟩
theorem colL_len {c : Col} (h : nmOk c.nm = true) : (colL c).length ≤ 30 := by
  have h1 := nm_size h
  have h2 := fol_dg_len c.nm.size
  have h3 : c.nm.data.toList.length = c.nm.size := by simp
  have h4 : (bytesL [c.k, nb c.nl]).length = 2 := rfl
  unfold colL textL
  simp only [List.length_append]
  omega
theorem colsL_len : ∀ {l : List Col}, (∀ c ∈ l, nmOk c.nm = true ∧ kdOk c.k = true) → (colsL l).length ≤ l.length * 30
  | [], _ => by simp [colsL]
  | c :: l, h => by
    have e : colsL (c :: l) = colL c ++ colsL l := List.flatMap_cons
    have h1 := colL_len (h c (by simp)).1
    have h2 := colsL_len (l := l) (fun x hx => h x (by simp [hx]))
    rw [e, List.length_append, List.length_cons]; omega
theorem colsL_succ (l : List Col) (k : Nat) (hk : k < l.length) : colsL (l.take (k + 1)) = colsL (l.take k) ++ colL l[k] := by
  have h : l.take (k + 1) = l.take k ++ [l[k]] := (List.take_append_getElem hk).symm
  unfold colsL
  rw [h, List.flatMap_append, List.flatMap_cons, List.flatMap_nil, List.append_nil]
theorem SL.ge {b : Nat} {w w' : World} {ao : Option Addr} {cs : List Value} (h : SL w ao cs) (t : Tch (fun i => b ≤ i) w w') (hb : ∀ g o, ao = some ⟨g, o, none⟩ → g < b) : SL w' ao cs := h.tch t (fun g o e hs => by have := hb g o e; omega)
theorem blk5 {W : World} {g : Nat} {a b c d e : Value} {T : TypeId} {fr : Nat × Nat} (h : W.heap[g]? = some (.cells #[a, b, c, d, e] T fr)) : W.cell? ⟨g, 0, none⟩ = some a ∧ W.cell? ⟨g, 1, none⟩ = some b ∧ W.cell? ⟨g, 2, none⟩ = some c ∧ W.cell? ⟨g, 3, none⟩ = some d ∧ W.cell? ⟨g, 4, none⟩ = some e :=
  ⟨blk_cell h 0, blk_cell h 1, blk_cell h 2, blk_cell h 3, blk_cell h 4⟩
theorem blk3 {W : World} {g : Nat} {a b c : Value} {T : TypeId} {fr : Nat × Nat} (h : W.heap[g]? = some (.cells #[a, b, c] T fr)) : W.cell? ⟨g, 0, none⟩ = some a ∧ W.cell? ⟨g, 1, none⟩ = some b ∧ W.cell? ⟨g, 2, none⟩ = some c :=
  ⟨blk_cell h 0, blk_cell h 1, blk_cell h 2⟩
theorem layTable_any (b : Nat) (bs : List UInt8) (t : Tbl) (ao : Option Addr) (c : Nat) (w : World) (h : WS w b bs 0) (ht : RT t) (hr : SL w ao (ccl t.cols)) (hb : ∀ g o, ao = some ⟨g, o, none⟩ → g < b) (hlen : bs.length + 1000 ≤ 140737488355328) :
    Calls Tryz.prog 227 #[.pointer (some ⟨b, 0, none⟩), tA t.id t.ver t.nm (.slice ao t.cols.length c) t.key] w fun x w' => x = .returned (.tuple #[]) ∧ WS w' b (bs ++ tabL t) 0 ∧ Tch (WT b w) w w' := by
  have i1 := ht.id
  have i2 := ht.ver
  have i3 := nm_size ht.nm
  have i4 := ht.len
  have i5 := ht.key
  have HC : Hid (∀ c ∈ t.cols, nmOk c.nm = true ∧ kdOk c.k = true) := ht.cols
  obtain ⟨n, hn⟩ : ∃ n, n = t.cols.length := ⟨_, rfl⟩
  have hlt := h.lt
  obtain ⟨w0, hw0⟩ : ∃ w0, w0 = w.alloc (.cells #[.int .i64 t.id, .int .i64 t.ver, .string t.nm, .slice ao n c, .int .i64 t.key] 29) := ⟨_, rfl⟩
  have t0 : Tch (fun _ => False) w w0 := by rw [hw0]; exact Tch.alloc _ _ _
  have b0 : w0.heap[w.heap.size]? = some (.cells #[.int .i64 t.id, .int .i64 t.ver, .string t.nm, .slice ao n c, .int .i64 t.key] 29 (0, 0)) := by rw [hw0]; exact heap_new w _
  have HK : Hid (∀ W, Tch (WT b w0) w0 W → W.heap[w.heap.size]? = some (.cells #[.int .i64 t.id, .int .i64 t.ver, .string t.nm, .slice ao n c, .int .i64 t.key] 29 (0, 0)) ∧ SL W ao (ccl t.cols)) := fun W T =>
    ⟨wt_keep T b0 (by decide) (by omega), (hr.no t0).ge (wt_le T) hb⟩
  have h0 : WS w0 b bs 0 := h.tch t0 (fun _ _ _ h => h)
  have HT0 : Hid (Tch (fun _ => False) w w0) := t0
  have HW0 : Hid (w0 = w.alloc (.cells #[.int .i64 t.id, .int .i64 t.ver, .string t.nm, .slice ao n c, .int .i64 t.key] 29)) := hw0
  have HNN : Hid (n = t.cols.length) := hn
  obtain ⟨e0, e1, e2, e3, e4⟩ := blk5 b0
  rw [← hn] at i4 i5 ⊢
  clear h hr hb ht t0 b0 hn hw0
  go_enter Tryz.func227, Tryz.ntmps227
  go_wp2_with fail
  have q0 := wvar_ok b bs t.id w0 h0 (by omega) (by omega) (by omega)
  rw [HW0.out] at q0
  refine q0.mono ?_
  rintro x w1 ⟨rfl, h1, t1⟩
  rw [← HW0.out] at t1
  clear q0
  have l1 := fol_dg_len t.id.toNat
  obtain ⟨b1, -⟩ := HK.out _ t1
  obtain ⟨f0, f1, f2, f3, f4⟩ := blk5 b1
  clear e0 e1 e2 e3 e4 h0 b1 HW0
  go_wp2_with fail
  refine (wvar_ok b _ t.ver w1 h1 (by omega) (by omega) (by rw [List.length_append]; omega)).mono ?_
  rintro x w2 ⟨rfl, h2, t2⟩
  have l2 := fol_dg_len t.ver.toNat
  have T2 := wt_trans t1 t2
  obtain ⟨b1, -⟩ := HK.out _ T2
  clear f0 f1 f2 f3 f4 h1 t1 t2
  obtain ⟨f0, f1, f2, f3, f4⟩ := blk5 b1
  clear b1
  go_wp2_with fail
  refine (wtext_ok b _ t.nm 16 w2 h2 (by omega) (by rw [List.length_append, List.length_append]; omega)).mono ?_
  rintro x w3 ⟨rfl, h3, t3⟩
  have l3 : (textL t.nm).length ≤ 26 := by
    have h2 := fol_dg_len t.nm.size
    have h3 : t.nm.data.toList.length = t.nm.size := by simp
    unfold textL; rw [List.length_append]; omega
  have T3 := wt_trans T2 t3
  obtain ⟨b1, -⟩ := HK.out _ T3
  clear f0 f1 f2 f3 f4 h2 T2 t3
  obtain ⟨f0, f1, f2, f3, f4⟩ := blk5 b1
  clear b1
  go_wp2_with fail
  refine (wbyte1' b _ n _ w3 h3 (by simp) (by omega) (by omega) (by simp only [List.length_append]; omega)).mono ?_
  rintro x w4 ⟨rfl, h4, t4⟩
  have T4 := wt_trans T3 t4
  obtain ⟨b1, -⟩ := HK.out _ T4
  clear f0 f1 f2 f3 f4 h3 T3 t4
  obtain ⟨f0, f1, f2, f3, f4⟩ := blk5 b1
  clear b1
  obtain ⟨B, hB⟩ : ∃ B, B = bs ++ dg t.id.toNat ++ dg t.ver.toNat ++ textL t.nm ++ bytesL [(n : Int)] := ⟨_, rfl⟩
  have lB : B.length ≤ bs.length + 47 := by
    have : (bytesL [(n : Int)]).length = 1 := rfl
    rw [hB]; simp only [List.length_append]; omega
  rw [← hB] at h4
  have HB : Hid (B = bs ++ dg t.id.toNat ++ dg t.ver.toNat ++ textL t.nm ++ bytesL [(n : Int)]) := hB
  clear hB l1 l2 l3
  go_wp2_with fail
  go_loopw [27] (fun i wr => ∃ k : Nat, i = .int .i64 k ∧ k ≤ n ∧ WS wr b (B ++ colsL (t.cols.take k)) 0 ∧ Tch (WT b w0) w0 wr) (fun i _ => n - (intOf i).toNat)
  case atStart => exact ⟨0, rfl, Nat.zero_le _, by simpa [colsL] using h4, T4⟩
  case round =>
    obtain ⟨k, rfl, hk, hW, hT⟩ := hrel
    clear h4 T4 f0 f1 f2 f3 f4
    have HCt : Hid (∀ c ∈ t.cols.take k, nmOk c.nm = true ∧ kdOk c.k = true) := fun c hc => HC.out c (List.mem_of_mem_take hc)
    have lc := colsL_len HCt.out
    have lk : (t.cols.take k).length ≤ 8 := by rw [List.length_take]; omega
    obtain ⟨b1, hs⟩ := HK.out _ hT
    have hwl := hW.lt
    by_cases hkn : k < n
    · have hkn' : (k : Int) < n := by omega
      have hkc : k < t.cols.length := by have := HNN.out; omega
      obtain ⟨g, o, rfl, ha⟩ := hs.col hkc
      obtain ⟨c0, c1, c2⟩ := ha.col k hkc
      obtain ⟨cl, hcl⟩ : ∃ cl, cl = t.cols[k] := ⟨_, rfl⟩
      have hcm := HC.out cl (by rw [hcl]; exact List.getElem_mem hkc)
      have hnk := nm_size hcm.1
      have hkd := kd_rng hcm.2
      have hnb := nb_rng cl.nl
      have HS : Hid (colsL (t.cols.take (k + 1)) = colsL (t.cols.take k) ++ colL cl) := by show _ = _; rw [hcl]; exact colsL_succ _ _ hkc
      rw [← hcl] at c0 c1 c2
      clear hcl ha hs b1
      obtain ⟨wb, hwb⟩ : ∃ wb, wb = wr.alloc (.cells #[.string cl.nm, .int .i64 cl.k, .bool cl.nl] 43) := ⟨_, rfl⟩
      have tb : Tch (fun _ => False) wr wb := by rw [hwb]; exact Tch.alloc _ _ _
      have bb : wb.heap[wr.heap.size]? = some (.cells #[.string cl.nm, .int .i64 cl.k, .bool cl.nl] 43 (0, 0)) := by rw [hwb]; exact heap_new wr _
      have hWb := hW.tch tb (fun _ _ _ h => h)
      have HWB : Hid (wb = wr.alloc (.cells #[.string cl.nm, .int .i64 cl.k, .bool cl.nl] 43)) := hwb
      have HTB : Hid (Tch (WT b w0) w0 wb) := wt_trans hT (wt_new tb (Tch.refl _ _))
      obtain ⟨g0, g1, g2⟩ := blk3 bb
      clear hwb tb hW hT
      go_wp2_with fail
      have q5 := wtext_ok b _ cl.nm 16 wb hWb (by omega) (by rw [List.length_append]; omega)
      rw [HWB.out] at q5
      refine q5.mono ?_
      rintro x w5 ⟨rfl, h5, t5⟩
      rw [← HWB.out] at t5
      clear q5
      have l5 : (textL cl.nm).length ≤ 26 := by
        have h2 := fol_dg_len cl.nm.size
        have h3 : cl.nm.data.toList.length = cl.nm.size := by simp
        unfold textL; rw [List.length_append]; omega
      have bb5 := wt_keep t5 bb (by decide) (by omega)
      have HT5 : Hid (Tch (WT b w0) w0 w5) := wt_trans HTB.out t5
      clear g0 g1 g2 c0 c1 c2 hWb bb t5 HTB HWB
      obtain ⟨g0, g1, g2⟩ := blk3 bb5
      clear bb5
      have qn := nullByte_any cl.nl
      obtain ⟨C, hC⟩ : ∃ C : List Value → World → Prop, C = fun st W => match st with
        | [] => Tch (fun _ => False) w5 W
        | [y] => ∃ W0, Tch (fun _ => False) w5 W0 ∧ y = .slice (some ⟨W0.heap.size, 0, none⟩) 2 2 ∧ W = W0.alloc (.cells #[.int .i64 cl.k, .int .i64 (nb cl.nl)] 3)
        | _ => False := ⟨_, rfl⟩
      have h0' : C [] w5.drew := by rw [hC]; exact (Tch.refl _ _).drew
      have hKc : ∀ s W, C s W → W.cell? ⟨wr.heap.size, 1, none⟩ = some (.int .i64 cl.k) ∧ W.cell? ⟨wr.heap.size, 2, none⟩ = some (.bool cl.nl) := fun s W h => by
        have T : Tch (fun _ => False) w5 W := by
          rw [hC] at h
          match s, h with
          | [], h => exact h
          | [y], h => obtain ⟨W0, h1, _, rfl⟩ := h; exact h1.allocR _
        exact ⟨(T.cell (p := ⟨_, _, none⟩) (cell_lt g1) (fun h => h)).trans g1, (T.cell (p := ⟨_, _, none⟩) (cell_lt g2) (fun h => h)).trans g2⟩
      have h6 : ∀ W, C [] W → C [.slice (some ⟨W.heap.size, 0, none⟩) 2 2] (W.alloc (.cells #[.int .i64 cl.k, .int .i64 (nb cl.nl)] 3)) := fun W h => by
        rw [hC] at h ⊢
        exact ⟨W, h, rfl, rfl⟩
      have hsh : ∀ y W, C [y] W → ∃ g, y = .slice (some ⟨g, 0, none⟩) 2 2 := fun y W h => by
        rw [hC] at h
        obtain ⟨W0, _, e, _⟩ := h
        exact ⟨_, e⟩
      have Hfin : Hid (∀ g W, C [.slice (some ⟨g, 0, none⟩) 2 2] W → ∃ W0, Tch (fun _ => False) w5 W0 ∧ g = W0.heap.size ∧ W = W0.alloc (.cells #[.int .i64 cl.k, .int .i64 (nb cl.nl)] 3)) := fun g W h => by
        rw [hC] at h
        obtain ⟨W0, h1, e, h2⟩ := h
        have e' : g = W0.heap.size := by simpa using e
        exact ⟨W0, h1, e', h2⟩
      clear hC g0 g1 g2
      go_wp2_with fail
      refine wp_region_ordv [6] C 7 [0, 1, 2, 3, 4, 5, 6] (by kernel_rfl) (by kernel_rfl) h0' ?_
      clear h0'
      refine ordv_read rfl (by go_simp) (by rfl) ?_
      apply Exists.intro
      refine ⟨fun s' W hW b K Q hK' => ?_, fun K hK' => ?_⟩
      · obtain ⟨g1, g2⟩ := hKc _ W hW
        go_simp
        exact hK' W hW
      go_simp
      refine hK' _ ?_
      clear hK' K
      refine ordv_read rfl (by go_simp) (by rfl) ?_
      apply Exists.intro
      refine ⟨fun s' W hW b K Q hK' => ?_, fun K hK' => ?_⟩
      · obtain ⟨g1, g2⟩ := hKc _ W hW
        go_simp
        exact hK' W hW
      go_simp
      refine hK' _ ?_
      clear hK' K
      refine ordv_read rfl (by go_simp) (by rfl) ?_
      apply Exists.intro
      refine ⟨fun s' W hW b K Q hK' => ?_, fun K hK' => ?_⟩
      · obtain ⟨g1, g2⟩ := hKc _ W hW
        go_simp
        exact hK' W hW
      go_simp
      refine hK' _ ?_
      clear hK' K
      refine ordv_read rfl (by go_simp) (by rfl) ?_
      apply Exists.intro
      refine ⟨fun s' W hW b K Q hK' => ?_, fun K hK' => ?_⟩
      · obtain ⟨g1, g2⟩ := hKc _ W hW
        go_simp
        exact hK' W hW
      go_simp
      refine hK' _ ?_
      clear hK' K
      refine ordv_read rfl (by go_simp) (by rfl) ?_
      apply Exists.intro
      refine ⟨fun s' W hW b K Q hK' => ?_, fun K hK' => ?_⟩
      · obtain ⟨g1, g2⟩ := hKc _ W hW
        go_simp
        exact hK' W hW
      go_simp
      refine hK' _ ?_
      clear hK' K
      refine ordv_read rfl (by go_simp) (by rfl) ?_
      apply Exists.intro
      refine ⟨fun s' W hW b K Q hK' => ?_, fun K hK' => ?_⟩
      · obtain ⟨g1, g2⟩ := hKc _ W hW
        go_simp
        go_at_call 229
        refine (qn W).mono ?_
        rintro x w6 ⟨rfl, rfl⟩
        exact hK' _ hW
      go_simp
      refine hK' _ ?_
      clear hK' K
      refine ordv_turn rfl (by go_simp) (by rfl) (fun W hW b K Q hK' => ?_) (fun u hu K hK' => ?_)
      · go_simp
        exact hK' _ _ (h6 W hW)
      obtain ⟨g, rfl⟩ : ∃ g, u = .slice (some ⟨g, 0, none⟩) 2 2 := by
        obtain ⟨W', hW'⟩ := hu
        exact hsh _ _ hW'
      go_simp
      refine hK' _ ?_
      clear hK' K
      refine ordv_nil ?_
      intro w6 hw6
      obtain ⟨W0, tW0, rfl, rfl⟩ := Hfin.out _ _ hw6
      clear hw6 h6 hsh hKc hu Hfin
      go_wp2_with fail
      refine (wbyte2 b _ cl.k (nb cl.nl) _ W0 (h5.tch tW0 (fun _ _ _ h => h)) rfl hkd hnb (by simp only [List.length_append]; omega)).mono ?_
      rintro x w7 ⟨rfl, h7, t7⟩
      have T7 : Tch (WT b w0) w0 w7 := wt_trans HT5.out (wt_new tW0 t7)
      clear h5 t7
      go_wp2_with fail
      go_roundw
      case rel =>
        refine ⟨k + 1, by go_num, by omega, ?_, T7⟩
        show WS _ _ _ _
        rw [HS.out]
        unfold colL
        simpa only [List.append_assoc] using h7
      case measure => simp [intOf]; omega
    · have hkn' : ¬ (k : Int) < n := by omega
      have hke : k = n := by omega
      have HTk : Hid (t.cols.take k = t.cols) := by
        show _ = _
        rw [List.take_of_length_le]; have := HNN.out; omega
      obtain ⟨f0, f1, f2, f3, f4⟩ := blk5 b1
      clear hs b1
      go_wp2_with fail
      refine (wbyte1' b _ t.key _ wr hW (by simp) (by omega) (by omega) (by simp only [List.length_append]; omega)).mono ?_
      rintro x w4 ⟨rfl, h4, t4⟩
      have T4 := wt_trans hT t4
      go_wp2_with fail
      go_end0
      refine ⟨rfl, ?_, wt_new HT0.out T4⟩
      rw [HTk.out, HB.out] at h4
      unfold tabL
      rw [← HNN.out]
      simpa only [List.append_assoc] using h4
end Go.Proofs.YtjiblajnfnmjnaaGreatDoor.C
