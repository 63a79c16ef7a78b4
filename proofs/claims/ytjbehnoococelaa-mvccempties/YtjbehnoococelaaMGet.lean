import Derived.Test.YtjbehnoococelaaMIns
/- chain, Get. -/
namespace Go.Proofs.Ytjbehnoococelaa
open Go.RowKit Go Go.Sort Go.Maps

/-- The chain of a table and a key, or nothing. -/
def chC (E : List En) (C : Nat → Ch) (k : Int) (s : List UInt8) : Ch := match lkE E k s with
  | some b => C b
  | none => (none, 0, [])
theorem chain_any (w : World) (hb mb tb : Nat) (T : List (Int × Nat)) (E : List En) (C : Nat → Ch) (σ : Nat → Option Nat) (q : Nat) (h : HW w hb mb tb T E C σ q) (k : Int) (h1 : -9223372036854775808 ≤ k) (h2 : k ≤ 9223372036854775807) (S : ByteArray) (hS : S.size ≤ maxLen) :
    Calls Try.prog 38 #[.pointer (some ⟨hb, 0, none⟩), .int .i64 k, .string S] w fun x w' => x = .returned (.slice (chC E C k S.data.toList).1 (chC E C k S.data.toList).2.2.length (chC E C k S.data.toList).2.1) ∧ w' = w := by
  have c1 := h.c1
  have gl := h.look h1 h2
  unfold chC
  cases hl : lkT T k with
  | none =>
    have he := h.noT hl S.data.toList
    have gn := look_nil w hS
    rw [hl] at gl
    rw [he]
    simp only [mapV, List.length_nil] at gl ⊢
    clear h hl he h1 h2
    go_enter Try.func38, Try.ntmps38
    go_wp2
    go_ret
    exact ⟨rfl, rfl⟩
  | some l =>
    have gk := h.look2 (lkT_mem hl) hS
    simp only at gk
    rw [hl] at gl
    simp only [mapV] at gl
    cases he : lkE E k S.data.toList with
    | none =>
      rw [he] at gk
      simp only [ptrV, List.length_nil] at gk ⊢
      clear h hl he h1 h2
      go_enter Try.func38, Try.ntmps38
      go_wp2
      go_ret
      exact ⟨rfl, rfl⟩
    | some cb =>
      rw [he] at gk
      have hcb := (h.chs _ (lkE_mem he)).1.blk
      simp only [ptrV] at gk hcb ⊢
      obtain ⟨⟨co, cc, zs⟩, hCc⟩ : ∃ c, c = C cb := ⟨_, rfl⟩
      rw [← hCc] at hcb ⊢
      simp only at hcb ⊢
      obtain ⟨ln, hln⟩ : ∃ ln, ln = zs.length := ⟨_, rfl⟩
      rw [← hln] at hcb ⊢
      have ec : w.cell? ⟨cb, 0, none⟩ = some (.slice co ln cc) := by rw [blk_cell hcb]; rfl
      clear h hl he h1 h2 hcb hln hCc
      go_enter Try.func38, Try.ntmps38
      go_wp2
      go_ret
      exact ⟨rfl, rfl⟩
theorem chC_ok {w : World} {hb mb tb : Nat} {T : List (Int × Nat)} {E : List En} {C : Nat → Ch} {σ : Nat → Option Nat} {q : Nat} (h : HW w hb mb tb T E C σ q) (k : Int) (s : List UInt8) : VRd w.heap.size w (chC E C k s).1 (chC E C k s).2.2 ∧ (chC E C k s).2.2.length ≤ q ∧ (∀ z ∈ (chC E C k s).2.2, VOK w σ z) ∧ (chC E C k s).2.2.map (·.1) = chL (labs E C) k s := by
  rw [chL_labs]
  unfold chC
  cases he : lkE E k s with
  | none => exact ⟨.inl ⟨rfl, rfl⟩, Nat.zero_le _, (fun z hz => by cases hz), rfl⟩
  | some cb =>
    obtain ⟨h1, h2⟩ := h.chs _ (lkE_mem he)
    exact ⟨vrd_of h1.row, h2, h1.ok, rfl⟩
/-- What is seen of a chain. -/
def getV (m : Mg) (mn mx : Int) (l : List Int) (own : Int) (c : List Ver) : Option Ver := match c.reverse.find? (fun v => m.sees mn mx l own v.wr) with
  | some v => if v.th then some v else none
  | none => none
/-- What Get gives. -/
def GetOut (w : World) (o : Option Ver) (x : Ending) (w' : World) : Prop := (match o with
  | some v => ∃ ro rc, x = .returned (.tuple #[.slice ro v.n rc, .int .i64 0]) ∧ w'.ownsRow w.heap.size 92 3 (.slice ro v.n rc) v.n v.cs
  | none => x = .returned (.tuple #[.slice none 0 0, .int .i64 90])) ∧ Tch (fun _ => False) w w'
theorem enters_seen : ∀ args w, (callFunc 48 args).run Try.prog w = .ok (.enter 48 args) w := enters_of Try.func48 (by kernel_rfl) rfl
/-- A version told. -/
def Told (p : VV → Bool) (zs : List VV) (a : Int) (t : Bool) (o : Option Addr) (n c : Nat) (b : Bool) (x : Value) : Prop := x = .tuple #[.agg #[.int .i64 a, .bool t, .slice o n c], .bool b] ∧ NwOut p zs (.returned x)
/-- The stages of Get's region. -/
def GC (w0 : World) (hb : Nat) (own mn mx : Int) (l : List Int) (so : Option Addr) (sc : Nat) (co : Option Addr) (cc : Nat) (zs : List VV) (pr : VV → Bool) (s : List Value) (p : Option Value) (W : World) : Prop :=
  Tch (fun _ => False) w0 W ∧ (p = none → s.length < 4) ∧
  (match s with
    | [] => ∀ q, p = some q → ∃ pb, q = .pointer (some ⟨pb, 0, none⟩) ∧ w0.heap.size ≤ pb ∧ W.heap[pb]? = some (.cells #[.int .i64 0, .bool false, .slice none 0 0] 84 (0, 0))
    | [c] => c = .slice co zs.length cc ∧ ∀ q, p = some q → ∃ pb, q = .pointer (some ⟨pb, 0, none⟩) ∧ w0.heap.size ≤ pb ∧ W.heap[pb]? = some (.cells #[.int .i64 0, .bool false, .slice none 0 0] 84 (0, 0))
    | [_, f] => (∃ b, f = .func (.func 48) #[] #[.pointer (some ⟨b, 0, none⟩), .pointer (some ⟨b + 1, 0, none⟩), .pointer (some ⟨b + 1 + 1, 0, none⟩)] ∧ SB W hb b (b + 1) (b + 1 + 1) mn mx l so sc own) ∧ ∀ q, p = some q → ∃ pb, q = .pointer (some ⟨pb, 0, none⟩) ∧ w0.heap.size ≤ pb ∧ W.heap[pb]? = some (.cells #[.int .i64 0, .bool false, .slice none 0 0] 84 (0, 0))
    | [_, _, x] => (∃ a t o n c b, Told pr zs a t o n c b x) ∧ ∀ q, p = some q → ∃ pb, q = .pointer (some ⟨pb, 0, none⟩) ∧ w0.heap.size ≤ pb ∧ W.heap[pb]? = some (.cells #[.int .i64 0, .bool false, .slice none 0 0] 84 (0, 0))
    | [_, _, x, _] => ∃ a t o n c b, Told pr zs a t o n c b x ∧ ∀ q, p = some q → ∃ pb, q = .pointer (some ⟨pb, 0, none⟩) ∧ w0.heap.size ≤ pb ∧ W.heap[pb]? = some (.cells #[.int .i64 a, .bool t, .slice o n c] 84 (0, 0))
    | _ => False)
section
variable {w0 : World} {hb : Nat} {own mn mx : Int} {l : List Int} {so : Option Addr} {sc : Nat} {co : Option Addr} {cc : Nat} {zs : List VV} {pr : VV → Bool}
theorem keepP {W W' : World} {p : Option Value} {N : Nat} {cs : Array Value} {t0 : TypeId} (h : ∀ q, p = some q → ∃ pb, q = .pointer (some ⟨pb, 0, none⟩) ∧ N ≤ pb ∧ W.heap[pb]? = some (.cells cs t0 (0, 0))) (t : Tch (fun _ => False) W W') : ∀ q, p = some q → ∃ pb, q = .pointer (some ⟨pb, 0, none⟩) ∧ N ≤ pb ∧ W'.heap[pb]? = some (.cells cs t0 (0, 0)) := fun q hq => by
  obtain ⟨pb, e, h1, h2⟩ := h q hq
  exact ⟨pb, e, h1, by rw [t.block _ (blk_lt h2) (fun h => h)]; exact h2⟩
theorem GC.float {s : List Value} {W : World} (h : GC w0 hb own mn mx l so sc co cc zs pr s none W) : GC w0 hb own mn mx l so sc co cc zs pr s (some (.pointer (some ⟨W.heap.size, 0, none⟩))) (W.alloc (.cells #[.int .i64 0, .bool false, .slice none 0 0] 84)) := by
  obtain ⟨h1, h2, h3⟩ := h
  have ta : Tch (fun _ => False) W (W.alloc (.cells #[.int .i64 0, .bool false, .slice none 0 0] 84)) := Tch.alloc _ _ _
  have hp : ∀ q, some (Value.pointer (some ⟨W.heap.size, 0, none⟩)) = some q → ∃ pb, q = .pointer (some ⟨pb, 0, none⟩) ∧ w0.heap.size ≤ pb ∧ (W.alloc (.cells #[.int .i64 0, .bool false, .slice none 0 0] 84)).heap[pb]? = some (.cells #[.int .i64 0, .bool false, .slice none 0 0] 84 (0, 0)) := fun q hq => by
    cases hq
    exact ⟨_, rfl, h1.size, alloc_new _ _⟩
  refine ⟨h1.trans' ta, (fun e => by cases e), ?_⟩
  match s, h2, h3 with
  | [], _, _ => exact hp
  | [_], _, h3 => exact ⟨h3.1, hp⟩
  | [_, _], _, h3 =>
    obtain ⟨⟨b, e, sb⟩, _⟩ := h3
    exact ⟨⟨b, e, sb.no ta⟩, hp⟩
  | [_, _, _], _, h3 => exact ⟨h3.1, hp⟩
  | [_, _, _, _], h2, _ => exact absurd (h2 rfl) (by simp)
  | _ :: _ :: _ :: _ :: _ :: _, _, h3 => exact h3.elim
theorem GC.tch {s : List Value} {p : Option Value} {W : World} (h : GC w0 hb own mn mx l so sc co cc zs pr s p W) : Tch (fun _ => False) w0 W := h.1
end

set_option maxHeartbeats 4000000 in
set_option maxRecDepth 100000 in
theorem get_w (w : World) (hb mb tb : Nat) (T : List (Int × Nat)) (E : List En) (C : Nat → Ch) (σ : Nat → Option Nat) (q : Nat) (h : HW w hb mb tb T E C σ q) (hq : q ≤ 2000) (m : Mg) (F : Nat → Prop) (hM : MF w mb m F) (k : Int) (h1 : -9223372036854775808 ≤ k) (h2 : k ≤ 9223372036854775807) (S : ByteArray) (hS : S.size ≤ maxLen) (mn mx : Int) (l : List Int) (so : Option Addr) (sc : Nat) (own : Int) (h3 : -9223372036854775808 ≤ own) (h4 : own ≤ 9223372036854775807) (hl : l.length ≤ 9223372036854775807) (hi : IR w so l) :
    Calls Try.prog 17 #[.pointer (some ⟨hb, 0, none⟩), .agg #[.int .i64 mn, .int .i64 mx, .slice so l.length sc], .int .i64 own, .int .i64 k, .string S] w fun x w' => GetOut w (getV m mn mx l own (chL (labs E C) k S.data.toList)) x w' := by
  obtain ⟨w0, hw0⟩ : ∃ w0, w0 = w.alloc (.cells #[.int .i64 mn, .int .i64 mx, .slice so l.length sc] 27) := ⟨_, rfl⟩
  have t0 : Tch (fun _ => False) w w0 := by rw [hw0]; exact Tch.alloc _ _ _
  have e0 : w0.heap[w.heap.size]? = some (.cells #[.int .i64 mn, .int .i64 mx, .slice so l.length sc] 27 (0, 0)) := by rw [hw0]; exact alloc_new _ _
  have hw := h.no t0
  obtain ⟨vr, vq, vk, vl⟩ := chC_ok hw k S.data.toList
  have hcq := fun W (t : Tch (fun _ => False) w0 W) => chain_any W hb mb tb T E C σ q (hw.no t) k h1 h2 S hS
  obtain ⟨⟨co, cc, zs⟩, hch⟩ : ∃ ch, ch = chC E C k S.data.toList := ⟨_, rfl⟩
  rw [← hch] at vr vq vk vl
  simp only [← hch] at hcq
  simp only at vr vq vk vl
  obtain ⟨pr, hpr⟩ : ∃ pr : VV → Bool, pr = fun z => m.sees mn mx l own z.1.wr := ⟨_, rfl⟩
  obtain ⟨D, hD⟩ : ∃ D : List Value → Option Value → World → Prop, D = GC w0 hb own mn mx l so sc co cc zs pr := ⟨_, rfl⟩
  obtain ⟨ln, hln⟩ : ∃ ln, ln = l.length := ⟨_, rfl⟩
  obtain ⟨zn, hzn⟩ : ∃ zn, zn = zs.length := ⟨_, rfl⟩
  have hK : ∀ s p W, D s p W → W.cell? ⟨w.heap.size, 0, none⟩ = some (.int .i64 mn) ∧ W.cell? ⟨w.heap.size, 1, none⟩ = some (.int .i64 mx) ∧ W.cell? ⟨w.heap.size, 2, none⟩ = some (.slice so ln sc) := fun s p W hW => by
    rw [hD] at hW
    have hb := (GC.tch hW).block _ (blk_lt e0) (fun h => h)
    rw [e0] at hb
    exact ⟨by rw [blk_cell hb]; rfl, by rw [blk_cell hb]; rfl, by rw [blk_cell hb, hln]; rfl⟩
  have h0' : D [] none w0.drew := by rw [hD]; exact ⟨(Tch.refl _ _).drew, fun _ => by decide, fun q hq => by cases hq⟩
  have hFl : ∀ s W, D s none W → D s (some (.pointer (some ⟨W.heap.size, 0, none⟩))) (W.alloc (.cells #[.int .i64 0, .bool false, .slice none 0 0] 84)) := fun s W hW => by
    rw [hD] at hW ⊢
    exact GC.float hW
  have c1 : ∀ p W, D [] p W → Calls Try.prog 38 #[.pointer (some ⟨hb, 0, none⟩), .int .i64 k, .string S] W fun x W' => ∃ y, x = .returned y ∧ D [y] p W' := fun p W hW => by
    rw [hD] at hW ⊢
    obtain ⟨g1, g2, g3⟩ := hW
    refine (hcq W g1).mono ?_
    rintro x W' ⟨rfl, rfl⟩
    exact ⟨_, rfl, g1, fun _ => by simp, rfl, g3⟩
  have s1 : ∀ y p W, D [y] p W → y = .slice co zn cc := fun y p W hW => by
    rw [hD] at hW
    rw [hzn]
    exact hW.2.2.1
  have c2 : ∀ y p W, D [y] p W → Calls Try.prog 35 #[.pointer (some ⟨hb, 0, none⟩), .agg #[.int .i64 mn, .int .i64 mx, .slice so ln sc], .int .i64 own] W fun x W' => ∃ f, x = .returned f ∧ D [y, f] p W' := fun y p W hW => by
    rw [hD] at hW ⊢
    rw [hln]
    obtain ⟨g1, g2, g3, g4⟩ := hW
    refine (seenBy_any hb mn mx so l.length sc own W).mono ?_
    rintro x W' ⟨rfl, hW'⟩
    have t1 : Tch (fun _ => False) W W' := by rw [hW']; exact ((Tch.alloc _ _ _).allocR _).allocR _
    refine ⟨_, rfl, g1.trans' t1, fun _ => by simp, ⟨W.heap.size, rfl, ⟨?_, ?_, ?_, ((hi.no t0).no g1).no t1⟩⟩, keepP g4 t1⟩
    · rw [hW', ((Tch.alloc (fun _ => False) (W.alloc (.cells #[.pointer (some ⟨hb, 0, none⟩)] 29)) _).allocR _).block _ (by simp) (fun h => h)]; exact alloc_new _ _
    · rw [hW', (Tch.alloc (fun _ => False) ((W.alloc (.cells #[.pointer (some ⟨hb, 0, none⟩)] 29)).alloc (.cells #[.int .i64 mn, .int .i64 mx, .slice so l.length sc] 27)) _).block _ (by simp) (fun h => h)]
      have := alloc_new (W.alloc (.cells #[.pointer (some ⟨hb, 0, none⟩)] 29)) (.cells #[.int .i64 mn, .int .i64 mx, .slice so l.length sc] 27)
      rwa [World.size_alloc] at this
    · rw [hW']
      have := alloc_new ((W.alloc (.cells #[.pointer (some ⟨hb, 0, none⟩)] 29)).alloc (.cells #[.int .i64 mn, .int .i64 mx, .slice so l.length sc] 27)) (.cells #[.int .i64 own] 3)
      simp only [World.size_alloc] at this
      exact this
  have s2 : ∀ y f p W, D [y, f] p W → ∃ b, f = .func (.func 48) #[] #[.pointer (some ⟨b, 0, none⟩), .pointer (some ⟨b + 1, 0, none⟩), .pointer (some ⟨b + 1 + 1, 0, none⟩)] := fun y f p W hW => by
    rw [hD] at hW
    obtain ⟨_, _, ⟨b, e, _⟩, _⟩ := hW
    exact ⟨b, e⟩
  have c3 : ∀ y f p W, D [y, f] p W → Calls Try.prog 39 #[.slice co zn cc, f] W fun x W' => ∃ u, x = .returned u ∧ D [y, f, u] p W' := fun y f p W hW => by
    rw [hD] at hW ⊢
    rw [hzn]
    obtain ⟨g1, g2, ⟨b, rfl, sb⟩, g4⟩ := hW
    have hwW := hw.no g1
    refine (newest_any co cc zs (by omega) W (vr.tch g1) pr 48 #[] #[.pointer (some ⟨b, 0, none⟩), .pointer (some ⟨b + 1, 0, none⟩), .pointer (some ⟨b + 1 + 1, 0, none⟩)] ⟨enters_seen, fun z W2 hz t2 => ?_⟩).mono ?_
    · rw [hpr]
      exact seen1_any hb mb m W2 F (((hM.no t0).no g1).no t2) (hwW.no t2).c0 z.1.wr (vk z hz).lo (vk z hz).hi z.1.th z.2.1 z.1.n z.2.2 b (b + 1) (b + 1 + 1) mn mx l so sc own h3 h4 hl (sb.no t2)
    · rintro x W' ⟨hn, t'⟩
      rcases hn with ⟨ha, rfl⟩ | ⟨i, z, a1, a2, a3, rfl⟩
      · exact ⟨_, rfl, g1.trans' t', fun _ => by simp, ⟨_, _, _, _, _, _, rfl, .inl ⟨ha, rfl⟩⟩, keepP g4 t'⟩
      · exact ⟨_, rfl, g1.trans' t', fun _ => by simp, ⟨_, _, _, _, _, _, rfl, .inr ⟨i, z, a1, a2, a3, rfl⟩⟩, keepP g4 t'⟩
  have s3 : ∀ y f u p W, D [y, f, u] p W → ∃ a t o n c b, u = .tuple #[.agg #[.int .i64 a, .bool t, .slice o n c], .bool b] := fun y f u p W hW => by
    rw [hD] at hW
    obtain ⟨_, _, ⟨a, t, o, n, c, b, e, _⟩, _⟩ := hW
    exact ⟨a, t, o, n, c, b, e⟩
  have hptr : ∀ s v W, D s (some v) W → ∃ pb, v = .pointer (some ⟨pb, 0, none⟩) := fun s v W hW => by
    rw [hD] at hW
    obtain ⟨_, _, g3⟩ := hW
    match s, g3 with
    | [], g3 => obtain ⟨pb, e, _⟩ := g3 v rfl; exact ⟨pb, e⟩
    | [_], g3 => obtain ⟨pb, e, _⟩ := g3.2 v rfl; exact ⟨pb, e⟩
    | [_, _], g3 => obtain ⟨pb, e, _⟩ := g3.2 v rfl; exact ⟨pb, e⟩
    | [_, _, _], g3 => obtain ⟨pb, e, _⟩ := g3.2 v rfl; exact ⟨pb, e⟩
    | [_, _, _, _], g3 => obtain ⟨a, t, o, n, c, b, _, g4⟩ := g3; obtain ⟨pb, e, _⟩ := g4 v rfl; exact ⟨pb, e⟩
    | _ :: _ :: _ :: _ :: _ :: _, g3 => exact g3.elim
  have hst : ∀ y f a t o n c b (v' : Value) pb W, D [y, f, .tuple #[.agg #[.int .i64 a, .bool t, .slice o n c], .bool b]] (some (.pointer (some ⟨pb, 0, none⟩))) W → (W.cell? ⟨pb, 0, none⟩ = some (.int .i64 0) ∧ W.cell? ⟨pb, 1, none⟩ = some (.bool false) ∧ W.cell? ⟨pb, 2, none⟩ = some (.slice none 0 0)) ∧ (∀ j, W.frozen? ⟨pb, j, none⟩ = false) ∧ D [y, f, .tuple #[.agg #[.int .i64 a, .bool t, .slice o n c], .bool b], v'] (some (.pointer (some ⟨pb, 0, none⟩))) (((W.setCell ⟨pb, 0, none⟩ (.int .i64 a)).setCell ⟨pb, 1, none⟩ (.bool t)).setCell ⟨pb, 2, none⟩ (.slice o n c)) := fun y f a t o n c b v' pb W hW => by
    rw [hD] at hW ⊢
    obtain ⟨g1, g2, ⟨a', t', o', n', c', b', e, hn⟩, g4⟩ := hW
    obtain ⟨pb', ep, h5, h6⟩ := g4 _ rfl
    cases ep
    refine ⟨⟨by rw [blk_cell h6]; rfl, by rw [blk_cell h6]; rfl, by rw [blk_cell h6]; rfl⟩, fun j => blk_frozen h6 j, ?_⟩
    refine ⟨tch_new g1 h5 (set3_tch W pb _ _ _), (fun e => by cases e), a, t, o, n, c, b, ⟨rfl, hn⟩, fun q hq => ?_⟩
    cases hq
    exact ⟨pb, rfl, h5, set3_blk h6⟩
  have HEND : Hid (∀ y f a t o n c b v' pb W, D [y, f, .tuple #[.agg #[.int .i64 a, .bool t, .slice o n c], .bool b], v'] (some (.pointer (some ⟨pb, 0, none⟩))) W → W.heap[pb]? = some (.cells #[.int .i64 a, .bool t, .slice o n c] 84 (0, 0)) ∧ NwOut pr zs (.returned (.tuple #[.agg #[.int .i64 a, .bool t, .slice o n c], .bool b])) ∧ Tch (fun _ => False) w0 W) := fun y f a t o n c b v' pb W hW => by
    rw [hD] at hW
    obtain ⟨g1, _, a', t', o', n', c', b', ⟨e, hn⟩, g4⟩ := hW
    obtain ⟨pb', ep, _, h6⟩ := g4 _ rfl
    cases ep
    cases e
    exact ⟨h6, hn, g1⟩
  obtain ⟨GV, hGV⟩ : ∃ GV, GV = getV m mn mx l own (chL (labs E C) k S.data.toList) := ⟨_, rfl⟩
  have HGV : Hid (∀ a t o n c b, NwOut pr zs (.returned (.tuple #[.agg #[.int .i64 a, .bool t, .slice o n c], .bool b])) → (t = false → GV = none) ∧ (t = true → ∃ v : Ver, GV = some v ∧ v.n = n ∧ ∀ W, Tch (fun _ => False) w0 W → RdR W o n c v.cs)) := fun a t o n c b hn => by
    rw [hGV, ← vl]
    unfold getV
    rw [find_map]
    rcases hn with ⟨ha, e⟩ | ⟨i, z, a1, a2, a3, e⟩
    · cases e
      have : zs.reverse.find? (fun z => m.sees mn mx l own z.1.wr) = none := by
        rw [List.find?_eq_none]
        intro z hz
        have := ha z (List.mem_reverse.1 hz)
        rw [hpr] at this
        have this : m.sees mn mx l own z.1.wr = false := this
        rw [this]; exact fun h => by cases h
      rw [this]
      exact ⟨fun _ => rfl, fun e => by cases e⟩
    · cases e
      rw [hpr] at a2 a3
      rw [find_last (p := fun z => m.sees mn mx l own z.1.wr) a1 a2 a3]
      have hz := vk z (List.mem_of_getElem? a1)
      refine ⟨fun e => by simp [e], fun e => ⟨z.1, by simp [e], rfl, fun W t => (RdR.of_own hz.own hz.one hz.sm).no t⟩⟩
  rw [← hGV]
  have Hw0 : Hid _ := hw0
  have T0 : Hid _ := t0
  rw [← hln] at hw0 Hw0 ⊢
  clear h hw hcq hD vr vq vk vl hch hpr hGV hi h1 h2 hS h3 h4 hl hq hM t0 e0 hw0 hln hzn
  go_enter Try.func17, Try.ntmps17
  go_wp2_with fail
  have hw0 := Hw0.out
  rw [← hw0]
  clear hw0 Hw0
  refine wp_region_floo [3, 7, 8, 13] 12 _ D [0, 1, 2, 4, 5, 6, 3, 7, 8, 9, 10, 11, 12, 13, 14] (by kernel_rfl) (by kernel_rfl) rfl rfl (by rfl) (by kernel_rfl) (fun s a W hW b K Q hK' => ?_) h0' ?_
  · go_simp
    exact hK' _ _ (hFl s W hW)
  clear h0'
  refine floo_read rfl (by go_simp) (by rfl) (by rfl) ?_
  apply Exists.intro
  refine ⟨fun s' p' W hl hW b K Q hK' => ?_, fun K hK' => ?_⟩
  · obtain ⟨q0, q1, q2⟩ := hK _ _ W hW
    go_simp
    exact hK' W hW
  go_simp
  refine hK' _ ?_
  clear hK' K
  refine floo_read rfl (by go_simp) (by rfl) (by rfl) ?_
  apply Exists.intro
  refine ⟨fun s' p' W hl hW b K Q hK' => ?_, fun K hK' => ?_⟩
  · obtain ⟨q0, q1, q2⟩ := hK _ _ W hW
    go_simp
    exact hK' W hW
  go_simp
  refine hK' _ ?_
  clear hK' K
  refine floo_read rfl (by go_simp) (by rfl) (by rfl) ?_
  apply Exists.intro
  refine ⟨fun s' p' W hl hW b K Q hK' => ?_, fun K hK' => ?_⟩
  · obtain ⟨q0, q1, q2⟩ := hK _ _ W hW
    go_simp
    exact hK' W hW
  go_simp
  refine hK' _ ?_
  clear hK' K
  refine floo_read rfl (by go_simp) (by rfl) (by rfl) ?_
  apply Exists.intro
  refine ⟨fun s' p' W hl hW b K Q hK' => ?_, fun K hK' => ?_⟩
  · obtain ⟨q0, q1, q2⟩ := hK _ _ W hW
    go_simp
    exact hK' W hW
  go_simp
  refine hK' _ ?_
  clear hK' K
  refine floo_read rfl (by go_simp) (by rfl) (by rfl) ?_
  apply Exists.intro
  refine ⟨fun s' p' W hl hW b K Q hK' => ?_, fun K hK' => ?_⟩
  · obtain ⟨q0, q1, q2⟩ := hK _ _ W hW
    go_simp
    exact hK' W hW
  go_simp
  refine hK' _ ?_
  clear hK' K
  refine floo_read rfl (by go_simp) (by rfl) (by rfl) ?_
  apply Exists.intro
  refine ⟨fun s' p' W hl hW b K Q hK' => ?_, fun K hK' => ?_⟩
  · obtain ⟨q0, q1, q2⟩ := hK _ _ W hW
    go_simp
    exact hK' W hW
  go_simp
  refine hK' _ ?_
  clear hK' K
  refine floo_turn rfl (by go_simp) (by rfl) (fun p' hl W hW b K Q hK' => ?_) (fun u hu K hK' => ?_)
  · go_simp
    go_at_call 38
    refine (c1 p' W hW).mono ?_
    rintro x w' ⟨y, rfl, h1⟩
    exact hK' y w' h1
  obtain rfl : u = .slice co zn cc := by
    obtain ⟨p', W', _, hW'⟩ := hu
    exact s1 u p' W' hW'
  clear hu c1 s1
  go_simp
  refine hK' _ ?_
  clear hK' K
  refine floo_turn rfl (by go_simp) (by rfl) (fun p' hl W hW b K Q hK' => ?_) (fun u hu K hK' => ?_)
  · go_simp
    go_at_call 35
    refine (c2 _ p' W hW).mono ?_
    rintro x w' ⟨y, rfl, h1⟩
    exact hK' y w' h1
  obtain ⟨b9, rfl⟩ : ∃ b, u = .func (.func 48) #[] #[.pointer (some ⟨b, 0, none⟩), .pointer (some ⟨b + 1, 0, none⟩), .pointer (some ⟨b + 1 + 1, 0, none⟩)] := by
    obtain ⟨p', W', _, hW'⟩ := hu
    exact s2 _ u p' W' hW'
  clear hu c2 s2
  go_simp
  refine hK' _ ?_
  clear hK' K
  refine floo_turn rfl (by go_simp) (by rfl) (fun p' hl W hW b K Q hK' => ?_) (fun u hu K hK' => ?_)
  · go_simp
    go_at_call 39
    refine (c3 _ _ p' W hW).mono ?_
    rintro x w' ⟨y, rfl, h1⟩
    exact hK' y w' h1
  obtain ⟨va, vt, vo, vn, vc, vb, rfl⟩ : ∃ a t o n c b, u = .tuple #[.agg #[.int .i64 a, .bool t, .slice o n c], .bool b] := by
    obtain ⟨p', W', _, hW'⟩ := hu
    exact s3 _ _ u p' W' hW'
  clear hu c3 s3
  go_simp
  refine hK' _ ?_
  clear hK' K
  refine floo_read rfl (by go_simp) (by rfl) (by rfl) ?_
  apply Exists.intro
  refine ⟨fun s' p' W hl hW b K Q hK' => ?_, fun K hK' => ?_⟩
  · obtain ⟨q0, q1, q2⟩ := hK _ _ W hW
    go_simp
    exact hK' W hW
  go_simp
  refine hK' _ ?_
  clear hK' K
  refine floo_read rfl (by go_simp) (by rfl) (by rfl) ?_
  apply Exists.intro
  refine ⟨fun s' p' W hl hW b K Q hK' => ?_, fun K hK' => ?_⟩
  · obtain ⟨q0, q1, q2⟩ := hK _ _ W hW
    go_simp
    exact hK' W hW
  go_simp
  refine hK' _ ?_
  clear hK' K
  refine floo_read rfl (by go_simp) (by rfl) (by rfl) ?_
  apply Exists.intro
  refine ⟨fun s' p' W hl hW b K Q hK' => ?_, fun K hK' => ?_⟩
  · obtain ⟨q0, q1, q2⟩ := hK _ _ W hW
    go_simp
    exact hK' W hW
  go_simp
  refine hK' _ ?_
  clear hK' K
  refine floo_float rfl (by go_simp) (by rfl) (by rfl) (fun W hW b K Q hK' => ?_) (fun u hu K hK' => ?_)
  · go_simp
    exact hK' _ _ (hFl _ W hW)
  obtain ⟨pb, rfl⟩ : ∃ pb, u = .pointer (some ⟨pb, 0, none⟩) := by
    obtain ⟨s', W', hW'⟩ := hu
    exact hptr _ u W' hW'
  clear hu
  go_simp
  refine hK' _ ?_
  clear hK' K
  refine floo_turn rfl (by go_simp) (by rfl) (fun p' hl W hW b K Q hK' => ?_) (fun u hu K hK' => ?_)
  · obtain rfl := hl.some
    obtain ⟨⟨y0, y1, y2⟩, qf, qC⟩ := hst _ _ _ _ _ _ _ _ undef pb W hW
    have f0 := qf 0
    have f1 := qf 1
    have f2 := qf 2
    clear qf
    go_simp
    exact hK' _ _ qC
  clear hu
  go_simp
  refine hK' _ ?_
  clear hK' K
  refine floo_read rfl (by go_simp) (by rfl) (by rfl) ?_
  apply Exists.intro
  refine ⟨fun s' p' W hl hW b K Q hK' => ?_, fun K hK' => ?_⟩
  · obtain ⟨q0, q1, q2⟩ := hK _ _ W hW
    go_simp
    exact hK' W hW
  go_simp
  refine hK' _ ?_
  clear hK' K
  refine floo_nil ?_
  intro w3 hw3
  obtain ⟨hpb, hn, t3⟩ := HEND.out _ _ _ _ _ _ _ _ _ _ w3 hw3
  obtain ⟨gv0, gv1⟩ := HGV.out _ _ _ _ _ _ hn
  have p1 : w3.cell? ⟨pb, 1, none⟩ = some (.bool vt) := by rw [blk_cell hpb]; rfl
  have p2 : w3.cell? ⟨pb, 2, none⟩ = some (.slice vo vn vc) := by rw [blk_cell hpb]; rfl
  have T3 : Hid (Tch (fun _ => False) w w3) := T0.out.trans' t3
  cases vt
  · have hg : GV = none := gv0 rfl
    subst hg
    clear hK HEND HGV hFl hptr hst hw3 hn gv0 gv1 hpb t3
    go_wp2
    go_ret2
    exact ⟨rfl, T3.out⟩
  · obtain ⟨v, hg, hvn, hrd⟩ := gv1 rfl
    subst hg
    have qC := rclone_any vo vn vc v.cs w3 (hrd w3 t3)
    have HV : Hid (v.n = vn) := hvn
    have hsz : Hid (w.heap.size ≤ w3.heap.size) := T3.out.size
    clear hK HEND HGV hFl hptr hst hw3 hn gv0 gv1 hpb t3 hrd hvn
    go_wp2_with fail
    refine qC.mono ?_
    rintro x w7 ⟨⟨ro7, rc7, rfl, h7⟩, t7⟩
    have T7 : Hid (Tch (fun _ => False) w w7) := T3.out.trans' t7
    have H7 : Hid _ := own_low h7 hsz.out
    clear qC h7 t7
    go_wp2
    go_ret2
    exact ⟨⟨ro7, rc7, by rw [HV.out]; rfl, by rw [HV.out]; exact H7.out⟩, T7.out⟩
end Go.Proofs.Ytjbehnoococelaa
