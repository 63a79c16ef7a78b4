import Derived.Test.YtokgihmigkplaaaGreatMVs
import Derived.LoopN
set_option maxHeartbeats 4000000
set_option maxRecDepth 100000
namespace Go.Proofs.YtokgihmigkplaaaGreat
open Go.RowKit Go Go.Sort Go.Maps
end Go.Proofs.YtokgihmigkplaaaGreat
namespace Go.Proofs.YtokgihmigkplaaaGreat
open Go.RowKit Go Go.Sort Go.Maps
def chC (E : List En) (C : Nat → Ch) (k : Int) (s : List UInt8) : Ch := match lkE E k s with
  | some b => C b
  | none => (none, 0, [])
theorem chain_any (w : World) (hb mb tb : Nat) (T : List (Int × Nat)) (E : List En) (C : Nat → Ch) (σ : Nat → Option Nat) (q : Nat) (h : HW w hb mb tb T E C σ q) (k : Int) (h1 : -9223372036854775808 ≤ k) (h2 : k ≤ 9223372036854775807) (S : ByteArray) (hS : S.size ≤ maxLen) :
    Calls Tryz.prog 31 #[.pointer (some ⟨hb, 0, none⟩), .int .i64 k, .string S] w fun x w' => x = .returned (.slice (chC E C k S.data.toList).1 (chC E C k S.data.toList).2.2.length (chC E C k S.data.toList).2.1) ∧ w' = w := by
  have c1 := h.c1
  have gl := h.look h1 h2
  unfold chC
  cases hl : lkT T k with
  | none =>
    have he := h.noT hl S.data.toList
    have gn := look_nil w hS
    rw [hl] at gl
    rw [he]
    simp only [mapV, List.length_nil] at gl ⊢
    clear h hl he h1 h2
    go_enter Tryz.func31, Tryz.ntmps31
    go_wp2
    go_ret
    exact ⟨rfl, rfl⟩
  | some l =>
    have gk := h.look2 (lkT_mem hl) hS
    simp only at gk
    rw [hl] at gl
    simp only [mapV] at gl
    cases he : lkE E k S.data.toList with
    | none =>
      rw [he] at gk
      simp only [ptrV, List.length_nil] at gk ⊢
      clear h hl he h1 h2
      go_enter Tryz.func31, Tryz.ntmps31
      go_wp2
      go_ret
      exact ⟨rfl, rfl⟩
    | some cb =>
      rw [he] at gk
      have hcb := (h.chs _ (lkE_mem he)).1.blk
      simp only [ptrV] at gk hcb ⊢
      obtain ⟨⟨co, cc, zs⟩, hCc⟩ : ∃ c, c = C cb := ⟨_, rfl⟩
      rw [← hCc] at hcb ⊢
      simp only at hcb ⊢
      obtain ⟨ln, hln⟩ : ∃ ln, ln = zs.length := ⟨_, rfl⟩
      rw [← hln] at hcb ⊢
      have ec : w.cell? ⟨cb, 0, none⟩ = some (.slice co ln cc) := by rw [blk_cell hcb]; rfl
      clear h hl he h1 h2 hcb hln hCc
      go_enter Tryz.func31, Tryz.ntmps31
      go_wp2
      go_ret
      exact ⟨rfl, rfl⟩
theorem chC_ok {w : World} {hb mb tb : Nat} {T : List (Int × Nat)} {E : List En} {C : Nat → Ch} {σ : Nat → Option Nat} {q : Nat} (h : HW w hb mb tb T E C σ q) (k : Int) (s : List UInt8) : VRd w.heap.size w (chC E C k s).1 (chC E C k s).2.2 ∧ (chC E C k s).2.2.length ≤ q ∧ (∀ z ∈ (chC E C k s).2.2, VOK w σ z) ∧ (chC E C k s).2.2.map (·.1) = chL (labs E C) k s := by
  rw [chL_labs]
  unfold chC
  cases he : lkE E k s with
  | none => exact ⟨.inl ⟨rfl, rfl⟩, Nat.zero_le _, (fun z hz => by cases hz), rfl⟩
  | some cb =>
    obtain ⟨h1, h2⟩ := h.chs _ (lkE_mem he)
    exact ⟨vrd_of h1.row, h2, h1.ok, rfl⟩
def getV (m : Mg) (mn mx : Int) (l : List Int) (own : Int) (c : List Ver) : Option Ver := match c.reverse.find? (fun v => m.sees mn mx l own v.wr) with
  | some v => if v.th then some v else none
  | none => none
def GetOut (w : World) (o : Option Ver) (x : Ending) (w' : World) : Prop := (match o with
  | some v => ∃ ro rc, x = .returned (.tuple #[.slice ro v.n rc, .int .i64 0]) ∧ w'.ownsRow w.heap.size 89 3 (.slice ro v.n rc) v.n v.cs
  | none => x = .returned (.tuple #[.slice none 0 0, .int .i64 90])) ∧ Tch (fun _ => False) w w'
theorem enters_seen : ∀ args w, (callFunc 59 args).run Tryz.prog w = .ok (.enter 59 args) w := enters_of Tryz.func59 (by kernel_rfl) rfl
def Told (p : VV → Bool) (zs : List VV) (a : Int) (t : Bool) (o : Option Addr) (n c : Nat) (b : Bool) (x : Value) : Prop := x = .tuple #[.agg #[.int .i64 a, .bool t, .slice o n c], .bool b] ∧ NwOut p zs (.returned x)
def GC (w0 : World) (hb : Nat) (own mn mx : Int) (l : List Int) (so : Option Addr) (sc : Nat) (co : Option Addr) (cc : Nat) (zs : List VV) (pr : VV → Bool) (s : List Value) (p : Option Value) (W : World) : Prop :=
  Tch (fun _ => False) w0 W ∧ (p = none → s.length < 4) ∧
  (match s with
    | [] => ∀ q, p = some q → ∃ pb, q = .pointer (some ⟨pb, 0, none⟩) ∧ w0.heap.size ≤ pb ∧ W.heap[pb]? = some (.cells #[.int .i64 0, .bool false, .slice none 0 0] 79 (0, 0))
    | [c] => c = .slice co zs.length cc ∧ ∀ q, p = some q → ∃ pb, q = .pointer (some ⟨pb, 0, none⟩) ∧ w0.heap.size ≤ pb ∧ W.heap[pb]? = some (.cells #[.int .i64 0, .bool false, .slice none 0 0] 79 (0, 0))
    | [_, f] => (∃ b, f = .func (.func 59) #[] #[.pointer (some ⟨b, 0, none⟩), .pointer (some ⟨b + 1, 0, none⟩), .pointer (some ⟨b + 1 + 1, 0, none⟩)] ∧ SB W hb b (b + 1) (b + 1 + 1) mn mx l so sc own) ∧ ∀ q, p = some q → ∃ pb, q = .pointer (some ⟨pb, 0, none⟩) ∧ w0.heap.size ≤ pb ∧ W.heap[pb]? = some (.cells #[.int .i64 0, .bool false, .slice none 0 0] 79 (0, 0))
    | [_, _, x] => (∃ a t o n c b, Told pr zs a t o n c b x) ∧ ∀ q, p = some q → ∃ pb, q = .pointer (some ⟨pb, 0, none⟩) ∧ w0.heap.size ≤ pb ∧ W.heap[pb]? = some (.cells #[.int .i64 0, .bool false, .slice none 0 0] 79 (0, 0))
    | [_, _, x, _] => ∃ a t o n c b, Told pr zs a t o n c b x ∧ ∀ q, p = some q → ∃ pb, q = .pointer (some ⟨pb, 0, none⟩) ∧ w0.heap.size ≤ pb ∧ W.heap[pb]? = some (.cells #[.int .i64 a, .bool t, .slice o n c] 79 (0, 0))
    | _ => False)
section
variable {w0 : World} {hb : Nat} {own mn mx : Int} {l : List Int} {so : Option Addr} {sc : Nat} {co : Option Addr} {cc : Nat} {zs : List VV} {pr : VV → Bool}
theorem keepP {W W' : World} {p : Option Value} {N : Nat} {cs : Array Value} {t0 : TypeId} (h : ∀ q, p = some q → ∃ pb, q = .pointer (some ⟨pb, 0, none⟩) ∧ N ≤ pb ∧ W.heap[pb]? = some (.cells cs t0 (0, 0))) (t : Tch (fun _ => False) W W') : ∀ q, p = some q → ∃ pb, q = .pointer (some ⟨pb, 0, none⟩) ∧ N ≤ pb ∧ W'.heap[pb]? = some (.cells cs t0 (0, 0)) := fun q hq => by
  obtain ⟨pb, e, h1, h2⟩ := h q hq
  exact ⟨pb, e, h1, by rw [t.block _ (blk_lt h2) (fun h => h)]; exact h2⟩
theorem GC.float {s : List Value} {W : World} (h : GC w0 hb own mn mx l so sc co cc zs pr s none W) : GC w0 hb own mn mx l so sc co cc zs pr s (some (.pointer (some ⟨W.heap.size, 0, none⟩))) (W.alloc (.cells #[.int .i64 0, .bool false, .slice none 0 0] 79)) := by
  obtain ⟨h1, h2, h3⟩ := h
  have ta : Tch (fun _ => False) W (W.alloc (.cells #[.int .i64 0, .bool false, .slice none 0 0] 79)) := Tch.alloc _ _ _
  have hp : ∀ q, some (Value.pointer (some ⟨W.heap.size, 0, none⟩)) = some q → ∃ pb, q = .pointer (some ⟨pb, 0, none⟩) ∧ w0.heap.size ≤ pb ∧ (W.alloc (.cells #[.int .i64 0, .bool false, .slice none 0 0] 79)).heap[pb]? = some (.cells #[.int .i64 0, .bool false, .slice none 0 0] 79 (0, 0)) := fun q hq => by
    cases hq
    exact ⟨_, rfl, h1.size, alloc_new _ _⟩
  refine ⟨h1.trans' ta, (fun e => by cases e), ?_⟩
  match s, h2, h3 with
  | [], _, _ => exact hp
  | [_], _, h3 => exact ⟨h3.1, hp⟩
  | [_, _], _, h3 =>
    obtain ⟨⟨b, e, sb⟩, _⟩ := h3
    exact ⟨⟨b, e, sb.no ta⟩, hp⟩
  | [_, _, _], _, h3 => exact ⟨h3.1, hp⟩
  | [_, _, _, _], h2, _ => exact absurd (h2 rfl) (by simp)
  | _ :: _ :: _ :: _ :: _ :: _, _, h3 => exact h3.elim
theorem GC.tch {s : List Value} {p : Option Value} {W : World} (h : GC w0 hb own mn mx l so sc co cc zs pr s p W) : Tch (fun _ => False) w0 W := h.1
end
theorem get_w (w : World) (hb mb tb : Nat) (T : List (Int × Nat)) (E : List En) (C : Nat → Ch) (σ : Nat → Option Nat) (q : Nat) (h : HW w hb mb tb T E C σ q) (hq : q ≤ 2000) (m : Mg) (F : Nat → Prop) (hM : MF w mb m F) (k : Int) (h1 : -9223372036854775808 ≤ k) (h2 : k ≤ 9223372036854775807) (S : ByteArray) (hS : S.size ≤ maxLen) (mn mx : Int) (l : List Int) (so : Option Addr) (sc : Nat) (own : Int) (h3 : -9223372036854775808 ≤ own) (h4 : own ≤ 9223372036854775807) (hl : l.length ≤ 9223372036854775807) (hi : IR w so l) :
    Calls Tryz.prog 11 #[.pointer (some ⟨hb, 0, none⟩), .agg #[.int .i64 mn, .int .i64 mx, .slice so l.length sc], .int .i64 own, .int .i64 k, .string S] w fun x w' => GetOut w (getV m mn mx l own (chL (labs E C) k S.data.toList)) x w' := by
  obtain ⟨w0, hw0⟩ : ∃ w0, w0 = w.alloc (.cells #[.int .i64 mn, .int .i64 mx, .slice so l.length sc] 33) := ⟨_, rfl⟩
  have t0 : Tch (fun _ => False) w w0 := by rw [hw0]; exact Tch.alloc _ _ _
  have e0 : w0.heap[w.heap.size]? = some (.cells #[.int .i64 mn, .int .i64 mx, .slice so l.length sc] 33 (0, 0)) := by rw [hw0]; exact alloc_new _ _
  have hw := h.no t0
  obtain ⟨vr, vq, vk, vl⟩ := chC_ok hw k S.data.toList
  have hcq := fun W (t : Tch (fun _ => False) w0 W) => chain_any W hb mb tb T E C σ q (hw.no t) k h1 h2 S hS
  obtain ⟨⟨co, cc, zs⟩, hch⟩ : ∃ ch, ch = chC E C k S.data.toList := ⟨_, rfl⟩
  rw [← hch] at vr vq vk vl
  simp only [← hch] at hcq
  simp only at vr vq vk vl
  obtain ⟨pr, hpr⟩ : ∃ pr : VV → Bool, pr = fun z => m.sees mn mx l own z.1.wr := ⟨_, rfl⟩
  obtain ⟨D, hD⟩ : ∃ D : List Value → Option Value → World → Prop, D = GC w0 hb own mn mx l so sc co cc zs pr := ⟨_, rfl⟩
  obtain ⟨ln, hln⟩ : ∃ ln, ln = l.length := ⟨_, rfl⟩
  obtain ⟨zn, hzn⟩ : ∃ zn, zn = zs.length := ⟨_, rfl⟩
  have hK : ∀ s p W, D s p W → W.cell? ⟨w.heap.size, 0, none⟩ = some (.int .i64 mn) ∧ W.cell? ⟨w.heap.size, 1, none⟩ = some (.int .i64 mx) ∧ W.cell? ⟨w.heap.size, 2, none⟩ = some (.slice so ln sc) := fun s p W hW => by
    rw [hD] at hW
    have hb := (GC.tch hW).block _ (blk_lt e0) (fun h => h)
    rw [e0] at hb
    exact ⟨by rw [blk_cell hb]; rfl, by rw [blk_cell hb]; rfl, by rw [blk_cell hb, hln]; rfl⟩
  have h0' : D [] none w0.drew := by rw [hD]; exact ⟨(Tch.refl _ _).drew, fun _ => by decide, fun q hq => by cases hq⟩
  have hFl : ∀ s W, D s none W → D s (some (.pointer (some ⟨W.heap.size, 0, none⟩))) (W.alloc (.cells #[.int .i64 0, .bool false, .slice none 0 0] 79)) := fun s W hW => by
    rw [hD] at hW ⊢
    exact GC.float hW
  have c1 : ∀ p W, D [] p W → Calls Tryz.prog 31 #[.pointer (some ⟨hb, 0, none⟩), .int .i64 k, .string S] W fun x W' => ∃ y, x = .returned y ∧ D [y] p W' := fun p W hW => by
    rw [hD] at hW ⊢
    obtain ⟨g1, g2, g3⟩ := hW
    refine (hcq W g1).mono ?_
    rintro x W' ⟨rfl, rfl⟩
    exact ⟨_, rfl, g1, fun _ => by simp, rfl, g3⟩
  have s1 : ∀ y p W, D [y] p W → y = .slice co zn cc := fun y p W hW => by
    rw [hD] at hW
    rw [hzn]
    exact hW.2.2.1
  have c2 : ∀ y p W, D [y] p W → Calls Tryz.prog 33 #[.pointer (some ⟨hb, 0, none⟩), .agg #[.int .i64 mn, .int .i64 mx, .slice so ln sc], .int .i64 own] W fun x W' => ∃ f, x = .returned f ∧ D [y, f] p W' := fun y p W hW => by
    rw [hD] at hW ⊢
    rw [hln]
    obtain ⟨g1, g2, g3, g4⟩ := hW
    refine (seenBy_any hb mn mx so l.length sc own W).mono ?_
    rintro x W' ⟨rfl, hW'⟩
    have t1 : Tch (fun _ => False) W W' := by rw [hW']; exact ((Tch.alloc _ _ _).allocR _).allocR _
    refine ⟨_, rfl, g1.trans' t1, fun _ => by simp, ⟨W.heap.size, rfl, ⟨?_, ?_, ?_, ((hi.no t0).no g1).no t1⟩⟩, keepP g4 t1⟩
    · rw [hW', ((Tch.alloc (fun _ => False) (W.alloc (.cells #[.pointer (some ⟨hb, 0, none⟩)] 40)) _).allocR _).block _ (by simp) (fun h => h)]; exact alloc_new _ _
    · rw [hW', (Tch.alloc (fun _ => False) ((W.alloc (.cells #[.pointer (some ⟨hb, 0, none⟩)] 40)).alloc (.cells #[.int .i64 mn, .int .i64 mx, .slice so l.length sc] 33)) _).block _ (by simp) (fun h => h)]
      have := alloc_new (W.alloc (.cells #[.pointer (some ⟨hb, 0, none⟩)] 40)) (.cells #[.int .i64 mn, .int .i64 mx, .slice so l.length sc] 33)
      rwa [World.size_alloc] at this
    · rw [hW']
      have := alloc_new ((W.alloc (.cells #[.pointer (some ⟨hb, 0, none⟩)] 40)).alloc (.cells #[.int .i64 mn, .int .i64 mx, .slice so l.length sc] 33)) (.cells #[.int .i64 own] 3)
      simp only [World.size_alloc] at this
      exact this
  have s2 : ∀ y f p W, D [y, f] p W → ∃ b, f = .func (.func 59) #[] #[.pointer (some ⟨b, 0, none⟩), .pointer (some ⟨b + 1, 0, none⟩), .pointer (some ⟨b + 1 + 1, 0, none⟩)] := fun y f p W hW => by
    rw [hD] at hW
    obtain ⟨_, _, ⟨b, e, _⟩, _⟩ := hW
    exact ⟨b, e⟩
  have c3 : ∀ y f p W, D [y, f] p W → Calls Tryz.prog 32 #[.slice co zn cc, f] W fun x W' => ∃ u, x = .returned u ∧ D [y, f, u] p W' := fun y f p W hW => by
    rw [hD] at hW ⊢
    rw [hzn]
    obtain ⟨g1, g2, ⟨b, rfl, sb⟩, g4⟩ := hW
    have hwW := hw.no g1
    refine (newest_any co cc zs (by omega) W (vr.tch g1) pr 59 #[] #[.pointer (some ⟨b, 0, none⟩), .pointer (some ⟨b + 1, 0, none⟩), .pointer (some ⟨b + 1 + 1, 0, none⟩)] ⟨enters_seen, fun z W2 hz t2 => ?_⟩).mono ?_
    · rw [hpr]
      exact seen1_any hb mb m W2 F (((hM.no t0).no g1).no t2) (hwW.no t2).c0 z.1.wr (vk z hz).lo (vk z hz).hi z.1.th z.2.1 z.1.n z.2.2 b (b + 1) (b + 1 + 1) mn mx l so sc own h3 h4 hl (sb.no t2)
    · rintro x W' ⟨hn, t'⟩
      rcases hn with ⟨ha, rfl⟩ | ⟨i, z, a1, a2, a3, rfl⟩
      · exact ⟨_, rfl, g1.trans' t', fun _ => by simp, ⟨_, _, _, _, _, _, rfl, .inl ⟨ha, rfl⟩⟩, keepP g4 t'⟩
      · exact ⟨_, rfl, g1.trans' t', fun _ => by simp, ⟨_, _, _, _, _, _, rfl, .inr ⟨i, z, a1, a2, a3, rfl⟩⟩, keepP g4 t'⟩
  have s3 : ∀ y f u p W, D [y, f, u] p W → ∃ a t o n c b, u = .tuple #[.agg #[.int .i64 a, .bool t, .slice o n c], .bool b] := fun y f u p W hW => by
    rw [hD] at hW
    obtain ⟨_, _, ⟨a, t, o, n, c, b, e, _⟩, _⟩ := hW
    exact ⟨a, t, o, n, c, b, e⟩
  have hptr : ∀ s v W, D s (some v) W → ∃ pb, v = .pointer (some ⟨pb, 0, none⟩) := fun s v W hW => by
    rw [hD] at hW
    obtain ⟨_, _, g3⟩ := hW
    match s, g3 with
    | [], g3 => obtain ⟨pb, e, _⟩ := g3 v rfl; exact ⟨pb, e⟩
    | [_], g3 => obtain ⟨pb, e, _⟩ := g3.2 v rfl; exact ⟨pb, e⟩
    | [_, _], g3 => obtain ⟨pb, e, _⟩ := g3.2 v rfl; exact ⟨pb, e⟩
    | [_, _, _], g3 => obtain ⟨pb, e, _⟩ := g3.2 v rfl; exact ⟨pb, e⟩
    | [_, _, _, _], g3 => obtain ⟨a, t, o, n, c, b, _, g4⟩ := g3; obtain ⟨pb, e, _⟩ := g4 v rfl; exact ⟨pb, e⟩
    | _ :: _ :: _ :: _ :: _ :: _, g3 => exact g3.elim
  have hst : ∀ y f a t o n c b (v' : Value) pb W, D [y, f, .tuple #[.agg #[.int .i64 a, .bool t, .slice o n c], .bool b]] (some (.pointer (some ⟨pb, 0, none⟩))) W → (W.cell? ⟨pb, 0, none⟩ = some (.int .i64 0) ∧ W.cell? ⟨pb, 1, none⟩ = some (.bool false) ∧ W.cell? ⟨pb, 2, none⟩ = some (.slice none 0 0)) ∧ (∀ j, W.frozen? ⟨pb, j, none⟩ = false) ∧ D [y, f, .tuple #[.agg #[.int .i64 a, .bool t, .slice o n c], .bool b], v'] (some (.pointer (some ⟨pb, 0, none⟩))) (((W.setCell ⟨pb, 0, none⟩ (.int .i64 a)).setCell ⟨pb, 1, none⟩ (.bool t)).setCell ⟨pb, 2, none⟩ (.slice o n c)) := fun y f a t o n c b v' pb W hW => by
    rw [hD] at hW ⊢
    obtain ⟨g1, g2, ⟨a', t', o', n', c', b', e, hn⟩, g4⟩ := hW
    obtain ⟨pb', ep, h5, h6⟩ := g4 _ rfl
    cases ep
    refine ⟨⟨by rw [blk_cell h6]; rfl, by rw [blk_cell h6]; rfl, by rw [blk_cell h6]; rfl⟩, fun j => blk_frozen h6 j, ?_⟩
    refine ⟨tch_new g1 h5 (set3_tch W pb _ _ _), (fun e => by cases e), a, t, o, n, c, b, ⟨rfl, hn⟩, fun q hq => ?_⟩
    cases hq
    exact ⟨pb, rfl, h5, set3_blk h6⟩
  have HEND : Hid (∀ y f a t o n c b v' pb W, D [y, f, .tuple #[.agg #[.int .i64 a, .bool t, .slice o n c], .bool b], v'] (some (.pointer (some ⟨pb, 0, none⟩))) W → W.heap[pb]? = some (.cells #[.int .i64 a, .bool t, .slice o n c] 79 (0, 0)) ∧ NwOut pr zs (.returned (.tuple #[.agg #[.int .i64 a, .bool t, .slice o n c], .bool b])) ∧ Tch (fun _ => False) w0 W) := fun y f a t o n c b v' pb W hW => by
    rw [hD] at hW
    obtain ⟨g1, _, a', t', o', n', c', b', ⟨e, hn⟩, g4⟩ := hW
    obtain ⟨pb', ep, _, h6⟩ := g4 _ rfl
    cases ep
    cases e
    exact ⟨h6, hn, g1⟩
  obtain ⟨GV, hGV⟩ : ∃ GV, GV = getV m mn mx l own (chL (labs E C) k S.data.toList) := ⟨_, rfl⟩
  have HGV : Hid (∀ a t o n c b, NwOut pr zs (.returned (.tuple #[.agg #[.int .i64 a, .bool t, .slice o n c], .bool b])) → (t = false → GV = none) ∧ (t = true → ∃ v : Ver, GV = some v ∧ v.n = n ∧ ∀ W, Tch (fun _ => False) w0 W → RdR W o n c v.cs)) := fun a t o n c b hn => by
    rw [hGV, ← vl]
    unfold getV
    rw [find_map]
    rcases hn with ⟨ha, e⟩ | ⟨i, z, a1, a2, a3, e⟩
    · cases e
      have : zs.reverse.find? (fun z => m.sees mn mx l own z.1.wr) = none := by
        rw [List.find?_eq_none]
        intro z hz
        have := ha z (List.mem_reverse.1 hz)
        rw [hpr] at this
        have this : m.sees mn mx l own z.1.wr = false := this
        rw [this]; exact fun h => by cases h
      rw [this]
      exact ⟨fun _ => rfl, fun e => by cases e⟩
    · cases e
      rw [hpr] at a2 a3
      rw [find_last (p := fun z => m.sees mn mx l own z.1.wr) a1 a2 a3]
      have hz := vk z (List.mem_of_getElem? a1)
      refine ⟨fun e => by simp [e], fun e => ⟨z.1, by simp [e], rfl, fun W t => (RdR.of_own hz.own hz.one hz.sm).no t⟩⟩
  rw [← hGV]
  have Hw0 : Hid _ := hw0
  have T0 : Hid _ := t0
  rw [← hln] at hw0 Hw0 ⊢
  clear h hw hcq hD vr vq vk vl hch hpr hGV hi h1 h2 hS h3 h4 hl hq hM t0 e0 hw0 hln hzn
  go_enter Tryz.func11, Tryz.ntmps11
  go_wp2_with fail
  have hw0 := Hw0.out
  rw [← hw0]
  clear hw0 Hw0
  refine wp_region_floo [3, 7, 8, 13] 12 _ D [0, 1, 2, 4, 5, 6, 3, 7, 8, 9, 10, 11, 12, 13, 14] (by kernel_rfl) (by kernel_rfl) rfl rfl (by rfl) (by kernel_rfl) (fun s a W hW b K Q hK' => ?_) h0' ?_
  · go_simp
    exact hK' _ _ (hFl s W hW)
  clear h0'
  refine floo_read rfl (by go_simp) (by rfl) (by rfl) ?_
  apply Exists.intro
  refine ⟨fun s' p' W hl hW b K Q hK' => ?_, fun K hK' => ?_⟩
  · obtain ⟨q0, q1, q2⟩ := hK _ _ W hW
    go_simp
    exact hK' W hW
  go_simp
  refine hK' _ ?_
  clear hK' K
  refine floo_read rfl (by go_simp) (by rfl) (by rfl) ?_
  apply Exists.intro
  refine ⟨fun s' p' W hl hW b K Q hK' => ?_, fun K hK' => ?_⟩
  · obtain ⟨q0, q1, q2⟩ := hK _ _ W hW
    go_simp
    exact hK' W hW
  go_simp
  refine hK' _ ?_
  clear hK' K
  refine floo_read rfl (by go_simp) (by rfl) (by rfl) ?_
  apply Exists.intro
  refine ⟨fun s' p' W hl hW b K Q hK' => ?_, fun K hK' => ?_⟩
  · obtain ⟨q0, q1, q2⟩ := hK _ _ W hW
    go_simp
    exact hK' W hW
  go_simp
  refine hK' _ ?_
  clear hK' K
  refine floo_read rfl (by go_simp) (by rfl) (by rfl) ?_
  apply Exists.intro
  refine ⟨fun s' p' W hl hW b K Q hK' => ?_, fun K hK' => ?_⟩
  · obtain ⟨q0, q1, q2⟩ := hK _ _ W hW
    go_simp
    exact hK' W hW
  go_simp
  refine hK' _ ?_
  clear hK' K
  refine floo_read rfl (by go_simp) (by rfl) (by rfl) ?_
  apply Exists.intro
  refine ⟨fun s' p' W hl hW b K Q hK' => ?_, fun K hK' => ?_⟩
  · obtain ⟨q0, q1, q2⟩ := hK _ _ W hW
    go_simp
    exact hK' W hW
  go_simp
  refine hK' _ ?_
  clear hK' K
  refine floo_read rfl (by go_simp) (by rfl) (by rfl) ?_
  apply Exists.intro
  refine ⟨fun s' p' W hl hW b K Q hK' => ?_, fun K hK' => ?_⟩
  · obtain ⟨q0, q1, q2⟩ := hK _ _ W hW
    go_simp
    exact hK' W hW
  go_simp
  refine hK' _ ?_
  clear hK' K
  refine floo_turn rfl (by go_simp) (by rfl) (fun p' hl W hW b K Q hK' => ?_) (fun u hu K hK' => ?_)
  · go_simp
    go_at_call 31
    refine (c1 p' W hW).mono ?_
    rintro x w' ⟨y, rfl, h1⟩
    exact hK' y w' h1
  obtain rfl : u = .slice co zn cc := by
    obtain ⟨p', W', _, hW'⟩ := hu
    exact s1 u p' W' hW'
  clear hu c1 s1
  go_simp
  refine hK' _ ?_
  clear hK' K
  refine floo_turn rfl (by go_simp) (by rfl) (fun p' hl W hW b K Q hK' => ?_) (fun u hu K hK' => ?_)
  · go_simp
    go_at_call 33
    refine (c2 _ p' W hW).mono ?_
    rintro x w' ⟨y, rfl, h1⟩
    exact hK' y w' h1
  obtain ⟨b9, rfl⟩ : ∃ b, u = .func (.func 59) #[] #[.pointer (some ⟨b, 0, none⟩), .pointer (some ⟨b + 1, 0, none⟩), .pointer (some ⟨b + 1 + 1, 0, none⟩)] := by
    obtain ⟨p', W', _, hW'⟩ := hu
    exact s2 _ u p' W' hW'
  clear hu c2 s2
  go_simp
  refine hK' _ ?_
  clear hK' K
  refine floo_turn rfl (by go_simp) (by rfl) (fun p' hl W hW b K Q hK' => ?_) (fun u hu K hK' => ?_)
  · go_simp
    go_at_call 32
    refine (c3 _ _ p' W hW).mono ?_
    rintro x w' ⟨y, rfl, h1⟩
    exact hK' y w' h1
  obtain ⟨va, vt, vo, vn, vc, vb, rfl⟩ : ∃ a t o n c b, u = .tuple #[.agg #[.int .i64 a, .bool t, .slice o n c], .bool b] := by
    obtain ⟨p', W', _, hW'⟩ := hu
    exact s3 _ _ u p' W' hW'
  clear hu c3 s3
  go_simp
  refine hK' _ ?_
  clear hK' K
  refine floo_read rfl (by go_simp) (by rfl) (by rfl) ?_
  apply Exists.intro
  refine ⟨fun s' p' W hl hW b K Q hK' => ?_, fun K hK' => ?_⟩
  · obtain ⟨q0, q1, q2⟩ := hK _ _ W hW
    go_simp
    exact hK' W hW
  go_simp
  refine hK' _ ?_
  clear hK' K
  refine floo_read rfl (by go_simp) (by rfl) (by rfl) ?_
  apply Exists.intro
  refine ⟨fun s' p' W hl hW b K Q hK' => ?_, fun K hK' => ?_⟩
  · obtain ⟨q0, q1, q2⟩ := hK _ _ W hW
    go_simp
    exact hK' W hW
  go_simp
  refine hK' _ ?_
  clear hK' K
  refine floo_read rfl (by go_simp) (by rfl) (by rfl) ?_
  apply Exists.intro
  refine ⟨fun s' p' W hl hW b K Q hK' => ?_, fun K hK' => ?_⟩
  · obtain ⟨q0, q1, q2⟩ := hK _ _ W hW
    go_simp
    exact hK' W hW
  go_simp
  refine hK' _ ?_
  clear hK' K
  refine floo_float rfl (by go_simp) (by rfl) (by rfl) (fun W hW b K Q hK' => ?_) (fun u hu K hK' => ?_)
  · go_simp
    exact hK' _ _ (hFl _ W hW)
  obtain ⟨pb, rfl⟩ : ∃ pb, u = .pointer (some ⟨pb, 0, none⟩) := by
    obtain ⟨s', W', hW'⟩ := hu
    exact hptr _ u W' hW'
  clear hu
  go_simp
  refine hK' _ ?_
  clear hK' K
  refine floo_turn rfl (by go_simp) (by rfl) (fun p' hl W hW b K Q hK' => ?_) (fun u hu K hK' => ?_)
  · obtain rfl := hl.some
    obtain ⟨⟨y0, y1, y2⟩, qf, qC⟩ := hst _ _ _ _ _ _ _ _ undef pb W hW
    have f0 := qf 0
    have f1 := qf 1
    have f2 := qf 2
    clear qf
    go_simp
    exact hK' _ _ qC
  clear hu
  go_simp
  refine hK' _ ?_
  clear hK' K
  refine floo_read rfl (by go_simp) (by rfl) (by rfl) ?_
  apply Exists.intro
  refine ⟨fun s' p' W hl hW b K Q hK' => ?_, fun K hK' => ?_⟩
  · obtain ⟨q0, q1, q2⟩ := hK _ _ W hW
    go_simp
    exact hK' W hW
  go_simp
  refine hK' _ ?_
  clear hK' K
  refine floo_nil ?_
  intro w3 hw3
  obtain ⟨hpb, hn, t3⟩ := HEND.out _ _ _ _ _ _ _ _ _ _ w3 hw3
  obtain ⟨gv0, gv1⟩ := HGV.out _ _ _ _ _ _ hn
  have p1 : w3.cell? ⟨pb, 1, none⟩ = some (.bool vt) := by rw [blk_cell hpb]; rfl
  have p2 : w3.cell? ⟨pb, 2, none⟩ = some (.slice vo vn vc) := by rw [blk_cell hpb]; rfl
  have T3 : Hid (Tch (fun _ => False) w w3) := T0.out.trans' t3
  cases vt
  · have hg : GV = none := gv0 rfl
    subst hg
    clear hK HEND HGV hFl hptr hst hw3 hn gv0 gv1 hpb t3
    go_wp2
    go_ret2
    exact ⟨rfl, T3.out⟩
  · obtain ⟨v, hg, hvn, hrd⟩ := gv1 rfl
    subst hg
    have qC := rclone_any vo vn vc v.cs w3 (hrd w3 t3)
    have HV : Hid (v.n = vn) := hvn
    have hsz : Hid (w.heap.size ≤ w3.heap.size) := T3.out.size
    clear hK HEND HGV hFl hptr hst hw3 hn gv0 gv1 hpb t3 hrd hvn
    go_wp2_with fail
    refine qC.mono ?_
    rintro x w7 ⟨⟨ro7, rc7, rfl, h7⟩, t7⟩
    have T7 : Hid (Tch (fun _ => False) w w7) := T3.out.trans' t7
    have H7 : Hid _ := own_low h7 hsz.out
    clear qC h7 t7
    go_wp2
    go_ret2
    exact ⟨⟨ro7, rc7, by rw [HV.out]; rfl, by rw [HV.out]; exact H7.out⟩, T7.out⟩
end Go.Proofs.YtokgihmigkplaaaGreat
namespace Go.Proofs.YtokgihmigkplaaaGreat
open Go.RowKit Go Go.Sort Go.Maps
theorem pick9_any (c : Int) (n : Nat) (w : World) (h1 : -9223372036854775808 ≤ c) (h2 : c ≤ 9223372036854775807) (hn : 0 < n) (hn2 : n ≤ 9223372036854775807) : Calls Tryz.prog 7 #[.int .i64 c, .int .i64 n] w fun x w' => x = .returned (.int .i64 (pkN c n)) ∧ w' = w := by
  have hn0 : ¬ (n : Int) = 0 := by omega
  have hnb : ((n : Int) == 0) = false := by simp; omega
  by_cases hc : c < 0
  · obtain ⟨d, hd⟩ : ∃ d : Nat, -(c + 1) = d := ⟨(-(c + 1)).toNat, by omega⟩
    obtain ⟨rfl⟩ : c = -(d : Int) - 1 := by omega
    have HE : Hid (((d : Int) % n) = (pkN (-(d : Int) - 1) n : Nat)) := by
      show _ = _
      have e : (if (-(d : Int) - 1) < 0 then -((-(d : Int) - 1) + 1) else (-(d : Int) - 1)) = (d : Int) := by rw [if_pos hc]; omega
      simp only [pkN, e]
      have := Int.emod_nonneg (d : Int) (show (n : Int) ≠ 0 by omega)
      omega
    clear hd
    go_enter Tryz.func7, Tryz.ntmps7
    go_wp2
    go_ret
    exact ⟨by rw [← HE.out]; rfl, rfl⟩
  · obtain ⟨d, rfl⟩ : ∃ d : Nat, c = d := ⟨c.toNat, by omega⟩
    have HE : Hid (((d : Int) % n) = (pkN (d : Int) n : Nat)) := by
      show _ = _
      have e : (if (d : Int) < 0 then -((d : Int) + 1) else (d : Int)) = (d : Int) := if_neg (by omega)
      simp only [pkN, e]
      have := Int.emod_nonneg (d : Int) (show (n : Int) ≠ 0 by omega)
      omega
    go_enter Tryz.func7, Tryz.ntmps7
    go_wp2
    go_ret
    exact ⟨by rw [← HE.out]; rfl, rfl⟩
section
variable {w : World} {hb mb : Nat} {m : Mg} {L : HL} {F : Nat → Prop} {q : Nat}
theorem HS.fresh {w' : World} (h : HS w hb mb m L F q) (t : Tch (fun _ => False) w w') : HS w' hb mb m L (fun i => F i ∨ w.heap.size ≤ i ∧ i < w'.heap.size) q := by
  obtain ⟨tb, T, E, C, σ, h1, h2, h3, h4, h5⟩ := h
  refine ⟨tb, T, E, C, σ, h1.no t, h2, h3, (h4.fresh t).mono (fun i hi => ?_), fun i hi => ?_⟩
  · rcases hi with (hi | hi) | hi
    · exact .inl (.inl hi)
    · exact .inr hi
    · exact .inl (.inr hi)
  · rcases hi with hi | hi
    · exact ⟨(h5 i hi).1, Nat.lt_of_lt_of_le (h5 i hi).2 t.size⟩
    · refine ⟨?_, hi.2⟩
      cases hs : σ i with
      | none => rfl
      | some a => exact absurd (h1.dom i (by rw [hs]; exact fun h => by cases h)) (by omega)
theorem HS.tch {S : Nat → Prop} {w' : World} (h : HS w hb mb m L F q) (t : Tch S w w') (hS : ∀ i, i < w.heap.size → S i → F i) : HS w' hb mb m L F q := by
  obtain ⟨tb, T, E, C, σ, h1, h2, h3, h4, h5⟩ := h
  exact ⟨tb, T, E, C, σ, h1.tch t (fun i hi hs => (h5 i (hS i hi hs)).1), h2, h3, h4.tch t (fun i hi hs => .inl (hS i hi hs)), fun i hi => ⟨(h5 i hi).1, Nat.lt_of_lt_of_le (h5 i hi).2 t.size⟩⟩
theorem hs_turn {f : FuncId} {args : Array Value} {X : Ending → Prop} {m' : Mg} (h : HS w hb mb m L F q) (hc : ∀ F', MF w mb m F' → Calls Tryz.prog f args w fun x w' => X x ∧ MF w' mb m' F' ∧ Kept F' w w') : Calls Tryz.prog f args w fun x w' => X x ∧ HS w' hb mb m' L F q ∧ Kept F w w' := by
  obtain ⟨tb, T, E, C, σ, h1, h2, h3, h4, h5⟩ := h
  refine (hc _ h4).mono ?_
  rintro x w' ⟨hx, hM, t⟩
  refine ⟨hx, ⟨tb, T, E, C, σ, h1.tch t (fun i _ hs => ?_), h2, h3, hM, fun i hi => ⟨(h5 i hi).1, Nat.lt_of_lt_of_le (h5 i hi).2 t.size⟩⟩, t.mono (fun i _ hs hf => hs (.inl hf))⟩
  cases hs' : σ i with
  | none => rfl
  | some a => exact absurd (Or.inr (by rw [hs']; exact fun h => by cases h)) hs
theorem HS.mf (h : HS w hb mb m L F q) : ∃ F', MF w mb m F' := by
  obtain ⟨tb, T, E, C, σ, h1, h2, h3, h4, h5⟩ := h
  exact ⟨_, h4⟩
theorem begin_h (h : HS w hb mb m L F q) (hn : m.nx ≤ 2147483647) : Calls Tryz.prog 17 #[.pointer (some ⟨mb, 0, none⟩)] w fun x w' => x = .returned (.tuple #[.int .i64 m.nx, .int .i64 0]) ∧ HS w' hb mb m.begin L F q ∧ Kept F w w' := hs_turn (X := fun x => x = .returned (.tuple #[.int .i64 m.nx, .int .i64 0])) h (fun F' hM => begin_f mb m w F' hM hn)
theorem snapshot_h (h : HS w hb mb m L F q) : Calls Tryz.prog 12 #[.pointer (some ⟨mb, 0, none⟩)] w fun x w' => SnapOut m w x w' := by
  obtain ⟨F', hM⟩ := h.mf
  exact snapshot_f mb m w F' hM
theorem part_h (h : HS w hb mb m L F q) {k : Int} {t : Tx} {i : Int} (hf : fnd m.tx k = some (t, i)) (hp : partE m t i = 0) (h1 : -9223372036854775808 ≤ k) (h2 : k ≤ 9223372036854775807) : Calls Tryz.prog 46 #[.pointer (some ⟨mb, 0, none⟩), .int .i64 k] w fun x w' => x = .returned (.tuple #[.int .i64 m.nx, .int .i64 0]) ∧ HS w' hb mb (m.part t i) L F q ∧ Kept F w w' := hs_turn (X := fun x => x = .returned (.tuple #[.int .i64 m.nx, .int .i64 0])) h (fun F' hM => (part_f mb m w F' hM k h1 h2).mono (fun _ _ ⟨_, ho⟩ => (ho.2 t i hf).2 hp))
theorem back_h (h : HS w hb mb m L F q) {k : Int} {t : Tx} {i : Nat} (hf : fnd m.tx k = some (t, (i : Int))) (hp : may t i = true) (h1 : -9223372036854775808 ≤ k) (h2 : k ≤ 9223372036854775807) : Calls Tryz.prog 47 #[.pointer (some ⟨mb, 0, none⟩), .int .i64 k] w fun x w' => x = .returned (.int .i64 0) ∧ HS w' hb mb (m.endp t.x i 2) L F q ∧ Kept F w w' := hs_turn (X := fun x => x = .returned (.int .i64 0)) h (fun F' hM => (back_f mb m w F' hM k h1 h2).mono (fun _ _ ⟨_, ho⟩ => ho.2 t i hf hp))
theorem commit_h (h : HS w hb mb m L F q) {k : Int} {t : Tx} (hf : fnd m.tx k = some (t, -1)) (hp : t.st < 3) (h1 : -9223372036854775808 ≤ k) (h2 : k ≤ 9223372036854775807) : Calls Tryz.prog 20 #[.pointer (some ⟨mb, 0, none⟩), .int .i64 k] w fun x w' => x = .returned (.int .i64 0) ∧ HS w' hb mb (m.fin t.x 3) L F q ∧ Kept F w w' := hs_turn (X := fun x => x = .returned (.int .i64 0)) h (fun F' hM => (commit_f mb m w F' hM k h1 h2).mono (fun _ _ ⟨_, ho⟩ => (ho.2 t hf).2 (by omega)))
theorem get_f (h : HS w hb mb m L F q) (hq : q ≤ 2000) (k : Int) (h1 : -9223372036854775808 ≤ k) (h2 : k ≤ 9223372036854775807) (S : ByteArray) (hS : S.size ≤ maxLen) (mn mx : Int) (l : List Int) (so : Option Addr) (sc : Nat) (own : Int) (h3 : -9223372036854775808 ≤ own) (h4 : own ≤ 9223372036854775807) (hl : l.length ≤ 9223372036854775807) (hi : IR w so l) :
    Calls Tryz.prog 11 #[.pointer (some ⟨hb, 0, none⟩), .agg #[.int .i64 mn, .int .i64 mx, .slice so l.length sc], .int .i64 own, .int .i64 k, .string S] w fun x w' => GetOut w (getV m mn mx l own (chL L k S.data.toList)) x w' := by
  obtain ⟨tb, T, E, C, σ, hw, rfl, _, hM, _⟩ := h
  exact get_w w hb mb tb T E C σ q hw hq m _ hM k h1 h2 S hS mn mx l so sc own h3 h4 hl hi
end
def keyB (k : Nat) : ByteArray := ⟨#[107, UInt8.ofNat (97 + k)]⟩
theorem cv_byte (n : Nat) (hn : n < 256) (w : World) : (convert 95 9 (.slice (some ⟨w.heap.size, 0, none⟩) 1 1)).run Tryz.prog (w.alloc (.cells #[.int .u8 (n : Int)] 5)) = .ok (.string ⟨#[UInt8.ofNat n]⟩) (w.alloc (.cells #[.int .u8 (n : Int)] 5)) := by
  have := run_convert_bytes_back (P := Tryz.prog) (w.alloc (.cells #[.int .u8 (n : Int)] 5)) 95 9 5 ⟨w.heap.size, 0, none⟩ 1 [UInt8.ofNat n] Tryz.underlying95 Tryz.underlying5 Tryz.underlying9 (fun j hj => by
    have e : j = 0 := by simpa using hj
    subst e
    rw [add_plain, blk_cell (alloc_new _ _)]
    simp [Nat.mod_eq_of_lt hn])
  exact this
theorem keyOf_any (k : Nat) (hk : k < 6) (w : World) : Calls Tryz.prog 13 #[.int .i64 k] w fun x w' => x = .returned (.string (keyB k)) ∧ Tch (fun _ => False) w w' := by
  rcases (by omega : k = 0 ∨ k = 1 ∨ k = 2 ∨ k = 3 ∨ k = 4 ∨ k = 5) with rfl | rfl | rfl | rfl | rfl | rfl
  · have hcv : (convert 95 9 (.slice (some ⟨w.heap.size, 0, none⟩) 1 1)).run Tryz.prog (w.alloc (.cells #[.int .u8 97] 5)) = .ok (.string ⟨#[97]⟩) (w.alloc (.cells #[.int .u8 97] 5)) := cv_byte 97 (by decide) w
    go_enter Tryz.func13, Tryz.ntmps13
    go_wp2
    go_ret
    exact ⟨rfl, Tch.alloc _ _ _⟩
  · have hcv : (convert 95 9 (.slice (some ⟨w.heap.size, 0, none⟩) 1 1)).run Tryz.prog (w.alloc (.cells #[.int .u8 98] 5)) = .ok (.string ⟨#[98]⟩) (w.alloc (.cells #[.int .u8 98] 5)) := cv_byte 98 (by decide) w
    go_enter Tryz.func13, Tryz.ntmps13
    go_wp2
    go_ret
    exact ⟨rfl, Tch.alloc _ _ _⟩
  · have hcv : (convert 95 9 (.slice (some ⟨w.heap.size, 0, none⟩) 1 1)).run Tryz.prog (w.alloc (.cells #[.int .u8 99] 5)) = .ok (.string ⟨#[99]⟩) (w.alloc (.cells #[.int .u8 99] 5)) := cv_byte 99 (by decide) w
    go_enter Tryz.func13, Tryz.ntmps13
    go_wp2
    go_ret
    exact ⟨rfl, Tch.alloc _ _ _⟩
  · have hcv : (convert 95 9 (.slice (some ⟨w.heap.size, 0, none⟩) 1 1)).run Tryz.prog (w.alloc (.cells #[.int .u8 100] 5)) = .ok (.string ⟨#[100]⟩) (w.alloc (.cells #[.int .u8 100] 5)) := cv_byte 100 (by decide) w
    go_enter Tryz.func13, Tryz.ntmps13
    go_wp2
    go_ret
    exact ⟨rfl, Tch.alloc _ _ _⟩
  · have hcv : (convert 95 9 (.slice (some ⟨w.heap.size, 0, none⟩) 1 1)).run Tryz.prog (w.alloc (.cells #[.int .u8 101] 5)) = .ok (.string ⟨#[101]⟩) (w.alloc (.cells #[.int .u8 101] 5)) := cv_byte 101 (by decide) w
    go_enter Tryz.func13, Tryz.ntmps13
    go_wp2
    go_ret
    exact ⟨rfl, Tch.alloc _ _ _⟩
  · have hcv : (convert 95 9 (.slice (some ⟨w.heap.size, 0, none⟩) 1 1)).run Tryz.prog (w.alloc (.cells #[.int .u8 102] 5)) = .ok (.string ⟨#[102]⟩) (w.alloc (.cells #[.int .u8 102] 5)) := cv_byte 102 (by decide) w
    go_enter Tryz.func13, Tryz.ntmps13
    go_wp2
    go_ret
    exact ⟨rfl, Tch.alloc _ _ _⟩
def rowC (c : Int) : List Value := [.int .i64 1, .int .i64 c, .string ⟨#[]⟩]
theorem row_any (c : Int) (w : World) : Calls Tryz.prog 19 #[.int .i64 c] w fun x w' => x = .returned (.slice (some ⟨w.heap.size, 0, none⟩) 1 1) ∧ w' = w.alloc (.cells #[.int .i64 1, .int .i64 c, .string ⟨#[]⟩] 89) := by
  go_enter Tryz.func19, Tryz.ntmps19
  go_wp2
  go_ret
  exact ⟨rfl, rfl⟩
theorem row_rd (c : Int) (w : World) : RdR (w.alloc (.cells #[.int .i64 1, .int .i64 c, .string ⟨#[]⟩] 89)) (some ⟨w.heap.size, 0, none⟩) 1 1 (rowC c) := by
  refine ⟨rfl, by simp [rowC, Value.oneCell'], by omega, .inr ⟨_, _, rfl, by simp, fun j u hu => ?_⟩⟩
  rw [blk_cell (alloc_new _ _)]
  simpa [rowC] using hu
theorem number_any (ao : Option Addr) (c : Nat) (k : Nat) (w : World) (hk : k ≤ 1000) (h : RdR w ao 1 c (rowC k)) : Calls Tryz.prog 14 #[.slice ao 1 c, .int .i64 0] w fun x w' => x = .returned (.int .i64 (k + 1 : Nat)) ∧ w' = w := by
  rcases h.at' with ⟨_, h0, _⟩ | ⟨g, o, rfl, hg, hc⟩
  · cases h0
  have c0 := hc 0 _ rfl
  have c1 := hc 1 _ rfl
  have c0' : w.cell? ⟨g, o, none⟩ = some (.int .i64 1) := c0
  have hwp : wrap64 ((k : Int) + 1) = ((k + 1 : Nat) : Int) := by unfold wrap64; omega
  clear h hc c0
  go_enter Tryz.func14, Tryz.ntmps14
  go_wp2
  go_ret
  exact ⟨rfl, rfl⟩
end Go.Proofs.YtokgihmigkplaaaGreat
