import Derived.Test.YtnjiiebjdpipjaaTEnds
import Derived.RangeFuncNested
import Derived.RangeFuncBound
import Derived.RangeFuncCalls
import Derived.RangeFuncLeaves
import Derived.Shelf.Abstract
import Derived.Shelf.RegionOpen
import Derived.WalkKit
import Derived.OwnWalkIn
import Derived.TacticsInMore
import Derived.LoopNIn
import Derived.LoopIn
import Derived.Test.YtnjiiebjdpipjaaTCmp
/- What a span has of a node: the pieces of its places, one behind the other. -/
namespace Go.Proofs.Ytnjiiebjdpipjaa
open Go.RowKit Go

/-- The keys from one on, up to another one. -/
def inSp (f o : ByteArray) (e : It) : Bool := decide (0 ≤ kc e.1 f) && (decide (o = ⟨#[]⟩) || decide (kc e.1 o < 0))
def sp (f o : ByteArray) (l : List It) : List It := l.filter (inSp f o)
def fall (b : Bool) (l : List It) : List It := if b then l.reverse else l
/-- What a walk gives. -/
def wlk (f o : ByteArray) (b : Bool) (l : List It) : List It := fall b (sp f o l)
theorem sp_app (f o : ByteArray) (a b : List It) : sp f o (a ++ b) = sp f o a ++ sp f o b := by simp [sp]
theorem sp_none {f o : ByteArray} {l : List It} (h : ∀ e ∈ l, inSp f o e = false) : sp f o l = [] := by
  unfold sp
  rw [List.filter_eq_nil_iff]
  intro e he
  rw [h e he]
  exact Bool.false_ne_true
theorem inSp_lo {f o : ByteArray} {e : It} (h : Lo f e) : inSp f o e = false := by
  unfold Lo at h
  unfold inSp
  rw [decide_eq_false (by omega)]
  rfl
def cut (l : List It) (x y : Nat) : List It := (l.take y).drop x
theorem cut_app (l : List It) (x y z : Nat) (h1 : x ≤ y) (h2 : y ≤ z) : cut l x z = cut l x y ++ cut l y z := by
  unfold cut
  obtain ⟨d, rfl⟩ : ∃ d, z = y + d := ⟨z - y, by omega⟩
  rw [List.take_add]
  by_cases hy : y ≤ l.length
  · rw [List.drop_append_of_le_length (by rw [List.length_take]; omega)]
    congr 1
    rw [List.drop_append, List.drop_of_length_le (l := l.take y) (by rw [List.length_take]; omega), List.nil_append, List.length_take, Nat.min_eq_left hy, Nat.sub_self]
    rfl
  · have e : l.drop y = [] := List.drop_of_length_le (by omega)
    rw [e]
    have e2 : l.take y = l := List.take_of_length_le (by omega)
    simp only [List.take_nil, List.append_nil, e2]
    rw [List.drop_of_length_le (i := y) (by omega), List.append_nil]
theorem cut_all (l : List It) (y : Nat) (h : l.length ≤ y) : cut l 0 y = l := by unfold cut; rw [List.take_of_length_le h]; rfl
theorem cut_mid (A K B : List It) : cut (A ++ (K ++ B)) A.length (A.length + K.length) = K := by
  unfold cut
  rw [← List.append_assoc, List.take_append_of_le_length (by rw [List.length_append]; omega), List.take_of_length_le (by rw [List.length_append]; omega), List.drop_append_of_le_length (Nat.le_refl _), List.drop_length, List.nil_append]
theorem cut_self (l : List It) (x : Nat) : cut l x x = [] := by unfold cut; exact List.drop_of_length_le (by rw [List.length_take]; omega)
/-- Where a place begins among all that is under a node. -/
def pos (h : Nat) (t : Nd It h) (q : Nat) : Nat := aheadN h t (q / 2) + (if q % 2 = 1 then kl h t (q / 2) else 0)
theorem pos_even (h : Nat) (t : Nd It h) (i : Nat) : pos h t (2 * i) = aheadN h t i := by
  unfold pos
  rw [show 2 * i / 2 = i by omega, if_neg (by omega)]
  omega
theorem pos_odd (h : Nat) (t : Nd It h) (i : Nat) : pos h t (2 * i + 1) = aheadN h t i + kl h t i := by
  unfold pos
  rw [show (2 * i + 1) / 2 = i by omega, if_pos (by omega)]
theorem pos_next (h : Nat) (t : Nd It h) (i : Nat) : pos h t (2 * i + 2) = aheadN h t i + kl h t i + 1 := by
  rw [show 2 * i + 2 = 2 * (i + 1) by omega, pos_even, aheadN_succ]
  omega
theorem pos_mono1 (h : Nat) (t : Nd It h) (q : Nat) : pos h t q ≤ pos h t (q + 1) := by
  rcases Nat.mod_two_eq_zero_or_one q with e | e
  · rw [show q = 2 * (q / 2) by omega, pos_even, pos_odd]; omega
  · rw [show q = 2 * (q / 2) + 1 by omega, pos_odd, pos_next]; omega
theorem pos_mono (h : Nat) (t : Nd It h) (q d : Nat) : pos h t q ≤ pos h t (q + d) := by
  induction d with
  | zero => exact Nat.le_refl _
  | succ d ih => exact Nat.le_trans ih (pos_mono1 h t (q + d))
theorem pos_le (h : Nat) (t : Nd It h) {q q' : Nat} (hq : q ≤ q') : pos h t q ≤ pos h t q' := by
  have := pos_mono h t q (q' - q)
  rwa [show q + (q' - q) = q' by omega] at this
/-- What has come when k places are over. -/
def cm (h : Nat) (t : Nd It h) (f o : ByteArray) (b : Bool) (i j k : Nat) : List It :=
  if b then (sp f o (cut (t.flat h) (pos h t (2 * j + 1 - k)) (pos h t (2 * j + 1)))).reverse else sp f o (cut (t.flat h) (pos h t (2 * i)) (pos h t (2 * i + k)))
def plc (b : Bool) (i j k : Nat) : Nat := if b then 2 * j - k else 2 * i + k
theorem cm_zero (h : Nat) (t : Nd It h) (f o : ByteArray) (b : Bool) (i j : Nat) : cm h t f o b i j 0 = [] := by
  unfold cm
  cases b
  · rw [if_neg (by simp), Nat.add_zero, cut_self]; rfl
  · rw [if_pos rfl, Nat.sub_zero, cut_self]; rfl
theorem cm_step (h : Nat) (t : Nd It h) (f o : ByteArray) (b : Bool) (i j k : Nat) (hk : k ≤ 2 * j) : cm h t f o b i j (k + 1) = cm h t f o b i j k ++ wlk f o b (cut (t.flat h) (pos h t (plc b i j k)) (pos h t (plc b i j k + 1))) := by
  unfold cm plc wlk fall
  cases b
  · simp only [Bool.false_eq_true, if_false]
    rw [show 2 * i + (k + 1) = 2 * i + k + 1 by omega, cut_app _ _ (pos h t (2 * i + k)) _ (pos_le _ _ (by omega)) (pos_mono1 _ _ _), sp_app]
  · simp only [if_true]
    rw [show 2 * j + 1 - (k + 1) = 2 * j - k by omega, show 2 * j + 1 - k = 2 * j - k + 1 by omega, cut_app _ _ (pos h t (2 * j - k + 1)) _ (pos_mono1 _ _ _) (pos_le _ _ (by omega)), sp_app, List.reverse_append]
theorem cm_pre (h : Nat) (t : Nd It h) (f o : ByteArray) (b : Bool) (i j k d : Nat) (hk : k + d ≤ 2 * j + 1) : cm h t f o b i j k <+: cm h t f o b i j (k + d) := by
  induction d with
  | zero => exact List.prefix_refl _
  | succ d ih =>
    refine (ih (by omega)).trans ?_
    rw [show k + (d + 1) = k + d + 1 by omega, cm_step _ _ _ _ _ _ _ _ (by omega)]
    exact List.prefix_append _ _
/-- What ends gives. -/
structure Ends (t : List It) (f o : ByteArray) (i j : Nat) : Prop where
  il : i ≤ t.length
  jl : j ≤ t.length
  lo : ∀ e ∈ t.take i, Lo f e
  hi : ∀ e ∈ t.drop i, 0 ≤ kc e.1 f
  to_lo : ∀ e ∈ t.take j, o = ⟨#[]⟩ ∨ kc e.1 o < 0
  to_hi : ∀ e ∈ t.drop j, o ≠ ⟨#[]⟩ ∧ 0 ≤ kc e.1 o
theorem found_hi {l : List It} {k : ByteArray} {i : Nat} {th : Bool} (hs : Sorted l) (hf : Found l k i th) : ∀ e ∈ l.drop i, 0 ≤ kc e.1 k := fun e he => by
  cases th with
  | false => have := hf.hi rfl e he; unfold Hi at this; omega
  | true =>
    obtain ⟨it, hit, hk⟩ := hf.at_ rfl
    obtain ⟨h1, h2⟩ := List.getElem?_eq_some_iff.1 hit
    have hd : Sorted (l.drop i) := hs.sublist (List.drop_sublist _ _)
    rw [List.drop_eq_getElem_cons h1, h2] at he hd
    rcases List.mem_cons.1 he with rfl | he
    · rw [hk, kc_self]; exact Int.le_refl _
    · have := (List.pairwise_cons.1 hd).1 e he
      unfold KL at this
      rw [hk] at this
      have := kc_flip k e.1
      omega
theorem ends_of {t : List It} {f o : ByteArray} {i j : Nat} (hs : Sorted t) (h1 : ∃ th, Found t f i th) (h2 : EndAt t o j) : Ends t f o i j := by
  obtain ⟨th, h1⟩ := h1
  rcases h2 with ⟨e, rfl⟩ | ⟨hne, th2, h2⟩
  · exact ⟨h1.le, Nat.le_refl _, h1.lo, found_hi hs h1, fun e' _ => .inl e, fun e' he => by rw [List.drop_length] at he; cases he⟩
  · exact ⟨h1.le, h2.le, h1.lo, found_hi hs h1, fun e' he => .inr (h2.lo e' he), fun e' he => ⟨hne, found_hi hs h2 e' he⟩⟩
theorem inSp_item {t : List It} {f o : ByteArray} {i j c : Nat} (h : Ends t f o i j) (hi : i ≤ c) (hj : c < j) (e : It) (he : t[c]? = some e) : inSp f o e = true := by
  obtain ⟨hc, rfl⟩ := List.getElem?_eq_some_iff.1 he
  have h1 := h.hi t[c] (by rw [List.mem_iff_getElem?]; exact ⟨c - i, by rw [List.getElem?_drop, show i + (c - i) = c by omega]; exact he⟩)
  have h2 := h.to_lo t[c] (by rw [List.mem_iff_getElem?]; exact ⟨c, by rw [List.getElem?_take, if_pos hj]; exact he⟩)
  unfold inSp
  rw [decide_eq_true h1]
  rcases h2 with h2 | h2
  · rw [decide_eq_true h2]; rfl
  · rw [decide_eq_true h2]; simp
/-- The pieces of a place. -/
theorem Pl.kid_cut {w : World} {h p : Nat} {t : Nd It h} {i : Nat} {v : Option Addr} {A K B : List It} (hp : Pl w h p t i v A K B) : cut (t.flat h) (pos h t (2 * i)) (pos h t (2 * i + 1)) = K := by
  rw [pos_even, pos_odd, hp.flat, ← hp.alen, ← hp.klen]
  unfold cut
  rw [← List.append_assoc, List.take_append_of_le_length (by rw [List.length_append]; omega), List.take_of_length_le (by rw [List.length_append]; omega), List.drop_append_of_le_length (Nat.le_refl _), List.drop_length, List.nil_append]
theorem Pl.item_cut {w : World} {h p : Nat} {t : Nd It h} {i : Nat} {v : Option Addr} {A K B : List It} (hp : Pl w h p t i v A K B) {it : It} {B' : List It} (hB : B = it :: B') : cut (t.flat h) (pos h t (2 * i + 1)) (pos h t (2 * i + 1 + 1)) = [it] := by
  rw [show 2 * i + 1 + 1 = 2 * i + 2 by omega, pos_odd, pos_next, hp.flat, ← hp.alen, ← hp.klen, hB]
  unfold cut
  rw [show A ++ (K ++ it :: B') = (A ++ K ++ [it]) ++ B' by simp, List.take_append_of_le_length (by simp only [List.length_append, List.length_cons, List.length_nil]; omega), List.take_of_length_le (by simp only [List.length_append, List.length_cons, List.length_nil]; omega), List.drop_append_of_le_length (by simp), List.drop_of_length_le (by simp)]
  rfl
/-- What lies ahead of a span and behind it is none of it. -/
theorem sp_cut {w : World} {h p : Nat} {t : Nd It h} {f o : ByteArray} {i j : Nat} {v v' : Option Addr} {A K B A' K' B' : List It} (he : Ends t.its f o i j) (hs : Sorted (t.flat h)) (h1 : Pl w h p t i v A K B) (h2 : Pl w h p t j v' A' K' B') :
    sp f o (cut (t.flat h) 0 (pos h t (2 * i))) = [] ∧ sp f o (cut (t.flat h) (pos h t (2 * j + 1)) (t.flat h).length) = [] := by
  constructor
  · refine sp_none (fun e hm => inSp_lo (h1.lo (Lo f) (fun _ _ => Lo.of) hs he.lo e ?_))
    rw [pos_even, h1.flat, ← h1.alen] at hm
    unfold cut at hm
    rw [List.take_append_of_le_length (Nat.le_refl _), List.take_length] at hm
    exact hm
  · refine sp_none (fun e hm => ?_)
    have hB : e ∈ B' := by
      rw [pos_odd, h2.flat, ← h2.alen, ← h2.klen] at hm
      unfold cut at hm
      rw [List.take_length, ← List.append_assoc, List.drop_append_of_le_length (by rw [List.length_append]; omega), List.drop_of_length_le (by rw [List.length_append]; omega)] at hm
      exact hm
    have h3 := h2.hi (fun e => o ≠ ⟨#[]⟩ ∧ 0 ≤ kc e.1 o) (fun e e' hl hq => ⟨hq.1, by
      rcases Int.lt_or_le (kc e'.1 o) 0 with hlt | hge
      · have := kc_trans hl hlt
        omega
      · exact hge⟩) hs he.to_hi e hB
    unfold inSp
    rw [decide_eq_false h3.1, decide_eq_false (p := kc e.1 o < 0) (by omega)]
    simp
theorem cm_all {w : World} {h p : Nat} {t : Nd It h} {f o : ByteArray} {i j : Nat} {v v' : Option Addr} {A K B A' K' B' : List It} (b : Bool) (he : Ends t.its f o i j) (hs : Sorted (t.flat h)) (h1 : Pl w h p t i v A K B) (h2 : Pl w h p t j v' A' K' B') (hij : i ≤ j) :
    cm h t f o b i j (2 * j - 2 * i + 1) = wlk f o b (t.flat h) := by
  obtain ⟨e1, e2⟩ := sp_cut he hs h1 h2
  have hl : pos h t (2 * j + 1) ≤ (t.flat h).length := by rw [pos_odd, h2.sum]; omega
  have e3 : sp f o (t.flat h) = sp f o (cut (t.flat h) (pos h t (2 * i)) (pos h t (2 * j + 1))) := by
    have h4 := cut_app (t.flat h) 0 (pos h t (2 * i)) (t.flat h).length (Nat.zero_le _) (Nat.le_trans (pos_le h t (q' := 2 * j + 1) (by omega)) hl)
    rw [cut_app (t.flat h) (pos h t (2 * i)) (pos h t (2 * j + 1)) (t.flat h).length (pos_le h t (by omega)) hl, cut_all _ _ (Nat.le_refl _)] at h4
    conv => lhs; rw [h4]
    rw [sp_app, sp_app, e1, e2, List.nil_append, List.append_nil]
  unfold cm wlk fall
  rw [e3]
  cases b
  · simp only [Bool.false_eq_true, if_false]
    rw [show 2 * i + (2 * j - 2 * i + 1) = 2 * j + 1 by omega]
  · simp only [if_true]
    rw [show 2 * j + 1 - (2 * j - 2 * i + 1) = 2 * i by omega]
theorem cm_none {w : World} {h p : Nat} {t : Nd It h} {f o : ByteArray} {i j : Nat} {v v' : Option Addr} {A K B A' K' B' : List It} (b : Bool) (he : Ends t.its f o i j) (hs : Sorted (t.flat h)) (h1 : Pl w h p t i v A K B) (h2 : Pl w h p t j v' A' K' B') (hij : j < i) :
    wlk f o b (t.flat h) = [] := by
  obtain ⟨e1, e2⟩ := sp_cut he hs h1 h2
  have hl : pos h t (2 * i) ≤ (t.flat h).length := by rw [pos_even, h1.sum]; omega
  have hp : pos h t (2 * j + 1) ≤ pos h t (2 * i) := pos_le h t (by omega)
  have e3 : sp f o (t.flat h) = [] := by
    have h4 := cut_app (t.flat h) 0 (pos h t (2 * i)) (t.flat h).length (Nat.zero_le _) hl
    have h5 := cut_app (t.flat h) (pos h t (2 * j + 1)) (pos h t (2 * i)) (t.flat h).length hp hl
    rw [h5, sp_app] at e2
    rw [cut_all _ _ (Nat.le_refl _)] at h4
    rw [h4, sp_app, e1, (List.append_eq_nil_iff.1 e2).2]
    rfl
  unfold wlk fall
  rw [e3]
  cases b <;> rfl
/-- A kid in the world, and its piece. -/
theorem kid_pc {h : Nat} {w : World} {t : Nd It (h + 1)} {qs FF : List Nat} (hK : Kids (h + 1) w t qs FF) (hok : t.ok) (i : Nat) (hi : i ≤ t.its.length) :
    ∃ (q : Nat) (kk : Nd It h) (Fk : List Nat), qs[i]? = some q ∧ NW h w q kk Fk ∧ (∀ x ∈ Fk, x ∈ FF) ∧ kk.ok ∧ cut (t.flat (h + 1)) (pos (h + 1) t (2 * i)) (pos (h + 1) t (2 * i + 1)) = kk.flat h ∧ (Sorted (t.flat (h + 1)) → Sorted (kk.flat h)) := by
  have hsu := (ok_iff (h + 1) t).1 hok
  have he := sub_even (h + 1) t hsu.2
  have hi' : i ≤ t.1.length := hi
  obtain ⟨ka, kb, kk, et, hka, hkb, hma, hmb, hmk⟩ := node_at t i hi he
  have hA : (t.1.take i).length = i := by rw [List.length_take]; omega
  have hfl : Nd.flat (h + 1) t = mix (t.1.take i) (ka.map (Nd.flat h) ++ [[]]) ++ (kk.flat h ++ mix (t.1.drop i) ([] :: kb.map (Nd.flat h))) := by
    have h8 := kid_mid h (t.1.take i) (t.1.drop i) ka kb kk (by omega)
    rw [← et] at h8
    exact h8
  have e2 : t.2 = ka ++ kk :: kb := congrArg Prod.snd et
  have hN' : KidsOf (NW h w) (ka ++ kk :: kb) qs FF := by
    have hk : KidsOf (NW h w) t.2 qs FF := hK
    rw [e2] at hk
    exact hk
  obtain ⟨k1, k2, q, Fk, rfl, rfl, hk1, hk2, hq, h1, h2⟩ := kids_at hN'
  have hki : (kP k1 ++ q :: kP k2)[i]? = some q := by rw [List.getElem?_append_right (by rw [kP_len, ← hk1]; omega), kP_len, ← hk1, hka, Nat.sub_self]; rfl
  have hkl : kl (h + 1) t i = (kk.flat h).length := by
    show ((t.2.map (Nd.flat h)).map List.length).getD i 0 = _
    rw [e2, List.getD_eq_getElem?_getD, List.map_append, List.map_append, List.getElem?_append_right (by simp [hka])]
    simp [hka]
  have hah : aheadN (h + 1) t i = i + ((ka.map (Nd.flat h)).map List.length).sum := by
    unfold aheadN klS
    have h9 := sum_take ((t.2.map (Nd.flat h)).map List.length) i
    have h10 : ((t.2.map (Nd.flat h)).map List.length).take i = (ka.map (Nd.flat h)).map List.length := by
      rw [e2, List.map_append, List.map_append, List.take_append_of_le_length (by simp [hka]), List.take_of_length_le (by simp [hka])]
    rw [h10] at h9
    rw [← h9]
    rfl
  refine ⟨q, kk, Fk, hki, hq, fun x hx => List.mem_append.2 (.inr (List.mem_append.2 (.inl hx))), (hsu.2.2 kk hmk).1, ?_, fun hs => ?_⟩
  · have hal : (mix (t.1.take i) (ka.map (Nd.flat h) ++ [[]])).length = aheadN (h + 1) t i := by rw [ahead_len _ _ (by rw [List.length_map]; omega), hah, hA]
    rw [pos_even, pos_odd, hkl, hfl, ← hal]
    exact cut_mid _ _ _
  · rw [hfl] at hs
    exact (List.pairwise_append.1 (List.pairwise_append.1 hs).2.1).1
theorem kids_none {w : World} {t : Nd It 0} {qs FF : List Nat} (hK : Kids 0 w t qs FF) : qs = [] := hK.1
theorem cut_leaf (t : Nd It 0) (i : Nat) : cut (t.flat 0) (pos 0 t (2 * i)) (pos 0 t (2 * i + 1)) = [] := by
  rw [pos_even, pos_odd]
  show cut (t.flat 0) (aheadN 0 t i) (aheadN 0 t i + 0) = []
  rw [Nat.add_zero, cut_self]
end Go.Proofs.Ytnjiiebjdpipjaa
/- A range over an iterator that hands on what it is handed: an iterator whose rounds may be rounds of a loop around. -/
namespace Go.Proofs.Ytnjiiebjdpipjaa
open Go.RowKit Go Go.Shelf

theorem Tch.putObj {S : Nat → Prop} (W : World) (l : Nat) (o : Obj) (h : S l) : Tch S W (W.putObj l o) :=
  ⟨rfl, rfl, rfl, by simp, fun k _ hk => World.putObj_heap_other (fun e => hk (e ▸ h))⟩
/-- What a loop knows abides what an iterator does: it turns nothing but blocks behind the loop's record that are not the rounds' own (Z). -/
def Abl {α : Type} (l : Nat) (J : List α → (Nat → Prop) → World → Prop) : Prop := ∀ pre Z W W', J pre Z W → Tch (fun k => l < k ∧ ¬ Z k) W W' → J pre Z W'
/-- A round: it turns nothing but T and what is its own (Z); what it makes is its own; true: on; false: no more. -/
def Rnd (T Z : Nat → Prop) (W : World) (J Jx : (Nat → Prop) → World → Prop) : Ending → World → Prop := fun e W' =>
  ∃ Z', (∀ k, Z' k → Z k ∨ (W.heap.size ≤ k ∧ k < W'.heap.size)) ∧ Tch (fun k => T k ∨ Z k) W W' ∧ ((e = .returned (.bool true) ∧ J Z' W') ∨ (e = .returned (.bool false) ∧ Jx Z' W'))
/-- AN ITERATOR over L that reads the blocks Y: its rounds are those of the loop l. -/
def SeqL {α : Type} (n : Nat) (P : Program) (g : Nat) (lb : Array Value) (encs : α → Array Value) (Y : Nat → Prop) (L : List α) (w : World) : Prop :=
  ∀ (l : Nat) (J Jx : List α → (Nat → Prop) → World → Prop) (T Z : Nat → Prop) (W : World), w.heap.size ≤ l → l < W.heap.size → Tch (fun _ => False) w W → (∀ k, T k → k ≤ l ∧ ¬ Y k) → (∀ k, Z k → k < W.heap.size ∧ ¬ Y k) → Abl l J → Abl l Jx →
    (∀ m pre x Z1 W1, pre ++ [x] <+: L → J pre Z1 W1 → YieldAt Fence.wide m P l (encs x) W1 (Rnd T Z1 W1 (J (pre ++ [x])) (Jx (pre ++ [x])))) →
    J [] Z W →
    CallsIn Fence.wide n P g (#[.func (.yield l) #[] #[]] ++ lb) W fun e W' => (∃ v, e = .returned v) ∧ ∃ Z', J L Z' W' ∨ ∃ pre, pre <+: L ∧ Jx pre Z' W'

/-- How the body of a round may be left. -/
def Lft (T Z : Nat → Prop) (W W' : World) (I : (Nat → Prop) → World → Prop) : Prop := ∃ Z', (∀ k, Z' k → Z k ∨ (W.heap.size ≤ k ∧ k < W'.heap.size)) ∧ Tch (fun k => T k ∨ Z k) W W' ∧ I Z' W'
def lPost {α : Type} (T Z : Nat → Prop) (I : List α → (Nat → Prop) → World → Prop) (Ix : Code → List α → (Nat → Prop) → World → Prop) (xs : List α) (W : World) : Exit → Act → World → Prop
  | .normal, _, W' => Lft T Z W W' (I xs)
  | .ret, _, W' => Lft T Z W W' (Ix .ret xs)
  | .exit id, _, W' => Lft T Z W W' (Ix (.exit id) xs)
  | .goto t, _, W' => Lft T Z W W' (Ix (.goto t) xs)
  | .panic _, _, _ => False
  | .outgrown, _, _ => False

theorem room_of_wide (k : Nat) : Fence.wide.room k := fun d h => by cases h
theorem RoundIn.deep {m m' : Nat} {P : Program} {l : Nat} {f : FuncId} {tmps : Array Value} {assign body : Code} {w : World} {R : Ending → World → Prop}
    (h : RoundIn Fence.wide m P l f tmps assign body w R) : RoundIn Fence.wide m' P l f tmps assign body w R := ⟨h.1, fun c cs _ => h.2 c cs (room_of_wide _)⟩
theorem YieldAt.inRound {F : Fence} {m : Nat} {P : Program} {l : Nat} {args : Array Value} {W : World} {R : Ending → World → Prop} (l' : Nat) (h : YieldAt F m P l args W R) : YieldAt (F.inRound l') m P l args W R := h

theorem range_l {α : Type} {n : Nat} {P : Program} {g : Operand} {ps : Array Tmp} {assign body : Code} {Q : Exit → Act → World → Prop} {a : Act} {w : World}
    {gf : Nat} {lb : Array Value} (hg : a.eval g = .func (.func gf) #[] lb) (eg : ∀ args w, (callFunc gf args).run P w = .ok (.enter gf args) w)
    {encs : α → Array Value} {Y : Nat → Prop} {L : List α} (hseq : SeqL (n - 1) P gf lb encs Y L w) (hps : ∀ x, (encs x).size = ps.size)
    (T Z : Nat → Prop) (hT : ∀ k, T k → k < w.heap.size ∧ ¬ Y k) (hZ : ∀ k, Z k → k < w.heap.size ∧ ¬ Y k) (hYw : ∀ k, Y k → k < w.heap.size)
    (I : List α → (Nat → Prop) → World → Prop) (Ix : Code → List α → (Nat → Prop) → World → Prop)
    (hI : ∀ pre Z W W', I pre Z W → Tch (fun k => w.heap.size ≤ k ∧ ¬ Z k) W W' → I pre Z W') (hIx : ∀ c pre Z W W', Ix c pre Z W → Tch (fun k => w.heap.size ≤ k ∧ ¬ Z k) W W' → Ix c pre Z W') (h0 : I [] Z w) (a₁ : α → Act)
    (hassign : ∀ (l : Nat) (x : α) (W : World) (K : Act → World → Prop), K (a₁ x) W →
      assign.wpIn (Fence.wide.inRound l) (n - 1 - 1) P (Exit.then K (fun _ _ _ => False)) { tmps := (ps.zip (encs x)).foldl (fun t (p, v) => t.setIfInBounds p v) a.tmps, defers := [] } W)
    (hbody : ∀ (l : Nat) (pre : List α) (x : α) (Z1 : Nat → Prop) (W : World), pre ++ [x] <+: L → I pre Z1 W → body.wpIn (Fence.wide.inRound l) (n - 1 - 1) P (lPost T Z1 I Ix (pre ++ [x]) W) (a₁ x) W)
    (hdone : ∀ (D : Nat) (Z1 : Nat → Prop) (W : World), w.heap.size ≤ D → ¬ Z1 D → I L Z1 W → W.heap[D]? = some (.deferred (some [])) → Q .normal { a with defers := { target := .collected D, args := #[] } :: a.defers } W)
    (hstop : ∀ (D : Nat) (c : Code) (pre : List α) (Z1 : Nat → Prop) (W : World), w.heap.size ≤ D → ¬ Z1 D → pre <+: L → Ix c pre Z1 W → W.heap[D]? = some (.deferred (some [])) → c.wpIn Fence.wide n P Q { a with defers := { target := .collected D, args := #[] } :: a.defers } W) :
    (Code.rangeFunc g ps assign body).wpIn Fence.wide n P Q a w := by
  refine wpIn_rangeFunc ?_
  intro fn hfn
  rw [show Fence.wide.round = none from rfl]
  obtain ⟨D, hD⟩ : ∃ D, D = w.heap.size := ⟨_, rfl⟩
  obtain ⟨rc, hrc⟩ : ∃ rc : LoopState → Option Code → Loop, rc = fun st pe => { state := st, pending := pe, fn, tmps := a.tmps, params := ps, assign, body, defers := D } := ⟨_, rfl⟩
  obtain ⟨W1, hW1⟩ : ∃ W1, W1 = (w.alloc (.deferred (some []))).alloc (.loop (rc .ready none)) := ⟨_, rfl⟩
  have hs1 : W1.heap.size = D + 2 := by rw [hW1, hD]; simp
  have hL1 : W1.heap[D + 1]? = some (.loop (rc .ready none)) := by
    rw [hW1, hD]; have := World.alloc_heap_new (w.alloc (.deferred (some []))) (.loop (rc .ready none)); rwa [World.size_alloc] at this
  have hK1 : W1.heap[D]? = some (.deferred (some [])) := by
    rw [hW1, hD]; exact (Below.heap_alloc _ _ _ (by simp)).trans (World.alloc_heap_new w _)
  have t1 : ∀ S : Nat → Prop, Tch S w W1 := fun S => by rw [hW1]; exact (Tch.alloc _ _ _).allocR _
  have hI1 : I [] Z W1 := hI _ _ _ _ h0 (t1 _)
  have hen := run_enterLoop_outer (P := P) (w := w) fn a.tmps ps assign body
  rw [← hD] at hen hI hIx hdone hstop hT hZ hYw
  refine ⟨D + 1, [{ target := .collected D, args := #[] }], W1, { target := .fn (.func gf) lb, args := #[.func (.yield (D + 1)) #[] #[]] }, W1, gf, #[.func (.yield (D + 1)) #[] #[]] ++ lb, W1, ?_, ?_, ?_, ?_, fun h => (by cases h), ?_⟩
  · rw [hen, hW1, hrc]
  · simp only [resolve, hg]
    simp [go_sem]
  · intro f' hf'; trivial
  · simp [invoke, go_sem, eg]
  · have put : ∀ {pre : List α} {Z : Nat → Prop} {W : World} (o : Obj), I pre Z W → ¬ Z (D + 1) → I pre Z (W.putObj (D + 1) o) := fun o hi hz => hI _ _ _ _ hi (Tch.putObj _ _ _ ⟨by omega, hz⟩)
    have putx : ∀ {c : Code} {pre : List α} {Z : Nat → Prop} {W : World} (o : Obj), Ix c pre Z W → ¬ Z (D + 1) → Ix c pre Z (W.putObj (D + 1) o) := fun o hi hz => hIx _ _ _ _ _ hi (Tch.putObj _ _ _ ⟨by omega, hz⟩)
    have kept : ∀ {Z : Nat → Prop} {A C : World} {k : Nat} {o : Obj}, Tch (fun k => D + 1 < k ∧ ¬ Z k) A C → k ≤ D + 1 → A.heap[k]? = some o → C.heap[k]? = some o :=
      fun ht hk ho => (ht.block _ (Array.getElem?_eq_some_iff.1 ho).1 (fun e => by omega)).trans ho
    have wide : ∀ {Z : Nat → Prop} {A C : World}, Tch (fun k => D + 1 < k ∧ ¬ Z k) A C → Tch (fun k => D ≤ k ∧ ¬ Z k) A C := fun ht => ht.mono (fun k _ hk => ⟨by omega, hk.2⟩)
    refine (hseq (D + 1)
      (fun pre Z W => I pre Z W ∧ W.heap[D + 1]? = some (.loop (rc .ready none)) ∧ W.heap[D]? = some (.deferred (some [])) ∧ ¬ Z D ∧ ¬ Z (D + 1))
      (fun pre Z W => ∃ c, Ix c pre Z W ∧ W.heap[D + 1]? = some (.loop (rc .done (some c))) ∧ W.heap[D]? = some (.deferred (some [])) ∧ ¬ Z D ∧ ¬ Z (D + 1))
      (fun k => T k ∨ k = D + 1) Z W1 (by omega) (by omega) (t1 _) (fun k hk => hk.elim (fun h => ⟨by have := (hT k h).1; omega, (hT k h).2⟩) (fun e => ⟨by omega, fun hy => by have := hYw k hy; omega⟩)) (fun k hk => ⟨by have := (hZ k hk).1; omega, (hZ k hk).2⟩)
      (fun pre Z A C hs ht => ⟨hI _ _ _ _ hs.1 (wide ht), kept ht (by omega) hs.2.1, kept ht (by omega) hs.2.2.1, hs.2.2.2⟩)
      (fun pre Z A C hs ht => by
        obtain ⟨c, hc, hl, hk, hz⟩ := hs
        exact ⟨c, hIx _ _ _ _ _ hc (wide ht), kept ht (by omega) hl, kept ht (by omega) hk, hz⟩)
      ?_ ⟨hI1, hL1, hK1, fun h => by have := (hZ _ h).1; omega, fun h => by have := (hZ _ h).1; omega⟩).mono ?_
    · rintro m pre x Z1 W hpre ⟨hi, hl, hk, hz1, hz2⟩
      have hy := run_yield (P := P) (args := encs x) hl (by rw [hrc]; exact hps x)
      rw [hrc] at hy
      refine ⟨fn, _, assign, body, hy, RoundIn.deep (m := n - 1 - 1) (roundIn_of_wpIn hfn (hassign _ x W _ ?_))⟩
      clear hy
      have hlt : D + 1 < W.heap.size := (Array.getElem?_eq_some_iff.1 hl).1
      refine ⟨_, run_beginRound hl (by rw [hrc]), ?_⟩
      obtain ⟨Wb, hWb⟩ : ∃ Wb, Wb = W.putObj (D + 1) (.loop { rc .ready none with state := .busy }) := ⟨_, rfl⟩
      rw [← hWb]
      have hlb : Wb.heap[D + 1]? = some (.loop { rc .ready none with state := .busy }) := by rw [hWb]; exact World.putObj_heap_same hlt
      have hdb : Wb.heap[D]? = some (.deferred (some [])) := by rw [hWb]; exact (World.putObj_heap_other (by omega)).trans hk
      have tb : Tch (fun k => (T k ∨ k = D + 1) ∨ Z1 k) W Wb := by rw [hWb]; exact Tch.putObj _ _ _ (.inl (.inr rfl))
      have hsb : Wb.heap.size = W.heap.size := by rw [hWb]; simp
      refine wpIn_mono (hbody _ pre x Z1 Wb hpre (by rw [hWb]; exact put _ hi hz2)) ?_
      have fin : ∀ (jump : Option Code) (Z' : Nat → Prop) (W3 : World), (∀ k, Z' k → Z1 k ∨ (Wb.heap.size ≤ k ∧ k < W3.heap.size)) → Tch (fun k => T k ∨ Z1 k) Wb W3 → ∃ W4, W4 = W3.putObj (D + 1) (.loop (rc (if jump.isNone then .ready else .done) jump)) ∧
          (Instr.endRound (D + 1) jump).run P W3 = .ok (.bool jump.isNone) W4 ∧ W4.heap[D + 1]? = some (.loop (rc (if jump.isNone then .ready else .done) jump)) ∧ W4.heap[D]? = some (.deferred (some [])) ∧ ¬ Z' D ∧ ¬ Z' (D + 1) ∧
          Tch (fun k => (T k ∨ k = D + 1) ∨ Z1 k) W W4 ∧ (∀ k, Z' k → Z1 k ∨ (W.heap.size ≤ k ∧ k < W4.heap.size)) := fun jump Z' W3 hz' t3 => by
        have hl3 : W3.heap[D + 1]? = _ := (t3.block _ (by omega) (fun h => h.elim (fun h => by have := (hT _ h).1; omega) hz2)).trans hlb
        have hd3 : W3.heap[D]? = _ := (t3.block _ (by omega) (fun h => h.elim (fun h => by have := (hT _ h).1; omega) hz1)).trans hdb
        have he := run_endRound (P := P) jump hl3
        refine ⟨_, rfl, ?_, World.putObj_heap_same (Array.getElem?_eq_some_iff.1 hl3).1, (World.putObj_heap_other (by omega)).trans hd3, fun h => ?_, fun h => ?_, tb.trans' ((t3.mono (fun k _ h => h.elim (fun h => .inl (.inl h)) .inr)).trans' (Tch.putObj _ _ _ (.inl (.inr rfl)))), fun k hk => ?_⟩
        · rw [hrc] at he ⊢
          exact he
        · rcases hz' _ h with h | h
          · exact hz1 h
          · omega
        · rcases hz' _ h with h | h
          · exact hz2 h
          · omega
        · rw [World.putObj_size]
          rcases hz' _ hk with h | h
          · exact .inl h
          · exact .inr (by omega)
      rintro e a3 W3 hp
      cases e with
      | normal =>
        obtain ⟨Z', hz', t3, hi3⟩ := hp
        obtain ⟨W4, e4, hr, hl4, hd4, z1, z2, k4, zz⟩ := fin none Z' W3 hz' t3
        exact ⟨_, _, hr, Z', zz, k4, .inl ⟨rfl, by rw [e4]; exact put _ hi3 z2, hl4, hd4, z1, z2⟩⟩
      | ret =>
        obtain ⟨Z', hz', t3, hi3⟩ := hp
        obtain ⟨W4, e4, hr, hl4, hd4, z1, z2, k4, zz⟩ := fin (some .ret) Z' W3 hz' t3
        exact ⟨_, _, hr, Z', zz, k4, .inr ⟨rfl, .ret, by rw [e4]; exact putx _ hi3 z2, hl4, hd4, z1, z2⟩⟩
      | exit id =>
        obtain ⟨Z', hz', t3, hi3⟩ := hp
        obtain ⟨W4, e4, hr, hl4, hd4, z1, z2, k4, zz⟩ := fin (some (.exit id)) Z' W3 hz' t3
        exact ⟨_, _, hr, Z', zz, k4, .inr ⟨rfl, .exit id, by rw [e4]; exact putx _ hi3 z2, hl4, hd4, z1, z2⟩⟩
      | goto t =>
        obtain ⟨Z', hz', t3, hi3⟩ := hp
        obtain ⟨W4, e4, hr, hl4, hd4, z1, z2, k4, zz⟩ := fin (some (.goto t)) Z' W3 hz' t3
        exact ⟨_, _, hr, Z', zz, k4, .inr ⟨rfl, .goto t, by rw [e4]; exact putx _ hi3 z2, hl4, hd4, z1, z2⟩⟩
      | panic ch => exact hp.elim
      | outgrown => exact hp.elim
    · rintro e W2 ⟨⟨v, rfl⟩, Z', (⟨hi, hl, hk, z1, z2⟩ | ⟨pre, hSp, c, hi, hl, hk, z1, z2⟩)⟩
      · exact ⟨none, _, by have := run_endLoop (P := P) hl (by rw [hrc]; simp); rw [hrc] at this; exact this, hdone _ Z' _ (Nat.le_refl _) z1 (put _ hi z2) ((World.putObj_heap_other (by omega)).trans hk)⟩
      · exact ⟨some c, _, by have := run_endLoop (P := P) hl (by rw [hrc]; simp); rw [hrc] at this; exact this, hstop _ c pre Z' _ (Nat.le_refl _) z1 hSp (putx _ hi z2) ((World.putObj_heap_other (by omega)).trans hk)⟩

/-- The marks of loops over iterators, at a function's end: each block is taken, none has a call. -/
theorem leaves_marks {n : Nat} {P : Program} {fn : Func} {tmps : Array Value} {R : Ending → World → Prop} : ∀ (ds : List Nat) (W : World), (∀ d ∈ ds, W.heap[d]? = some (.deferred (some []))) → ds.Nodup →
    (∀ W', Tch (fun k => k ∈ ds) W W' → LeavesInM Fence.wide n P fn tmps R [] .returning W') → LeavesInM Fence.wide n P fn tmps R (ds.map (fun d => { target := .collected d, args := #[] })) .returning W
  | [], W, _, _, h => h W (Tch.refl _ _)
  | d :: ds, W, hd, hn, h => by
    refine ⟨by simp, .inl ⟨d, _, rfl, run_takeDeferred (hd d (by simp)), ?_⟩⟩
    refine leaves_marks ds _ (fun e he => ?_) (List.nodup_cons.1 hn).2 (fun W' t => h W' ((Tch.putObj W d _ (by simp)).trans t (fun i _ hi => by simp [hi])))
    have hne : e ≠ d := fun h' => (List.nodup_cons.1 hn).1 (by rw [← h']; exact he)
    rw [World.putObj_heap_other hne]
    exact hd e (by simp [he])
end Go.Proofs.Ytnjiiebjdpipjaa
/- The iterator's maker; what an iterator knows while its rounds go on. -/
namespace Go.Proofs.Ytnjiiebjdpipjaa
open Go.RowKit Go Go.Shelf

set_option maxHeartbeats 2000000 in
set_option maxRecDepth 100000 in
theorem walk_any (v : Option Addr) (f o : ByteArray) (b : Bool) (w : World) : Calls Try.prog 73 #[.pointer v, spV f o b] w fun x w' => x = .returned (.func (.func 94) #[] #[pv w.heap.size, pv (w.heap.size + 1)]) ∧ w' = (w.alloc (.cells #[.pointer v] 62)).alloc (.cells #[.string f, .string o, .bool b] 90) := by
  go_enter Try.func73, Try.ntmps73
  go_wp2_with fail
  go_ret
  exact ⟨by simp, rfl⟩

abbrev eI (e : It) : Array Value := #[.string e.1, ev e.2]
abbrev yF (l : Nat) : Value := .func (.yield l) #[] #[]
/-- What an iterator knows while its rounds go on: the blocks Y are as they were; the box of its yield; the marks of the loops that are over. -/
structure WS (w : World) (l : Nat) (Y : Nat → Prop) (yb : Nat) (ds : List Nat) (Z : Nat → Prop) (W : World) : Prop where
  tw : Tch (fun k => ¬ Y k) w W
  ylt : l < yb
  ynz : ¬ Z yb
  yc : W.heap[yb]? = some (.cells #[yF l] 108 (0, 0))
  md : ∀ d ∈ ds, l < d ∧ ¬ Z d ∧ W.heap[d]? = some (.deferred (some []))
  nod : ds.Nodup
  zb : ∀ k, Z k → k < W.heap.size ∧ ¬ Y k
theorem WS.tch {w : World} {l : Nat} {Y : Nat → Prop} {yb : Nat} {ds : List Nat} {Z : Nat → Prop} {W W' : World} {S : Nat → Prop} (h : WS w l Y yb ds Z W) (t : Tch S W W') (hS : ∀ k, S k → ¬ Y k ∧ k ≠ yb ∧ k ∉ ds) : WS w l Y yb ds Z W' :=
  ⟨h.tw.trans t (fun k _ hk => (hS k hk).1), h.ylt, h.ynz, (t.block _ (blk_lt h.yc) (fun hk => (hS _ hk).2.1 rfl)).trans h.yc, fun d hd => ⟨(h.md d hd).1, (h.md d hd).2.1, (t.block _ (blk_lt (h.md d hd).2.2) (fun hk => (hS _ hk).2.2 hd)).trans (h.md d hd).2.2⟩, h.nod, fun k hk => ⟨Nat.lt_of_lt_of_le (h.zb k hk).1 t.size, (h.zb k hk).2⟩⟩
theorem WS.lt {w : World} {l : Nat} {Y : Nat → Prop} {yb : Nat} {ds : List Nat} {Z : Nat → Prop} {W : World} (h : WS w l Y yb ds Z W) (hY : ∀ k, Y k → k < w.heap.size) {k : Nat} (hk : Y k ∨ k = yb ∨ k ∈ ds) : k < W.heap.size := by
  rcases hk with hk | rfl | hk
  · exact Nat.lt_of_lt_of_le (hY k hk) h.tw.size
  · exact blk_lt h.yc
  · exact blk_lt (h.md k hk).2.2
/-- New blocks turn nothing. -/
theorem WS.new {w : World} {l : Nat} {Y : Nat → Prop} {yb : Nat} {ds : List Nat} {Z : Nat → Prop} {W W' : World} (h : WS w l Y yb ds Z W) (t : Tch (fun _ => False) W W') : WS w l Y yb ds Z W' := h.tch t (fun _ h => h.elim)
/-- Behind a round. -/
theorem WS.round {w : World} {l : Nat} {Y T : Nat → Prop} {yb : Nat} {ds : List Nat} {Z Z' : Nat → Prop} {W W' : World} (h : WS w l Y yb ds Z W) (hY : ∀ k, Y k → k < w.heap.size) (hT : ∀ k, T k → k ≤ l ∧ ¬ Y k) (hz : ∀ k, Z' k → Z k ∨ (W.heap.size ≤ k ∧ k < W'.heap.size)) (t : Tch (fun k => T k ∨ Z k) W W') : WS w l Y yb ds Z' W' := by
  have nz : ∀ k, ¬ Z k → k < W.heap.size → ¬ Z' k := fun k h1 h2 h3 => by
    rcases hz k h3 with h4 | h4
    · exact h1 h4
    · omega
  have h1 := h.tch t (fun k hk => by
    rcases hk with hk | hk
    · have := hT k hk
      exact ⟨this.2, fun e => by have := h.ylt; omega, fun hd => by have := (h.md k hd).1; omega⟩
    · exact ⟨(h.zb k hk).2, fun e => h.ynz (e ▸ hk), fun hd => (h.md k hd).2.1 hk⟩)
  refine ⟨h1.tw, h1.ylt, nz _ h.ynz (blk_lt h.yc), h1.yc, fun d hd => ⟨(h1.md d hd).1, nz _ (h.md d hd).2.1 (blk_lt (h.md d hd).2.2), (h1.md d hd).2.2⟩, h1.nod, fun k hk => ?_⟩
  rcases hz k hk with h4 | h4
  · exact ⟨(h1.zb k h4).1, (h.zb k h4).2⟩
  · exact ⟨h4.2, fun hy => by have := h.lt hY (.inl hy); omega⟩
/-- A mark more. -/
theorem WS.mark {w : World} {l : Nat} {Y : Nat → Prop} {yb : Nat} {ds : List Nat} {Z : Nat → Prop} {W : World} (h : WS w l Y yb ds Z W) (D : Nat) (h1 : l < D) (h2 : ¬ Z D) (h3 : W.heap[D]? = some (.deferred (some []))) (h4 : D ∉ ds) : WS w l Y yb (D :: ds) Z W :=
  ⟨h.tw, h.ylt, h.ynz, h.yc, fun d hd => (List.mem_cons.1 hd).elim (fun e => by subst e; exact ⟨h1, h2, h3⟩) (h.md d), List.nodup_cons.2 ⟨h4, h.nod⟩, h.zb⟩
end Go.Proofs.Ytnjiiebjdpipjaa
