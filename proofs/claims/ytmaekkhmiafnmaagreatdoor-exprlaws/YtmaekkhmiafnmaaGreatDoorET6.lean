import Derived.Test.YtmaekkhmiafnmaaGreatDoorET5
import Derived.Lib.RuneCountTail
import Derived.Test.YtmaekkhmiafnmaaGreatDoorVDec2
import Derived.Deep.DeepHandedRow
import Derived.Maps.AppendAt
import Derived.Deep.LoopGhost
set_option maxHeartbeats 4000000
set_option maxRecDepth 100000
namespace Go.Proofs.YtmaekkhmiafnmaaGreatDoor
open Go Go.Lib
structure Ct where
  k : Nat
  b : ByteArray
  p : Nat
def wrgB (b : ByteArray) : Prop := 16 < b.size ∨ b.data.toList.head? = some 39 ∨ ∃ c, b.data.toList = [c] ∧ c ∉ oneS
def askB (a : ByteArray) : Bool := decide (a.size ≤ 16) && decide (a.data.toList.head? ≠ some 39) && (match a.data.toList with | [c] => decide (c ∈ oneS) | _ => true)
theorem wrgB_ne {a b : ByteArray} (h : wrgB b) (ha : askB a = true) : b ≠ a := by
  rintro rfl
  unfold askB at ha
  simp only [Bool.and_eq_true, decide_eq_true_eq] at ha
  obtain ⟨⟨h1, h2⟩, h3⟩ := ha
  rcases h with h | h | ⟨c, h, hc⟩
  · omega
  · exact h2 h
  · rw [h] at h3
    exact hc (by simpa using h3)
def mt (c : Ct) (t : Tk) : Prop := c.p = t.p ∧ ((t.k ≤ 4 ∧ c.k = t.k ∧ c.b = t.b) ∨ (t.k = 5 ∧ c.k = 3 ∧ t.b = ⟨#[]⟩ ∧ wrgB c.b))
inductive Mts : List Ct → List Tk → Prop
  | nil : Mts [] []
  | cons {c : Ct} {t : Tk} {L : List Ct} {ts : List Tk} : mt c t → t.k ≤ 3 → Mts L ts → Mts (c :: L) (t :: ts)
inductive Cut : List Ct → List Tk → Prop
  | last {c : Ct} {t : Tk} (L : List Ct) : mt c t → 4 ≤ t.k → Cut (c :: L) [t]
  | cons {c : Ct} {t : Tk} {L : List Ct} {ts : List Tk} : mt c t → t.k ≤ 3 → Cut L ts → Cut (c :: L) (t :: ts)
theorem Mts.snoc {c : Ct} {t : Tk} (h : mt c t) (h3 : t.k ≤ 3) : ∀ {L : List Ct} {ts : List Tk}, Mts L ts → Mts (L ++ [c]) (ts ++ [t])
  | _, _, .nil => .cons h h3 .nil
  | _, _, .cons a b d => .cons a b (d.snoc h h3)
theorem Mts.cut {c : Ct} {t : Tk} (h : mt c t) (h4 : 4 ≤ t.k) : ∀ {L : List Ct} {ts : List Tk}, Mts L ts → Cut (L ++ [c]) (ts ++ [t])
  | _, _, .nil => .last [] h h4
  | _, _, .cons a b d => .cons a b (d.cut h h4)
theorem Cut.app {L : List Ct} {ts : List Tk} (h : Cut L ts) (M : List Ct) : Cut (L ++ M) ts := by
  induction h with
  | last L h h4 => exact .last _ h h4
  | cons h h3 _ ih => exact .cons h h3 ih
theorem runL_all (f : UInt8 → Bool) : ∀ (l : List UInt8) (c : UInt8), c ∈ l.take (runL f l) → f c = true
  | [], c, h => by simp at h
  | a :: l, c, h => by
    unfold runL at h
    split at h
    · rename_i ha
      rw [List.take_succ_cons] at h
      rcases List.mem_cons.1 h with rfl | h
      · exact ha
      · exact runL_all f l c h
    · simp at h
theorem esc_ascii (b c : UInt8) (h : c ∈ esc b) : c.toNat < 128 := by
  have hs : ∀ n, n < 16 → (sgn n).toNat < 128 := by
    intro n hn
    have : ∀ i : Fin 16, (sgn i.1).toNat < 128 := by decide
    exact this ⟨n, hn⟩
  have hb := b.toNat_lt
  unfold esc at h
  split at h
  · simp at h; rcases h with rfl | rfl <;> decide
  · split at h
    · simp at h
      rcases h with rfl | rfl | rfl
      · decide
      · exact hs _ (by omega)
      · exact hs _ (by omega)
    · rename_i h1 h2
      simp at h
      subst h
      omega
theorem qt_ascii (l : List UInt8) (c : UInt8) (h : c ∈ qt l) : c.toNat < 128 := by
  unfold qt at h
  simp only [List.mem_cons, List.mem_append, List.not_mem_nil, or_false] at h
  rcases h with rfl | h | rfl
  · decide
  · unfold escs at h
    obtain ⟨b, _, hb⟩ := List.mem_flatMap.1 h
    exact esc_ascii b c hb
  · decide
theorem begL_ascii (c : UInt8) (r : List UInt8) (h : (begL c (c :: r)).1 ≠ 5) : ∀ d, d ∈ (c :: r).take (begL c (c :: r)).2 → d.toNat < 128 := by
  intro d hd
  unfold begL at h hd
  split at h
  · rename_i h1
    rw [if_pos h1] at hd
    simp at hd; subst hd; omega
  · rename_i h1
    rw [if_neg h1] at hd
    split at h
    · rename_i h2
      rw [if_pos h2] at hd
      have := runL_all isDig _ _ hd
      unfold isDig at this
      simp at this; omega
    · rename_i h2
      rw [if_neg h2] at hd
      split at h
      · rename_i h3
        rw [if_pos h3] at hd
        have := runL_all isOfW _ _ hd
        unfold isOfW isLet isDig at this
        simp at this; omega
      · rename_i h3
        rw [if_neg h3] at hd
        split at h
        · rename_i h4
          rw [if_pos h4] at hd
          simp only at h hd
          split at h
          · rename_i h5
            unfold okT at h5
            simp only [Bool.and_eq_true, decide_eq_true_eq] at h5
            rw [← h5.1] at hd
            exact qt_ascii _ _ hd
          · exact absurd rfl h
        · rename_i h4
          rw [if_neg h4] at hd
          split at h
          · rename_i h5
            rw [if_pos h5] at hd
            simp only at hd
            have : ∀ x ∈ twoS, ∀ d ∈ x, d.toNat < 128 := by decide
            exact this _ h5 _ hd
          · rename_i h5
            rw [if_neg h5] at hd
            split at h
            · rename_i h6
              rw [if_pos h6] at hd
              simp at hd; subst hd
              have : ∀ d ∈ oneS, d.toNat < 128 := by decide
              exact this _ h6
            · exact absurd rfl h
theorem begL_wrg (c : UInt8) (r : List UInt8) (h : (begL c (c :: r)).1 = 5) : wrgB ⟨((c :: r).take (begL c (c :: r)).2).toArray⟩ := by
  have hsz : ∀ l : List UInt8, (⟨l.toArray⟩ : ByteArray).size = l.length := fun l => by simp [ByteArray.size]
  unfold begL at h ⊢
  split at h
  · simp at h
  · rename_i h1
    rw [if_neg h1]
    split at h
    · simp at h
    · rename_i h2
      rw [if_neg h2]
      split at h
      · rename_i h3
        rw [if_pos h3]
        simp only at h ⊢
        split at h
        · simp at h
        · rename_i h4
          left
          rw [hsz, List.length_take, Nat.min_eq_left (runL_le _ _)]
          omega
      · rename_i h3
        rw [if_neg h3]
        split at h
        · rename_i h4
          rw [if_pos h4]
          right; left
          have hq : 1 ≤ quoL false (c :: r) := by unfold quoL; rw [if_pos h4]; omega
          obtain ⟨n, hn⟩ : ∃ n, quoL false (c :: r) = n + 1 := ⟨_, (Nat.sub_add_cancel hq).symm⟩
          simp only [hn, List.take_succ_cons]
          simp
          exact UInt8.toNat_inj.1 h4
        · rename_i h4
          rw [if_neg h4]
          split at h
          · simp at h
          · rename_i h5
            rw [if_neg h5]
            split at h
            · simp at h
            · rename_i h6
              rw [if_neg h6]
              right; right
              exact ⟨c, by simp, h6⟩
end Go.Proofs.YtmaekkhmiafnmaaGreatDoor
namespace Go.Proofs.YtmaekkhmiafnmaaGreatDoor
open Go Go.Lib
def TI (s : ByteArray) (pos bh : Nat) (L : List Ct) : Prop :=
  (∃ f pre q, q = max pos bh ∧ s.size + 1 ≤ f + q ∧ q ≤ s.size ∧ Mts L pre ∧ toksE s = pre ++ toks f q (s.data.toList.drop q) ∧ ∀ k, pos ≤ k → k < bh → ∀ hk : k < s.size, (s[k]'hk).toNat < 128) ∨ Cut L (toksE s)
theorem TI.init (s : ByteArray) : TI s 0 0 [] := Or.inl ⟨s.size + 1, [], 0, rfl, by omega, by omega, .nil, rfl, fun k _ h => by omega⟩
theorem drop_get (s : ByteArray) (k : Nat) (h : k < s.size) : s.data.toList.drop k = s[k] :: s.data.toList.drop (k + 1) := by
  rw [List.drop_eq_getElem_cons (by simpa using h)]; rfl
theorem dec_ascii (s : ByteArray) (pos : Nat) (h : pos < s.size) (h1 : (s[pos]'h).toNat < 128) : Utf8.decode s pos = ((s[pos]'h).toNat, 1) := by
  rcases dec_cases s pos h with h2 | h2
  · exact h2.2
  · omega
theorem TI.skip {s : ByteArray} {pos bh : Nat} {L : List Ct} (h : TI s pos bh L) (hp : pos < s.size) (hk : pos < bh ∨ (Utf8.decode s pos).1 = 32) : TI s (pos + (Utf8.decode s pos).2) bh L := by
  rcases h with ⟨f, pre, q, hq, hf, hqs, hm, ht, ha⟩ | h
  · by_cases hb : pos < bh
    · have h1 := ha pos (Nat.le_refl _) hb hp
      rw [dec_ascii s pos hp h1]
      exact Or.inl ⟨f, pre, q, by simp only; omega, hf, hqs, hm, ht, fun k k1 k2 => ha k (by simp only at k1; omega) k2⟩
    · have h32 := hk.resolve_left hb
      have hb32 : s[pos].toNat = 32 := by
        rcases dec_cases s pos hp with ⟨h1, h2⟩ | ⟨h1, h2, h3⟩
        · rw [h2] at h32; exact h32
        · omega
      rw [dec_ascii s pos hp (by omega)]
      have hqp : q = pos := by omega
      subst hqp
      obtain ⟨f', rfl⟩ : ∃ f', f = f' + 1 := ⟨f - 1, by omega⟩
      refine Or.inl ⟨f', pre, q + 1, by simp only; omega, by omega, by omega, hm, ?_, fun k k1 k2 => by simp only at k1; omega⟩
      rw [ht, drop_get s q hp]
      congr 1
      show (if s[q].toNat = 32 then _ else _) = _
      rw [if_pos hb32]
  · exact Or.inr h
theorem ext_take (s : ByteArray) (a m : Nat) : s.extract a (a + m) = ⟨((s.data.toList.drop a).take m).toArray⟩ := by
  apply ByteArray.ext
  apply Array.ext'
  simp [List.extract_eq_take_drop]
theorem TI.tok {s : ByteArray} {pos bh : Nat} {L : List Ct} (h : TI s pos bh L) (hp : pos < s.size) (hb : ¬ pos < bh) (hk : (Utf8.decode s pos).1 ≠ 32) :
    TI s (pos + (Utf8.decode s pos).2) (pos + (begL s[pos] (s.data.toList.drop pos)).2) (L ++ [⟨srt (begL s[pos] (s.data.toList.drop pos)).1, s.extract pos (pos + (begL s[pos] (s.data.toList.drop pos)).2), pos⟩]) := by
  rcases h with ⟨f, pre, q, hq, hf, hqs, hm, ht, ha⟩ | h
  · have hqp : q = pos := by omega
    subst hqp
    have hb32 : ¬ s[q].toNat = 32 := by
      rcases dec_cases s q hp with ⟨h1, h2⟩ | ⟨h1, h2, h3⟩
      · rw [h2] at hk; exact hk
      · omega
    obtain ⟨f', rfl⟩ : ∃ f', f = f' + 1 := ⟨f - 1, by omega⟩
    have hd := drop_get s q hp
    obtain ⟨r1, r2, r3, r4⟩ := begL_rng s[q] (s.data.toList.drop (q + 1))
    rw [ext_take]
    rw [← hd] at r1 r2 r3 r4
    have hl : (s.data.toList.drop q).length = s.size - q := by simp
    by_cases h5 : (begL s[q] (s.data.toList.drop q)).1 = 5
    · right
      have e : toks (f' + 1) q (s.data.toList.drop q) = [⟨5, ⟨#[]⟩, q⟩] := by
        rw [hd]
        show (if s[q].toNat = 32 then _ else _) = _
        rw [if_neg hb32, ← hd, if_pos h5]
      rw [ht, e]
      refine hm.cut ⟨rfl, Or.inr ⟨rfl, ?_, rfl, ?_⟩⟩ (by simp)
      · rw [h5]; rfl
      · have := begL_wrg s[q] (s.data.toList.drop (q + 1)) (by rw [← hd]; exact h5)
        rw [← hd] at this
        exact this
    · left
      have hall := begL_ascii s[q] (s.data.toList.drop (q + 1)) (by rw [← hd]; exact h5)
      rw [← hd] at hall
      generalize hB : begL s[q] (s.data.toList.drop q) = B at *
      have hasc : ∀ k, q ≤ k → k < q + B.2 → ∀ hk : k < s.size, (s[k]'hk).toNat < 128 := by
        intro k k1 k2 hk
        apply hall
        have e1 : (s.data.toList.drop q)[k - q]? = some s[k] := by
          rw [List.getElem?_drop]
          have : q + (k - q) = k := by omega
          rw [this]
          rw [Array.getElem?_toList]
          exact Array.getElem?_eq_getElem (by simpa using hk)
        have e2 : ((s.data.toList.drop q).take B.2)[k - q]? = some s[k] := by
          rw [List.getElem?_take, if_pos (by omega)]; exact e1
        exact List.mem_of_getElem? e2
      have h1 := hasc q (Nat.le_refl _) (by omega) hp
      rw [dec_ascii s q hp h1]
      refine ⟨f', pre ++ [⟨B.1, ⟨((s.data.toList.drop q).take B.2).toArray⟩, q⟩], q + B.2, by simp only; omega, by omega, by omega, ?_, ?_, fun k k1 k2 => hasc k (by simp only at k1; omega) k2⟩
      · refine hm.snoc ⟨rfl, Or.inl ⟨by simp only; omega, ?_, rfl⟩⟩ (by simp only; omega)
        show srt B.1 = B.1
        unfold srt; rw [if_neg h5]
      · rw [ht, List.append_assoc]
        congr 1
        have e : toks (f' + 1) q (s.data.toList.drop q) = ⟨B.1, ⟨((s.data.toList.drop q).take B.2).toArray⟩, q⟩ :: toks f' (q + B.2) ((s.data.toList.drop q).drop B.2) := by
          rw [← hB] at h5 ⊢
          conv => lhs; rw [hd]
          show (if s[q].toNat = 32 then _ else _) = _
          rw [if_neg hb32, ← hd, if_neg h5]
        rw [e, List.drop_drop]
        rfl
  · exact Or.inr (h.app _)
theorem TI.fin {s : ByteArray} {pos bh : Nat} {L : List Ct} (h : TI s pos bh L) (hp : s.size ≤ pos) : Cut (L ++ [⟨4, ⟨#[]⟩, s.size⟩]) (toksE s) := by
  rcases h with ⟨f, pre, q, hq, hf, hqs, hm, ht, ha⟩ | h
  · have hqp : q = s.size := by omega
    subst hqp
    obtain ⟨f', rfl⟩ : ∃ f', f = f' + 1 := ⟨f - 1, by omega⟩
    rw [ht, List.drop_eq_nil_of_le (by simp)]
    exact hm.cut ⟨rfl, Or.inl ⟨by simp, rfl, rfl⟩⟩ (by simp)
  · exact h.app _
end Go.Proofs.YtmaekkhmiafnmaaGreatDoor
namespace Go.Proofs.YtmaekkhmiafnmaaGreatDoor
open Go.RowKit Go
def At (w : World) (g o : Nat) (cs : List Value) : Prop := ∀ j u, cs[j]? = some u → w.cell? ⟨g, o + j, none⟩ = some u
theorem At.lt {w : World} {g o : Nat} {cs : List Value} (h : At w g o cs) (hc : cs ≠ []) : g < w.heap.size := by
  cases cs with
  | nil => exact absurd rfl hc
  | cons a l => exact cell_lt (h 0 a rfl)
theorem At.tch {S : Nat → Prop} {w w' : World} {g o : Nat} {cs : List Value} (h : At w g o cs) (t : Tch S w w') (hg : cs ≠ [] → ¬ S g) : At w' g o cs := fun j u hu => by
  have hc : cs ≠ [] := by rintro rfl; simp at hu
  rw [t.cell (p := ⟨g, o + j, none⟩) (h.lt hc) (hg hc)]; exact h j u hu
theorem At.nil (w : World) (g o : Nat) : At w g o [] := fun j u h => by simp at h
def SL (w : World) (ao : Option Addr) (cs : List Value) : Prop := cs ≠ [] → ∃ g o, ao = some ⟨g, o, none⟩ ∧ At w g o cs
theorem SL.tch {S : Nat → Prop} {w w' : World} {ao : Option Addr} {cs : List Value} (h : SL w ao cs) (t : Tch S w w') (hS : ∀ g o, ao = some ⟨g, o, none⟩ → ¬ S g) : SL w' ao cs := fun hc => by
  obtain ⟨g, o, e, ha⟩ := h hc
  exact ⟨g, o, e, ha.tch t (fun _ => hS g o e)⟩
theorem SL.no {w w' : World} {ao : Option Addr} {cs : List Value} (h : SL w ao cs) (t : Tch (fun _ => False) w w') : SL w' ao cs := h.tch t (fun _ _ _ h => h)
theorem own_tch {S : Nat → Prop} {W W' : World} {base sz n : Nat} {t : TypeId} {v : Value} {xs : List Value} (h : W.ownsRow base t sz v n xs) (tc : Tch S W W') (hS : ∀ g, v.ownBlock = some g → ¬ S g) : W'.ownsRow base t sz v n xs := by
  obtain ⟨h1, h2⟩ := h
  refine ⟨h1, ?_⟩
  rcases h2 with h2 | ⟨g, c, cur, hv, hb, hh, hr⟩
  · exact Or.inl h2
  · exact Or.inr ⟨g, c, cur, hv, hb, by rw [tc.block g (blk_lt hh) (hS g (by rw [hv]; rfl))]; exact hh, hr⟩
theorem own_at {W : World} {base sz n : Nat} {t : TypeId} {ao : Option Addr} {c : Nat} {xs : List Value} (h : W.ownsRow base t sz (.slice ao n c) n xs) (hn : 0 < n) : ∃ g, ao = some ⟨g, 0, none⟩ ∧ g < W.heap.size ∧ At W g 0 xs := by
  rcases h.2 with ⟨_, h2⟩ | ⟨g, c', cur, hv, hb, hh, hc, hm, hs, ht⟩
  · omega
  · injection hv with h1
    subst h1
    refine ⟨g, rfl, blk_lt hh, fun j u hu => ?_⟩
    rw [Nat.zero_add, blk_cell hh, ← Array.getElem?_toList]
    rw [← ht, List.getElem?_take] at hu
    split at hu
    · exact hu
    · simp at hu
theorem own_low {W : World} {N N' sz n : Nat} {t : TypeId} {v : Value} {xs : List Value} (h : W.ownsRow N t sz v n xs) (hN : N' ≤ N) : W.ownsRow N' t sz v n xs := by
  obtain ⟨h1, h2⟩ := h
  refine ⟨h1, ?_⟩
  rcases h2 with h2 | ⟨g, c, cur, hv, hb, hr⟩
  · exact Or.inl h2
  · exact Or.inr ⟨g, c, cur, hv, Nat.le_trans hN hb, hr⟩
theorem add_plain (b o j : Nat) : (⟨b, o, none⟩ : Addr).add j = ⟨b, o + j, none⟩ := by unfold Addr.add; split <;> simp_all
theorem wpList_app {P : Program} (w : World) {ops : Array Oper} {rest : List Oper} {o : Oper} {a : Act} {Q : Exit → Act → World → Prop} (hgd : o.guard = none) (s x : Operand) (t : TypeId)
    (ho : o.op = .call { callee := .builtin .append, args := #[s, x], argTypes := #[t, t] }) (hty : o.type = t) (v u : Value) (hs : a.eval s = v) (hx : a.eval x = u) {v' : Value} {w' : World}
    (hr : (Builtin.append_ #[t, t] t #[v, u]).run P w = .ok v' w') (h : wpList P ops Q rest (a.put o.dst v') w') : wpList P ops Q (o :: rest) a w := by
  refine wpList_plain hgd fun K hK => ?_
  unfold Oper.wp execOp
  simp only [ho, hty, resolve, invoke, builtin, Sem.run_bind, Sem.run_pure, Result.andThen_ok, List.map_toArray, List.map_cons, List.map_nil, hs, hx, hr]
  exact hK _ _ h
theorem Tch.of_grown {S : Nat → Prop} {w w' : World} {row : Option Nat} (h : w.grownBy w' row) (hS : ∀ g, row = some g → S g) : Tch S w w' :=
  ⟨h.os, h.tape, h.output, h.size, fun k hk hn => h.block k hk (fun e => hn (hS k e.symm))⟩
end Go.Proofs.YtmaekkhmiafnmaaGreatDoor
namespace Go.Proofs.YtmaekkhmiafnmaaGreatDoor
open Go.RowKit Go
def ctc (c : Ct) : List Value := [.int .i64 (c.k : Nat), .string c.b, .int .i64 (c.p : Nat)]
def ctl (L : List Ct) : List Value := L.flatMap ctc
theorem ctl_snoc (L : List Ct) (c : Ct) : ctl (L ++ [c]) = ctl L ++ ctc c := by simp [ctl]
theorem ctc_one (c : Ct) : ∀ u ∈ ctc c, u.oneCell' = true := fun u hu => by
  simp only [ctc, List.mem_cons, List.not_mem_nil, or_false] at hu
  rcases hu with rfl | rfl | rfl <;> rfl
theorem info_tok : (Tryz.prog.info? 111).map (fun i => (i.zero, i.size, i.bytes)) = some (some (.agg #[.int .i64 0, .string ⟨#[]⟩, .int .i64 0]), 3, 32) := by kernel_rfl
theorem set_tch (w W : World) (N : Nat) (o : Obj) (h : Tch (fun _ => False) w W) (hN : w.heap.size ≤ N) : Tch (fun _ => False) w { W with heap := W.heap.setIfInBounds N o } :=
  ⟨h.os, h.tape, h.output, by simpa using h.size, fun k hk hn => by
    show (W.heap.setIfInBounds N o)[k]? = _
    rw [Array.getElem?_setIfInBounds_ne (by omega)]
    exact h.block k hk hn⟩
theorem set_tchN (W : World) (N : Nat) (o : Obj) : Tch (fun i => i = N) W { W with heap := W.heap.setIfInBounds N o } :=
  ⟨rfl, rfl, rfl, by simp, fun k hk hn => by
    show (W.heap.setIfInBounds N o)[k]? = _
    rw [Array.getElem?_setIfInBounds_ne (by omega)]⟩
theorem begins_at (s : ByteArray) (pos : Nat) (hp : pos < s.size) (hs : s.size ≤ 1048576) (w : World) (hw : HWd w) (hv : HV w) :
    Calls Tryz.prog 78 #[.string (s.extract pos s.size), .int .i32 ((Utf8.decode s pos).1 : Nat)] w fun x w' => x = .returned (.tuple #[.int .i64 (srt (begL s[pos] (s.data.toList.drop pos)).1 : Nat), .int .i64 ((begL s[pos] (s.data.toList.drop pos)).2 : Nat)]) ∧ Tch (fun _ => False) w w' := by
  have hz : (s.extract pos s.size).size = s.size - pos := by simp
  have h := begins_any (s.extract pos s.size) (by rw [hz]; omega) (by rw [hz]; omega) w hw hv
  have hxl : (s.extract pos s.size).data.toList = s.data.toList.drop pos := by
    simp [List.extract_eq_take_drop]
    rw [List.take_of_length_le (by simp)]
  have e1 : (s.extract pos s.size)[0]'(by rw [hz]; omega) = s[pos] := by
    have := head_get (s.extract pos s.size) (by rw [hz]; omega)
    rw [hxl, drop_get s pos hp] at this
    injection this with this
    exact this.symm
  rw [e1, hxl, Lib.tail_decode s pos 0, Nat.add_zero] at h
  exact h
theorem tokensOf_any (s : ByteArray) (hs : s.size ≤ 1048576) (w : World) (hw : HWd w) (hv : HV w) :
    Calls Tryz.prog 48 #[.string s] w fun x w' => (∃ L ao c, x = .returned (.slice ao L.length c) ∧ Cut L (toksE s) ∧ w'.ownsRow w.heap.size 111 3 (.slice ao L.length c) L.length (ctl L)) ∧ Tch (fun _ => False) w w' := by
  have HW0 : Hid (HWd w) := hw
  have HV0 : Hid (HV w) := hv
  clear hw hv
  go_enter Tryz.func48, Tryz.ntmps48
  go_wp2_with fail
  obtain ⟨N, hN⟩ : ∃ N, N = w.heap.size := ⟨_, rfl⟩
  rw [← hN]
  have HN : Hid _ := hN
  go_loopg [3, 4] s.size (fun n lv bv wr => ∃ (pos bh m : Nat) (ao : Option Addr) (cp : Nat) (L : List Ct), lv = .slice ao m cp ∧ bv = .int .i64 (bh : Nat) ∧ s.size - pos ≤ n ∧ pos ≤ s.size ∧ bh ≤ s.size ∧ m ≤ pos ∧ wr.heap[N]? = some (.stringIter s pos) ∧
      Hid (m = L.length ∧ TI s pos bh L ∧ wr.ownsRow (N + 1) 111 3 (.slice ao m cp) m (ctl L) ∧ Tch (fun _ => False) w wr))
  case atStart =>
    exact ⟨0, 0, 0, none, 0, [], rfl, rfl, by omega, by omega, by omega, by omega, by rw [hN]; exact World.iter_heap w s 0, rfl, TI.init s, ⟨rfl, Or.inl ⟨rfl, rfl⟩⟩, Tch.alloc _ _ _⟩
  case round =>
    obtain ⟨pos, bh, m, ao, cp, L, rfl, rfl, hn, hle, hbl, hmp, hit, HJ⟩ := hrel
    clear hN
    by_cases hp : pos < s.size
    · obtain ⟨w1, hw1⟩ : ∃ w1, w1 = { wr with heap := wr.heap.setIfInBounds N (.stringIter s (pos + (Utf8.decode s pos).2)) } := ⟨_, rfl⟩
      have hnx : ∀ ty, (Instr.next (.pointer (some ⟨N, 0, none⟩)) true ty).run Tryz.prog wr = .ok (.tuple #[.bool true, .int .i64 (pos : Nat), .int .i32 ((Utf8.decode s pos).1 : Nat)]) w1 := fun ty => by rw [hw1]; exact next_at wr N s pos ty hit hp
      have hit1 : w1.heap[N]? = some (.stringIter s (pos + (Utf8.decode s pos).2)) := by
        rw [hw1]
        show (wr.heap.setIfInBounds N _)[N]? = _
        exact Array.getElem?_setIfInBounds_self_of_lt (Array.getElem?_eq_some_iff.1 hit).1
      have hsz1 : w1.heap.size = wr.heap.size := by rw [hw1]; simp
      have hNs : N < wr.heap.size := (Array.getElem?_eq_some_iff.1 hit).1
      have T1 : Tch (fun _ => False) w w1 := by rw [hw1]; exact set_tch w wr N _ HJ.out.2.2.2 (by have := HN.out; omega)
      have own1 : w1.ownsRow (N + 1) 111 3 (.slice ao m cp) m (ctl L) := by
        refine own_tch HJ.out.2.2.1 (by rw [hw1]; exact set_tchN wr N _) (fun g e => ?_)
        have := row_ge HJ.out.2.2.1 e
        omega
      have hwd : pos + (Utf8.decode s pos).2 ≤ s.size ∧ pos < pos + (Utf8.decode s pos).2 := by
        rcases dec_cases s pos hp with ⟨h1, h2⟩ | ⟨h1, h2, h3⟩
        · rw [h2]; simp only; omega
        · exact ⟨(dec_skip s pos hp h1).1, by omega⟩
      have HJ1 : Hid (m = L.length ∧ w1.ownsRow (N + 1) 111 3 (.slice ao m cp) m (ctl L) ∧ Tch (fun _ => False) w w1 ∧ w1.heap.size = wr.heap.size ∧ N < wr.heap.size) := ⟨HJ.out.1, own1, T1, hsz1, hNs⟩
      clear hw1 hsz1 hNs T1 own1
      have again : ∀ n', s.size - (pos + (Utf8.decode s pos).2) ≤ n' → (pos < bh ∨ (Utf8.decode s pos).1 = 32) → ∃ (pos' bh' m' : Nat) (ao' : Option Addr) (cp' : Nat) (L' : List Ct), (Value.slice ao m cp) = .slice ao' m' cp' ∧ (Value.int .i64 (bh : Nat)) = .int .i64 (bh' : Nat) ∧ s.size - pos' ≤ n' ∧ pos' ≤ s.size ∧ bh' ≤ s.size ∧ m' ≤ pos' ∧ w1.heap[N]? = some (.stringIter s pos') ∧
          Hid (m' = L'.length ∧ TI s pos' bh' L' ∧ w1.ownsRow (N + 1) 111 3 (.slice ao' m' cp') m' (ctl L') ∧ Tch (fun _ => False) w w1) := fun n' hn' hc =>
        ⟨_, bh, m, ao, cp, L, rfl, rfl, hn', hwd.1, hbl, by omega, hit1, HJ1.out.1, HJ.out.2.1.skip hp hc, HJ1.out.2.1, HJ1.out.2.2.1⟩
      have Hag : Hid _ := again
      clear again
      by_cases h1 : (pos : Int) < (bh : Int)
      · go_wp2_with fail
        go_roundg (s.size - (pos + (Utf8.decode s pos).2))
        case measure => omega
        case rel => exact Hag.out _ (Nat.le_refl _) (Or.inl (by omega))
      · by_cases h2 : (((Utf8.decode s pos).1 : Nat) : Int) = 32
        · go_wp2_with fail
          go_roundg (s.size - (pos + (Utf8.decode s pos).2))
          case measure => omega
          case rel => exact Hag.out _ (Nat.le_refl _) (Or.inr (by omega))
        · have q := begins_at s pos hp hs w1 (HWd.no (w := w) HW0.out HJ1.out.2.2.1) (HV.no (w := w) HV0.out HJ1.out.2.2.1)
          have hti := HJ.out.2.1.tok hp (by omega) (by omega)
          obtain ⟨r1, r2, r3, r4⟩ := begL_rng s[pos] (s.data.toList.drop (pos + 1))
          rw [← drop_get s pos hp] at r1 r2 r3 r4
          have hl : (s.data.toList.drop pos).length = s.size - pos := by simp
          obtain ⟨kk, hkk⟩ : ∃ kk, kk = srt (begL s[pos] (s.data.toList.drop pos)).1 := ⟨_, rfl⟩
          obtain ⟨mm, hmm⟩ : ∃ mm, mm = (begL s[pos] (s.data.toList.drop pos)).2 := ⟨_, rfl⟩
          rw [← hkk, ← hmm] at q hti
          rw [← hmm] at r1 r2
          have hpm : pos + mm ≤ s.size := by omega
          have hpmI : (pos : Int) + (mm : Int) ≤ (s.size : Int) := by omega
          have hpI : (pos : Int) ≤ (s.size : Int) := by omega
          have Hti : Hid _ := hti
          clear hti hkk hmm hl r2 r3 r4
          go_wp2_with fail
          refine q.mono ?_
          rintro y w2 ⟨rfl, t2⟩
          clear q hnx
          obtain ⟨i0, hi0, hz0, hz1, hz2⟩ := info_parts info_tok
          obtain ⟨w6, hw6⟩ : ∃ w6, w6 = w2.alloc (.cells #[.int .i64 (kk : Nat), .string (s.extract pos (pos + mm)), .int .i64 (pos : Nat)] 111) := ⟨_, rfl⟩
          have t6 : Tch (fun _ => False) w2 w6 := by rw [hw6]; exact Tch.alloc _ _ _
          have b6 : w6.heap[w2.heap.size]? = some (.cells (ctc ⟨kk, s.extract pos (pos + mm), pos⟩).toArray 111 (0, 0)) := by rw [hw6]; exact alloc_new _ _
          have ho6 := own_tch (own_tch HJ1.out.2.1 t2 (fun _ _ e => e)) t6 (fun _ _ e => e)
          have hNs : N < wr.heap.size := HJ1.out.2.2.2.2
          have hs12 : wr.heap.size ≤ w2.heap.size := by have := t2.size; have := HJ1.out.2.2.2.1; omega
          obtain ⟨v7, w7, hr7, hown7, hgr7, _, hat7⟩ := run_append_own_at (P := Tryz.prog) w6 (N + 1) 104 104 111 i0 _ 3 32 Tryz.underlying104 hi0 hz0 hz1 hz2 rfl (by decide) _ _ _ ho6 ⟨w2.heap.size, 0, none⟩ 1 1 (ctc ⟨kk, s.extract pos (pos + mm), pos⟩) rfl (fun j u hu => by rw [add_plain, Nat.zero_add, blk_cell b6, List.getElem?_toArray]; exact hu) (ctc_one _) (by unfold maxLen; omega) (by omega) (by have := t6.size; omega)
          obtain ⟨o7, c7, rfl⟩ := row_slice hown7
          have t7 : Tch (fun g => (Value.slice ao m cp).ownBlock = some g) w6 w7 := Tch.of_grown hgr7 (fun g e => e)
          have hN7 : w7.heap[N]? = some (.stringIter s (pos + (Utf8.decode s pos).2)) := by
            rw [t7.block N (by have := t6.size; omega) (fun e => by have := row_ge ho6 e; omega), t6.block N (by omega) (fun e => e), t2.block N (by have := HJ1.out.2.2.2.1; omega) (fun e => e)]
            exact hit1
          have HJ7 : Hid (m + 1 = (L ++ [(⟨kk, s.extract pos (pos + mm), pos⟩ : Ct)]).length ∧ TI s (pos + (Utf8.decode s pos).2) (pos + mm) (L ++ [⟨kk, s.extract pos (pos + mm), pos⟩]) ∧ w7.ownsRow (N + 1) 111 3 (.slice o7 (m + 1) c7) (m + 1) (ctl (L ++ [⟨kk, s.extract pos (pos + mm), pos⟩])) ∧ Tch (fun _ => False) w w7) := by
            refine ⟨by rw [List.length_append, ← HJ1.out.1]; rfl, Hti.out, by rw [ctl_snoc]; exact hown7, ?_⟩
            refine ((HJ1.out.2.2.1.trans' t2).trans' t6).trans t7 (fun g hg e => ?_)
            have := row_ge ho6 e
            have := HN.out
            omega
          rw [hw6] at hr7
          clear hi0 hz0 hz1 hz2 hw6 t6 b6 ho6 hNs hs12 hown7 hgr7 hat7 t7 t2
          go_wp2_with (at_builtin; refine wpList_app _ rfl _ _ 104 rfl rfl _ _ rfl rfl hr7 ?_)
          go_roundg (s.size - (pos + (Utf8.decode s pos).2))
          case measure => omega
          case rel => exact ⟨_, pos + mm, m + 1, o7, c7, _, rfl, by rw [Int.natCast_add], Nat.le_refl _, hwd.1, hpm, by omega, hN7, HJ7⟩
    · have hnx : ∀ ty, (Instr.next (.pointer (some ⟨N, 0, none⟩)) true ty).run Tryz.prog wr = _ := fun ty => next_at_end wr N s pos ty hit hp
      obtain ⟨i0, hi0, hz0, hz1, hz2⟩ := info_parts info_tok
      obtain ⟨w6, hw6⟩ : ∃ w6, w6 = wr.alloc (.cells #[.int .i64 4, .string ⟨#[]⟩, .int .i64 (s.size : Nat)] 111) := ⟨_, rfl⟩
      have t6 : Tch (fun _ => False) wr w6 := by rw [hw6]; exact Tch.alloc _ _ _
      have b6 : w6.heap[wr.heap.size]? = some (.cells (ctc ⟨4, ⟨#[]⟩, s.size⟩).toArray 111 (0, 0)) := by rw [hw6]; exact alloc_new _ _
      have ho6 := own_tch HJ.out.2.2.1 t6 (fun _ _ e => e)
      have hNs : N < wr.heap.size := (Array.getElem?_eq_some_iff.1 hit).1
      obtain ⟨v7, w7, hr7, hown7, hgr7, _, hat7⟩ := run_append_own_at (P := Tryz.prog) w6 (N + 1) 104 104 111 i0 _ 3 32 Tryz.underlying104 hi0 hz0 hz1 hz2 rfl (by decide) _ _ _ ho6 ⟨wr.heap.size, 0, none⟩ 1 1 (ctc ⟨4, ⟨#[]⟩, s.size⟩) rfl (fun j u hu => by rw [add_plain, Nat.zero_add, blk_cell b6, List.getElem?_toArray]; exact hu) (ctc_one _) (by unfold maxLen; omega) (by omega) (by have := t6.size; omega)
      obtain ⟨o7, c7, rfl⟩ := row_slice hown7
      have t7 : Tch (fun g => (Value.slice ao m cp).ownBlock = some g) w6 w7 := Tch.of_grown hgr7 (fun g e => e)
      have hF : Hid ((∃ L' ao' c', (Value.slice o7 (m + 1) c7) = .slice ao' L'.length c' ∧ Cut L' (toksE s) ∧ w7.ownsRow w.heap.size 111 3 (.slice ao' L'.length c') L'.length (ctl L')) ∧ Tch (fun _ => False) w w7) := by
        obtain ⟨j1, j2, j3, j4⟩ := HJ.out
        refine ⟨⟨L ++ [⟨4, ⟨#[]⟩, s.size⟩], o7, c7, by rw [List.length_append, ← j1]; rfl, j2.fin (by omega), ?_⟩, ?_⟩
        · rw [List.length_append, ← j1, ctl_snoc]
          exact own_low hown7 (by have := HN.out; omega)
        · refine (j4.trans' t6).trans t7 (fun g hg e => ?_)
          have := row_ge ho6 e
          have := HN.out
          omega
      rw [hw6] at hr7
      clear hi0 hz0 hz1 hz2 hw6 t6 b6 ho6 hNs hown7 hgr7 hat7 t7
      go_wp2_with (at_builtin; refine wpList_app _ rfl _ _ 104 rfl rfl _ _ rfl rfl hr7 ?_)
      go_ret
      obtain ⟨⟨L', ao', c', e, h2, h3⟩, h4⟩ := hF.out
      exact ⟨⟨L', ao', c', by rw [← e]; rfl, h2, h3⟩, h4⟩
end Go.Proofs.YtmaekkhmiafnmaaGreatDoor
