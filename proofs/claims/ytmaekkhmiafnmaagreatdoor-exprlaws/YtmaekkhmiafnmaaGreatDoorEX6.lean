import Derived.Test.YtmaekkhmiafnmaaGreatDoorELn
import Derived.Test.YtmaekkhmiafnmaaGreatDoorET1
import Derived.Test.YtmaekkhmiafnmaaGreatDoorEX2
import Derived.Test.YtmaekkhmiafnmaaGreatDoorEX5
import Derived.Test.YtmaekkhmiafnmaaGreatDoorEW5
set_option maxHeartbeats 4000000
set_option maxRecDepth 100000
namespace Go.Proofs.YtmaekkhmiafnmaaGreatDoor
open Go Go.Lib
def txE : Ex → Prop
  | .mk _ _ v nm l => (v.s.size ≤ 400 ∧ nm.size ≤ 400) ∧ txL l
where txL : List Ex → Prop
  | [] => True
  | e :: l => txE e ∧ txL l
abbrev txL (l : List Ex) : Prop := txE.txL l
theorem txL_app : ∀ {l m : List Ex}, txL l → txL m → txL (l ++ m)
  | [], _, _, h => h
  | e :: l, m, h, k => by
    have h : txE e ∧ txL l := h
    exact (⟨h.1, txL_app h.2 k⟩ : txE e ∧ txL (l ++ m))
theorem txL_get : ∀ {l : List Ex} {k : Nat} {e : Ex}, txL l → l[k]? = some e → txE e
  | [], _, _, _, he => by simp at he
  | x :: l, 0, e, h, he => by
    have h : txE x ∧ txL l := h
    simp at he; subst he; exact h.1
  | x :: l, k + 1, e, h, he => by
    have h : txE x ∧ txL l := h
    exact txL_get h.2 (by simpa using he)
theorem tx_held {o : Nat} {l : List Ex} (h : txL l) : txL [heldE o l] := (⟨(⟨⟨Nat.zero_le _, Nat.zero_le _⟩, h⟩ : ((zV : Val).s.size ≤ 400 ∧ (⟨#[]⟩ : ByteArray).size ≤ 400) ∧ txL l), trivial⟩ : txE (heldE o l) ∧ txL [])
def TL (ts : List Tk) : Prop := ∀ t ∈ ts, t.b.size ≤ 400
theorem TL.tail {ts : List Tk} (h : TL ts) : TL ts.tail := fun t ht => h t (List.mem_of_mem_tail ht)
def Otx (x : Rs) : Prop := ∀ l r, x = .ok l r → txL l ∧ TL r
theorem Otx.no {w : Int} {p : Nat} : Otx (.no w p) := fun l r e => by cases e
theorem Otx.out : Otx .out := fun l r e => by cases e
theorem Otx.ok {l : List Ex} {r : List Tk} (h : txL l) (k : TL r) : Otx (.ok l r) := fun l' r' e => by injection e with e1 e2; subst e1; subst e2; exact ⟨h, k⟩
theorem Otx.bind {x : Rs} {f : List Ex → List Tk → Rs} (h : Otx x) (hf : ∀ l r, txL l → TL r → Otx (f l r)) : Otx (x.bind f) := by
  cases x with
  | ok l r => exact hf l r (h l r rfl).1 (h l r rfl).2
  | no w p => exact Otx.no
  | out => exact Otx.out
theorem Otx.want {ts : List Tk} {b : ByteArray} {f : List Tk → Rs} (ht : TL ts) (hf : ∀ r, TL r → Otx (f r)) : Otx (wantT ts b f) := by
  unfold wantT
  split
  · exact hf _ ht.tail
  · exact Otx.no
theorem Otx.mk {o : Nat} {no : Bool} {v : Val} {nm : ByteArray} {l : List Ex} {r : List Tk} (hv : v.s.size ≤ 400) (hm : nm.size ≤ 400) (h : txL l) (k : TL r) : Otx (.ok [.mk o no v nm l] r) := Otx.ok (⟨(⟨⟨hv, hm⟩, h⟩ : (v.s.size ≤ 400 ∧ nm.size ≤ 400) ∧ txL l), trivial⟩ : txE (.mk o no v nm l) ∧ txL []) k
theorem Otx.z {o : Nat} {no : Bool} {l : List Ex} {r : List Tk} (h : txL l) (k : TL r) : Otx (.ok [.mk o no zV ⟨#[]⟩ l] r) := Otx.mk (Nat.zero_le _) (Nat.zero_le _) h k
theorem num_tx {a : List UInt8} {t : Tk} {r : List Tk} (k : TL r) : Otx (numT a t r) := by
  unfold numT
  split
  · exact Otx.mk (Nat.zero_le _) (Nat.zero_le _) trivial k
  · exact Otx.no
theorem unqC_len : ∀ l : List UInt8, (unqC l).length ≤ l.length
  | [] => Nat.le_refl _
  | [_] => Nat.zero_le _
  | [b, c] => by
    unfold unqC
    split
    · simp
    · simp [unqC]
  | b :: c :: d :: r => by
    have h1 := unqC_len (d :: r)
    have h2 := unqC_len r
    have h3 := unqC_len (c :: d :: r)
    unfold unqC
    split
    · simp at h1 ⊢; omega
    · split
      · simp; omega
      · simp at h3 ⊢; omega
theorem parV_tx {b : ByteArray} (h : b.size ≤ 400) : (parV b).s.size ≤ 400 := by
  unfold parV
  split
  · exact Nat.zero_le _
  · split
    · exact Nat.zero_le _
    · split
      · exact Nat.zero_le _
      · have h1 := unqC_len (b.data.toList.drop 1)
        have h2 : (b.data.toList.drop 1).length ≤ b.size := by rw [List.length_drop, Array.length_toList]; exact Nat.sub_le _ _
        show (unqC (b.data.toList.drop 1)).toArray.size ≤ 400
        rw [List.size_toArray]
        omega
theorem cmpR_tx {P : NT → List Tk → Rs} (h5 : ∀ ts, TL ts → Otx (P (.line 5) ts)) (hl : ∀ ts, TL ts → Otx (P (.list []) ts)) {a : List Ex} (ha : txL a) {r : List Tk} (k : TL r) : Otx (cmpR P a r) := by
  have kn : TL (if isT r wNot = true then r.tail else r) := by
    split
    · exact k.tail
    · exact k
  unfold cmpR
  split
  · exact (h5 _ k.tail).bind fun b r1 hb k1 => Otx.z (txL_app ha hb) k1
  · split
    · split
      · exact Otx.want k.tail.tail fun r2 k2 => Otx.z ha k2
      · exact Otx.want k.tail fun r2 k2 => Otx.z ha k2
    · split
      · exact Otx.want kn.tail fun r2 k2 => (hl _ k2).bind fun l r3 hl k3 => Otx.want k3 fun r4 k4 => Otx.z (txL_app ha hl) k4
      · exact (h5 _ kn.tail).bind fun b r2 hb k2 => Otx.want k2 fun r3 k3 => (h5 _ k3).bind fun c r4 hc k4 => Otx.z (txL_app ha (txL_app hb hc)) k4
      · exact (h5 _ kn.tail).bind fun b r1 hb k1 => Otx.z (txL_app ha hb) k1
      · split
        · exact Otx.no
        · exact Otx.ok ha k
theorem firstR_tx {P : NT → List Tk → Rs} (h1 : ∀ ts, TL ts → Otx (P (.line 1) ts)) (hl : ∀ ts, TL ts → Otx (P (.list []) ts)) (hw : ∀ ts, TL ts → Otx (P (.whens []) ts)) : ∀ ts, TL ts → Otx (firstR P ts)
  | [], _ => Otx.out
  | t :: r, h => by
    have k : TL r := h.tail
    have kt : t.b.size ≤ 400 := h t (List.mem_cons_self ..)
    simp only [firstR]
    split
    · exact num_tx k
    · split
      · exact Otx.mk (parV_tx kt) (Nat.zero_le _) trivial k
      · split
        · unfold wordR
          split
          · exact Otx.mk (parV_tx kt) (Nat.zero_le _) trivial k
          · split
            · exact Otx.want k fun r1 k1 => hw _ k1
            · split
              · exact Otx.no
              · split
                · split
                  · exact Otx.no
                  · refine (hl _ k.tail).bind fun l r1 hl k1 => Otx.want k1 fun r2 k2 => ?_
                    split
                    · exact Otx.z hl k2
                    · exact Otx.no
                · exact Otx.mk (Nat.zero_le _) kt trivial k
        · split
          · exact (h1 _ k).bind fun e r1 he k1 => Otx.want k1 fun r2 k2 => Otx.ok he k2
          · exact Otx.no
def ntT : NT → Prop
  | .list acc => txL acc
  | .whens acc => txL acc
  | .more _ e => txL e
  | .line _ => True
theorem rd_tx : ∀ (n : Nat) (nt : NT) (ts : List Tk), TL ts → ntT nt → Otx (rd n nt ts)
  | 0, _, _, _, _ => Otx.out
  | n + 1, .line k, ts, hT, _ => by
    have ih := rd_tx n
    have hl : ∀ us, TL us → Otx (rd n (.list []) us) := fun us h => ih (.list []) us h (trivial : txL [])
    have hw : ∀ us, TL us → Otx (rd n (.whens []) us) := fun us h => ih (.whens []) us h (trivial : txL [])
    have h1 : ∀ j us, TL us → Otx (rd n (.line j) us) := fun j us h => ih (.line j) us h trivial
    unfold rd
    split
    · split
      · exact (h1 _ _ hT.tail).bind fun l r hl k => Otx.z hl k
      · exact h1 _ _ hT
    · split
      · exact (h1 _ _ hT).bind fun l r h k => cmpR_tx (fun us => h1 5 us) hl h k
      · split
        · unfold minusR
          split
          · split
            · exact Otx.out
            · rename_i t r he
              have kt := hT.tail
              rw [he] at kt
              split
              · exact num_tx kt.tail
              · exact (h1 _ _ hT.tail).bind fun l r hl k => Otx.z hl k
          · exact h1 _ _ hT
        · split
          · exact firstR_tx (fun us => h1 1 us) hl hw ts hT
          · exact (h1 _ _ hT).bind fun l r h k => ih (.more _ l) r k h
  | n + 1, .more k e, ts, hT, he => by
    have ih := rd_tx n
    have he : txL e := he
    unfold rd
    split
    · exact (ih (.line (k + 1)) ts.tail hT.tail trivial).bind fun b r1 hb k1 => ih (.more k _) r1 k1 (tx_held (txL_app he hb))
    · exact Otx.ok he hT
  | n + 1, .list acc, ts, hT, ha => by
    have ih := rd_tx n
    have ha : txL acc := ha
    unfold rd
    refine (ih (.line 1) ts hT trivial).bind fun b r1 hb k1 => ?_
    split
    · exact ih (.list _) _ k1.tail (txL_app ha hb)
    · exact Otx.ok (txL_app ha hb) k1
  | n + 1, .whens acc, ts, hT, ha => by
    have ih := rd_tx n
    have ha : txL acc := ha
    have i1 : ∀ us, TL us → Otx (rd n (.line 1) us) := fun us h => ih (.line 1) us h trivial
    unfold rd
    refine (i1 ts hT).bind fun a r1 h1 k1 => Otx.want k1 fun r2 k2 => (i1 r2 k2).bind fun b r3 hb k3 => ?_
    have hab := txL_app (txL_app ha h1) hb
    split
    · exact ih (.whens _) _ k3.tail hab
    · split
      · exact (i1 _ k3.tail).bind fun c r4 hc k4 => Otx.want k4 fun r5 k5 => Otx.z (txL_app hab hc) k5
      · exact Otx.want k3 fun r5 k5 => Otx.z hab k5
theorem rdAll_tx {s : ByteArray} (hs : s.size ≤ 400) {e : Ex} {r : List Tk} (h : rdAll (toksE s) = .ok [e] r) : txE e := by
  have h1 : Otx (rdAll (toksE s)) := by
    unfold rdAll
    refine (rd_tx _ (.line 1) _ (fun t ht => (toks_ok _ _ _ (by rw [Array.length_toList]; exact hs) t ht).1) trivial).bind fun l r hl k => ?_
    cases r with
    | nil => exact Otx.out
    | cons t r =>
      show Otx (if t.k = 4 then .ok l [] else .no 110 t.p)
      split
      · exact Otx.ok hl (fun _ h => by simp at h)
      · exact Otx.no
  have h2 : txE e ∧ txL [] := (h1 _ _ h).1
  exact h2.1
theorem parE_tx {s : ByteArray} {e : Ex} {x : Int × Int} (h : parE s = (some e, x)) : txE e := by
  unfold parE at h
  split at h
  · injection h with h _; cases h
  · rename_i hs
    split at h
    · rename_i e' r he
      split at h
      · injection h with h _; cases h
      · injection h with h _
        injection h with h
        subst h
        exact rdAll_tx (by omega) he
    · injection h with h _; cases h
    · injection h with h _; cases h
def gV (v : Val) : Prop := i64v v.n ∧ v.s.size ≤ 400
theorem gV_z : gV zV := ⟨i64_0, Nat.zero_le _⟩
theorem gV_tr (b : Bool) : gV (tr b) := by cases b <;> exact ⟨by unfold i64v tr; simp, Nat.zero_le _⟩
theorem gV_ng {v : Val} (h : gV v) : gV (ngV v) := by
  unfold ngV
  split
  · exact h
  · exact gV_tr _
def gP (x : Val × Int) : Prop := gV x.1
theorem gP_ite {c : Prop} [Decidable c] {a b : Val × Int} (ha : c → gP a) (hb : ¬ c → gP b) : gP (if c then a else b) := by
  by_cases h : c
  · rw [if_pos h]; exact ha h
  · rw [if_neg h]; exact hb h
theorem gP_fit (n : Int) : gP (fitI n) := by
  unfold fitI
  split
  · rename_i h; exact ⟨h, Nat.zero_le _⟩
  · exact gV_z
theorem gP_ar (o : Nat) (a b : Int) : gP (arV o a b) := by
  unfold arV
  repeat' split
  all_goals first | exact gP_fit _ | exact gV_z
theorem gV_max : ∀ (l : List Val) {m : Val}, gV m → (∀ v ∈ l, gV v) → gV (maxV m l)
  | [], _, h, _ => h
  | x :: l, m, h, k => by
    unfold maxV
    exact gV_max l (by split; exact k x (List.mem_cons_self ..); exact h) (fun v hv => k v (List.mem_cons_of_mem _ hv))
theorem gV_min : ∀ (l : List Val) {m : Val}, gV m → (∀ v ∈ l, gV v) → gV (minV m l)
  | [], _, h, _ => h
  | x :: l, m, h, k => by
    unfold minV
    exact gV_min l (by split; exact k x (List.mem_cons_self ..); exact h) (fun v hv => k v (List.mem_cons_of_mem _ hv))
theorem gV_get {l : List Val} (h : ∀ v ∈ l, gV v) (k : Nat) : gV (l.getD k zV) := by
  rw [List.getD_eq_getElem?_getD]
  cases e : l[k]? with
  | none => exact gV_z
  | some v => exact h v (List.mem_of_getElem? e)
theorem size_cut (s : ByteArray) (a n : Int) : gV (cutV s a n).1 ∨ s.size > 400 := by
  by_cases hs : s.size ≤ 400
  · left
    unfold cutV
    split
    · exact gV_z
    · refine ⟨i64_0, ?_⟩
      show (((s.data.toList.drop (a - 1).toNat).take n.toNat).toArray).size ≤ 400
      rw [List.size_toArray, List.length_take, List.length_drop, Array.length_toList]
      have : s.data.size = s.size := rfl
      omega
  · right; omega
theorem gP_hk (o : Nat) {l : List Val} (h : ∀ v ∈ l, gV v) : gP (hk o l) := by
  have h0 := gV_get h 0
  have h1 := gV_get h 1
  have hr : ∀ c d, gV (rszV (l.getD 0 zV).s c d) := fun c d => ⟨i64_0, by
    show ((l.getD 0 zV).s.data.toList.map (rszB c d)).toArray.size ≤ 400
    rw [List.size_toArray, List.length_map, Array.length_toList]
    exact h0.2⟩
  unfold hk
  refine gP_ite (fun _ => gV_ng h0) fun _ => gP_ite (fun _ => gV_tr _) fun _ => gP_ite (fun _ => gV_max _ h0 (fun v hv => h v (List.mem_of_mem_drop hv))) fun _ => gP_ite (fun _ => gV_min _ h0 (fun v hv => h v (List.mem_of_mem_drop hv))) fun _ =>
    gP_ite (fun _ => gP_ar _ _ _) fun _ => gP_ite (fun _ => gP_ite (fun _ => gP_ar _ _ _) (fun _ => ⟨h0.1, Nat.zero_le _⟩)) fun _ => gP_ite (fun _ => gP_ar _ _ _) fun _ => gP_ite (fun _ => ?_) fun _ => gP_ite (fun _ => gV_tr _) fun _ => gP_ite (fun _ => ⟨?_, Nat.zero_le _⟩) fun _ => gP_ite (fun _ => hr _ _) fun _ => gP_ite (fun _ => hr _ _) fun _ => ?_
  · unfold joiV
    refine gP_ite (fun _ => gV_z) fun hj => ⟨i64_0, ?_⟩
    show ((l.getD 0 zV).s ++ (l.getD 1 zV).s).size ≤ 400
    rw [ByteArray.size_append]; omega
  · have := h0.2
    unfold i64v
    show _ ∧ (((l.getD 0 zV).s.size : Nat) : Int) ≤ _
    refine ⟨?_, by omega⟩
    show _ ≤ (((l.getD 0 zV).s.size : Nat) : Int)
    omega
  · rcases size_cut (l.getD 0 zV).s (l.getD 1 zV).n (l.getD 2 zV).n with h | h
    · exact h
    · have := h0.2; omega
theorem gP_hld (o : Nat) {l : List Val} (h : ∀ v ∈ l, gV v) : gP (hldV o l) := by
  have ho : ∀ a b, gV (ordV a b) := fun a b => by
    unfold ordV
    split
    · exact gV_z
    · exact gV_tr _
  unfold hldV
  repeat' split
  · exact gV_tr _
  · show gV (bothV _ _)
    unfold bothV
    split
    · exact ho _ _
    · exact ho _ _
  · exact gV_z
  · exact gV_get h 0
  · exact gV_z
  · exact gP_hk o h
theorem gP_stl (b : Bool) : ∀ (l : List (Val × Int)) {a : Val}, gV a → (∀ x ∈ l, gP x) → gP (stlV b a l)
  | [], _, h, _ => h
  | (v, e) :: l, a, h, k => by
    have hv : gV v := k (v, e) (List.mem_cons_self ..)
    unfold stlV
    split
    · exact hv
    · exact gP_stl b l (by split; exact hv; exact h) (fun x hx => k x (List.mem_cons_of_mem _ hx))
theorem gP_fnd (w : Val) : ∀ (l : List (Val × Int)) {a : Val}, gV a → (∀ x ∈ l, gP x) → gP (fndV w a l)
  | [], _, h, _ => h
  | (v, e) :: l, a, h, k => by
    have hv : gV v := k (v, e) (List.mem_cons_self ..)
    unfold fndV
    split
    · exact hv
    · split
      · exact gV_tr _
      · exact gP_fnd w l (by split; exact hv; exact h) (fun x hx => k x (List.mem_cons_of_mem _ hx))
theorem gP_chs : ∀ (l : List (Val × Int)), (∀ x ∈ l, gP x) → gP (chsV l)
  | [], _ => gV_z
  | [x], k => k x (List.mem_cons_self ..)
  | (c, e) :: x :: l, k => by
    unfold chsV
    split
    · exact k (c, e) (List.mem_cons_self ..)
    · split
      · exact k x (List.mem_cons_of_mem _ (List.mem_cons_self ..))
      · exact gP_chs l (fun y hy => k y (List.mem_cons_of_mem _ (List.mem_cons_of_mem _ hy)))
theorem gP_knw : ∀ (l : List (Val × Int)), (∀ x ∈ l, gP x) → gP (knwV l)
  | [], _ => gV_z
  | (c, e) :: l, k => by
    unfold knwV
    split
    · exact k (c, e) (List.mem_cons_self ..)
    · exact gP_knw l (fun y hy => k y (List.mem_cons_of_mem _ hy))
theorem gP_all : ∀ (l : List (Val × Int)), (∀ x ∈ l, gP x) → ∀ v ∈ (allV l).1, gV v
  | [], _, v, hv => by simp [allV] at hv
  | (c, e) :: l, k, v, hv => by
    unfold allV at hv
    split at hv
    · simp at hv
    · rcases List.mem_cons.1 hv with rfl | hv
      · exact k (v, e) (List.mem_cons_self ..)
      · exact gP_all l (fun y hy => k y (List.mem_cons_of_mem _ hy)) v hv
theorem gP_get {l : List (Val × Int)} (h : ∀ x ∈ l, gP x) (k : Nat) : gP (l.getD k (zV, 0)) := by
  rw [List.getD_eq_getElem?_getD]
  cases e : l[k]? with
  | none => exact gV_z
  | some v => exact h v (List.mem_of_getElem? e)
theorem gP_wkC {ρ : ByteArray → Val} {o : Nat} {v : Val} {nm : ByteArray} {l : List (Val × Int)} (hv : gV v) (hn : o = 1 → gV (ρ nm)) (h : ∀ x ∈ l, gP x) : gP (wkC ρ o v nm l) := by
  have hd : ∀ x ∈ l.drop 1, gP x := fun x hx => h x (List.mem_of_mem_drop hx)
  unfold wkC
  split
  · exact hv
  · split
    · exact hn ‹_›
    · split
      · exact gP_stl _ _ (gV_tr _) h
      · split
        · exact gP_stl _ _ (gV_tr _) h
        · split
          · split
            · exact gP_get h 0
            · exact gP_fnd _ _ (gV_tr _) hd
          · split
            · exact gP_chs _ h
            · split
              · exact gP_knw _ h
              · split
                · exact gV_z
                · exact gP_hld _ (gP_all _ h)
theorem mem_addN {x : ByteArray} : ∀ (xs acc : List ByteArray), (x ∈ acc ∨ x ∈ xs) → x ∈ addN acc xs
  | [], acc, h => by
    rcases h with h | h
    · exact h
    · simp at h
  | y :: xs, acc, h => by
    show x ∈ addN (if acc.any (fun z => decide (z = y)) = true then acc else acc ++ [y]) xs
    refine mem_addN xs _ ?_
    rcases h with h | h
    · left
      split
      · exact h
      · exact List.mem_append_left _ h
    · rcases List.mem_cons.1 h with rfl | h
      · left
        split
        · rename_i ha
          obtain ⟨z, hz, e⟩ := List.any_eq_true.1 ha
          have e : z = x := of_decide_eq_true e
          exact e ▸ hz
        · exact List.mem_append_right _ (List.mem_singleton.2 rfl)
      · exact Or.inr h
theorem mem_nmsL {x : ByteArray} : ∀ (l : List Ex) (acc : List ByteArray), (x ∈ acc ∨ ∃ e ∈ l, x ∈ nms e) → x ∈ nms.nmsL l acc
  | [], acc, h => by
    rcases h with h | ⟨e, h, _⟩
    · exact h
    · simp at h
  | y :: l, acc, h => by
    show x ∈ nms.nmsL l (addN acc (nms y))
    refine mem_nmsL l _ ?_
    rcases h with h | ⟨e, he, h⟩
    · exact Or.inl (mem_addN _ _ (Or.inl h))
    · rcases List.mem_cons.1 he with rfl | he
      · exact Or.inl (mem_addN _ _ (Or.inr h))
      · exact Or.inr ⟨e, he, h⟩
mutual
theorem gP_wrk {ρ : ByteArray → Val} : ∀ (e : Ex), okE e → txE e → (∀ nm ∈ nms e, gV (ρ nm)) → gP (wrk ρ e)
  | .mk o no v nm l, hk, ht, hn => by
    have hk : i64v v.n ∧ arOk o l.length ∧ okL l := hk
    have ht : (v.s.size ≤ 400 ∧ nm.size ≤ 400) ∧ txL l := ht
    have hp : gP (wkC ρ o v nm (wrk.wrkL ρ l)) := by
      refine gP_wkC ⟨hk.1, ht.1.1⟩ (fun h => hn nm (by show nm ∈ (if o = 1 then [nm] else nms.nmsL l []); rw [if_pos h]; exact List.mem_singleton.2 rfl)) ?_
      by_cases ho : o = 1
      · have : l = [] := by
          have h2 := hk.2.1.2
          rw [if_pos (by omega)] at h2
          exact List.eq_nil_of_length_eq_zero h2
        subst this
        exact fun x hx => by simp [wrk.wrkL] at hx
      · exact gP_wrkL l hk.2.2 ht.2 (fun e he nm' h => hn nm' (by show nm' ∈ (if o = 1 then [nm] else nms.nmsL l []); rw [if_neg ho]; exact mem_nmsL _ _ (Or.inr ⟨e, he, h⟩)))
    show gV (if no = true then ngV _ else _)
    split
    · exact gV_ng hp
    · exact hp
theorem gP_wrkL {ρ : ByteArray → Val} : ∀ (l : List Ex), okL l → txL l → (∀ e ∈ l, ∀ nm ∈ nms e, gV (ρ nm)) → ∀ x ∈ wrk.wrkL ρ l, gP x
  | [], _, _, _, x, hx => by simp [wrk.wrkL] at hx
  | e :: l, hk, ht, hn, x, hx => by
    have hk : okE e ∧ okL l := hk
    have ht : txE e ∧ txL l := ht
    have hx : x ∈ wrk ρ e :: wrk.wrkL ρ l := hx
    rcases List.mem_cons.1 hx with rfl | hx
    · exact gP_wrk e hk.1 ht.1 (hn e (List.mem_cons_self ..))
    · exact gP_wrkL l hk.2 ht.2 (fun e' he' => hn e' (List.mem_cons_of_mem _ he')) x hx
end
end Go.Proofs.YtmaekkhmiafnmaaGreatDoor
namespace Go.Proofs.YtmaekkhmiafnmaaGreatDoor
open Go.RowKit Go Go.Lib
theorem plain_lit (v : Val) (co vo : Option Addr) (b nC cc nV vc : Nat) (w : World) (h0 : w.cell? ⟨b, 0, none⟩ = some (.int .i64 0)) (c2 : w.cell? ⟨b, 2, none⟩ = some (.int .i64 v.k)) (c3 : w.cell? ⟨b, 3, none⟩ = some (.int .i64 v.n)) (c4 : w.cell? ⟨b, 4, none⟩ = some (.string v.s)) :
    Calls Tryz.prog 64 #[ptV b, rowA co vo nC cc nV vc] w fun x w' => x = .returned (.tuple #[vV v, .int .i64 0]) ∧ Tch (fun _ => False) w w' := by
  have hbl : b < w.heap.size := cell_lt h0
  obtain ⟨w0, hw0⟩ : ∃ w0, w0 = (w.alloc (.cells #[.slice co nC cc, .slice vo nV vc] 80)).alloc (.cells #[.int .i64 0, .int .i64 0, .string ⟨#[]⟩] 29) := ⟨_, rfl⟩
  have t0 : Tch (fun _ => False) w w0 := by rw [hw0]; exact (Tch.alloc _ _ _).allocR _
  have hB : RB w.heap.size co vo nC cc nV vc w0 := by rw [hw0]; exact rb_new ..
  have HC : ∀ o1 o2, ((w.alloc o1).alloc o2).cell? ⟨b, 0, none⟩ = some (.int .i64 0) ∧ ((w.alloc o1).alloc o2).cell? ⟨b, 2, none⟩ = some (.int .i64 v.k) ∧ ((w.alloc o1).alloc o2).cell? ⟨b, 3, none⟩ = some (.int .i64 v.n) ∧ ((w.alloc o1).alloc o2).cell? ⟨b, 4, none⟩ = some (.string v.s) := fun o1 o2 => by
    have t : Tch (fun _ => False) w ((w.alloc o1).alloc o2) := (Tch.alloc _ _ _).allocR _
    exact ⟨(t.cell (p := ⟨b, 0, none⟩) hbl (fun h => h)).trans h0, (t.cell (p := ⟨b, 2, none⟩) hbl (fun h => h)).trans c2, (t.cell (p := ⟨b, 3, none⟩) hbl (fun h => h)).trans c3, (t.cell (p := ⟨b, 4, none⟩) hbl (fun h => h)).trans c4⟩
  have d0 := fun o1 o2 => (HC o1 o2).1
  have d2 := fun o1 o2 => (HC o1 o2).2.1
  have d3 := fun o1 o2 => (HC o1 o2).2.2.1
  have d4 := fun o1 o2 => (HC o1 o2).2.2.2
  clear h0 c2 c3 c4 HC hw0 hB t0
  go_enter Tryz.func64, Tryz.ntmps64
  go_wp2_with fail
  have hz : (w.alloc (.cells #[.slice co nC cc, .slice vo nV vc] 80)).heap.size = w.heap.size + 1 := by simp
  obtain ⟨k0, k1, k2⟩ := box_v (w.alloc (.cells #[.slice co nC cc, .slice vo nV vc] 80)) v
  rw [hz] at k0 k1 k2
  refine bodyPost_ret (res_ve (j := 4) (m := 5) (by kernel_rfl) _ _ (w.heap.size + 1) v (.int .i64 0) ?_ ?_ k0 k1 k2) rfl ⟨rfl, (Tch.alloc _ _ _).allocR _⟩ <;> rfl
theorem plain_and (rs : List (Val × Int)) (ao co vo : Option Addr) (b c nC cc nV vc : Nat) (w : World) (h0 : w.cell? ⟨b, 0, none⟩ = some (.int .i64 3)) (h6 : w.cell? ⟨b, 6, none⟩ = some (.slice ao rs.length c)) (hp : WP w ao rs (rowA co vo nC cc nV vc)) (hl : rs.length ≤ 1000000) :
    Calls Tryz.prog 64 #[ptV b, rowA co vo nC cc nV vc] w fun x w' => x = .returned (.tuple #[vV (stlV false (tr true) rs).1, .int .i64 (stlV false (tr true) rs).2]) ∧ Tch (fun _ => False) w w' := by
  have hbl : b < w.heap.size := cell_lt h0
  obtain ⟨w0, hw0⟩ : ∃ w0, w0 = (w.alloc (.cells #[.slice co nC cc, .slice vo nV vc] 80)).alloc (.cells #[.int .i64 0, .int .i64 0, .string ⟨#[]⟩] 29) := ⟨_, rfl⟩
  have t0 : Tch (fun _ => False) w w0 := by rw [hw0]; exact (Tch.alloc _ _ _).allocR _
  have hB : RB w.heap.size co vo nC cc nV vc w0 := by rw [hw0]; exact rb_new ..
  have HK : ∀ W, Tch (fun _ => False) w W → W.cell? ⟨b, 0, none⟩ = some (.int .i64 3) ∧ W.cell? ⟨b, 6, none⟩ = some (.slice ao rs.length c) := fun W t => ⟨(t.cell (p := ⟨b, 0, none⟩) hbl (fun h => h)).trans h0, (t.cell (p := ⟨b, 6, none⟩) hbl (fun h => h)).trans h6⟩
  obtain ⟨R, hR⟩ : ∃ R, R = stlV false (tr true) rs := ⟨_, rfl⟩
  have HQ : ∀ W, Tch (fun _ => False) w W → Calls Tryz.prog 87 #[ptV b, rowA co vo nC cc nV vc, .bool false] W fun x w' => x = .returned (.tuple #[vV R.1, .int .i64 R.2]) ∧ Tch (fun _ => False) W w' := fun W t => by rw [hR]; exact settled_any false rs ao co vo b c nC cc nV vc W (HK W t).2 (hp.tch (t.mono (fun _ _ h => h.elim))) hl
  have hq0 := HQ w0 t0
  have d0 := (HK w0 t0).1
  rw [hw0] at hq0 d0
  have HC : Hid (∀ W, Tch (fun _ => False) ((w.alloc (.cells #[.slice co nC cc, .slice vo nV vc] 80)).alloc (.cells #[.int .i64 0, .int .i64 0, .string ⟨#[]⟩] 29)) W → OneB (w.heap.size + 1) W ∧ Tch (fun _ => False) w W) := fun W t => by
    rw [← hw0] at t
    exact ⟨(hB.no t).z, t0.trans' t⟩
  rw [← hR]
  obtain ⟨v, e⟩ := R
  simp only at hq0
  clear hw0 t0 hB h0 h6 HQ HK hp hR
  go_enter Tryz.func64, Tryz.ntmps64
  go_wp2_with (go_at_call 87; refine hq0.mono ?_; rintro y v1 ⟨rfl, t1⟩; obtain ⟨⟨⟨x0, x1, x2⟩, f0, f1, f2⟩, hw⟩ := HC.out _ t1)
  obtain ⟨k0, k1, k2⟩ := box_set _ (w.heap.size + 1) _ _ _ (.int .i64 (v).k) (.int .i64 (v).n) (.string (v).s) x0 x1 x2
  refine bodyPost_ret (res_ve (j := 4) (m := 5) (by kernel_rfl) _ _ (w.heap.size + 1) (v) (.int .i64 e) ?_ ?_ k0 k1 k2) rfl ⟨rfl, hw.trans (box_set_tch _ (w.heap.size + 1) _ _ _) (fun i hi h => by omega)⟩ <;> rfl
theorem plain_or (rs : List (Val × Int)) (ao co vo : Option Addr) (b c nC cc nV vc : Nat) (w : World) (h0 : w.cell? ⟨b, 0, none⟩ = some (.int .i64 2)) (h6 : w.cell? ⟨b, 6, none⟩ = some (.slice ao rs.length c)) (hp : WP w ao rs (rowA co vo nC cc nV vc)) (hl : rs.length ≤ 1000000) :
    Calls Tryz.prog 64 #[ptV b, rowA co vo nC cc nV vc] w fun x w' => x = .returned (.tuple #[vV (stlV true (tr false) rs).1, .int .i64 (stlV true (tr false) rs).2]) ∧ Tch (fun _ => False) w w' := by
  have hbl : b < w.heap.size := cell_lt h0
  obtain ⟨w0, hw0⟩ : ∃ w0, w0 = (w.alloc (.cells #[.slice co nC cc, .slice vo nV vc] 80)).alloc (.cells #[.int .i64 0, .int .i64 0, .string ⟨#[]⟩] 29) := ⟨_, rfl⟩
  have t0 : Tch (fun _ => False) w w0 := by rw [hw0]; exact (Tch.alloc _ _ _).allocR _
  have hB : RB w.heap.size co vo nC cc nV vc w0 := by rw [hw0]; exact rb_new ..
  have HK : ∀ W, Tch (fun _ => False) w W → W.cell? ⟨b, 0, none⟩ = some (.int .i64 2) ∧ W.cell? ⟨b, 6, none⟩ = some (.slice ao rs.length c) := fun W t => ⟨(t.cell (p := ⟨b, 0, none⟩) hbl (fun h => h)).trans h0, (t.cell (p := ⟨b, 6, none⟩) hbl (fun h => h)).trans h6⟩
  obtain ⟨R, hR⟩ : ∃ R, R = stlV true (tr false) rs := ⟨_, rfl⟩
  have HQ : ∀ W, Tch (fun _ => False) w W → Calls Tryz.prog 87 #[ptV b, rowA co vo nC cc nV vc, .bool true] W fun x w' => x = .returned (.tuple #[vV R.1, .int .i64 R.2]) ∧ Tch (fun _ => False) W w' := fun W t => by rw [hR]; exact settled_any true rs ao co vo b c nC cc nV vc W (HK W t).2 (hp.tch (t.mono (fun _ _ h => h.elim))) hl
  have hq0 := HQ w0 t0
  have d0 := (HK w0 t0).1
  rw [hw0] at hq0 d0
  have HC : Hid (∀ W, Tch (fun _ => False) ((w.alloc (.cells #[.slice co nC cc, .slice vo nV vc] 80)).alloc (.cells #[.int .i64 0, .int .i64 0, .string ⟨#[]⟩] 29)) W → OneB (w.heap.size + 1) W ∧ Tch (fun _ => False) w W) := fun W t => by
    rw [← hw0] at t
    exact ⟨(hB.no t).z, t0.trans' t⟩
  rw [← hR]
  obtain ⟨v, e⟩ := R
  simp only at hq0
  clear hw0 t0 hB h0 h6 HQ HK hp hR
  go_enter Tryz.func64, Tryz.ntmps64
  go_wp2_with (go_at_call 87; refine hq0.mono ?_; rintro y v1 ⟨rfl, t1⟩; obtain ⟨⟨⟨x0, x1, x2⟩, f0, f1, f2⟩, hw⟩ := HC.out _ t1)
  obtain ⟨k0, k1, k2⟩ := box_set _ (w.heap.size + 1) _ _ _ (.int .i64 (v).k) (.int .i64 (v).n) (.string (v).s) x0 x1 x2
  refine bodyPost_ret (res_ve (j := 4) (m := 5) (by kernel_rfl) _ _ (w.heap.size + 1) (v) (.int .i64 e) ?_ ?_ k0 k1 k2) rfl ⟨rfl, hw.trans (box_set_tch _ (w.heap.size + 1) _ _ _) (fun i hi h => by omega)⟩ <;> rfl
theorem plain_choice (rs : List (Val × Int)) (ao co vo : Option Addr) (b c nC cc nV vc : Nat) (w : World) (h0 : w.cell? ⟨b, 0, none⟩ = some (.int .i64 22)) (h6 : w.cell? ⟨b, 6, none⟩ = some (.slice ao rs.length c)) (hp : WP w ao rs (rowA co vo nC cc nV vc)) (hl : rs.length ≤ 1000000) (hc : rs.length ≤ c) (h2 : 2 ≤ rs.length) :
    Calls Tryz.prog 64 #[ptV b, rowA co vo nC cc nV vc] w fun x w' => x = .returned (.tuple #[vV (chsV rs).1, .int .i64 (chsV rs).2]) ∧ Tch (fun _ => False) w w' := by
  have hbl : b < w.heap.size := cell_lt h0
  obtain ⟨w0, hw0⟩ : ∃ w0, w0 = (w.alloc (.cells #[.slice co nC cc, .slice vo nV vc] 80)).alloc (.cells #[.int .i64 0, .int .i64 0, .string ⟨#[]⟩] 29) := ⟨_, rfl⟩
  have t0 : Tch (fun _ => False) w w0 := by rw [hw0]; exact (Tch.alloc _ _ _).allocR _
  have hB : RB w.heap.size co vo nC cc nV vc w0 := by rw [hw0]; exact rb_new ..
  have HK : ∀ W, Tch (fun _ => False) w W → W.cell? ⟨b, 0, none⟩ = some (.int .i64 22) ∧ W.cell? ⟨b, 6, none⟩ = some (.slice ao rs.length c) := fun W t => ⟨(t.cell (p := ⟨b, 0, none⟩) hbl (fun h => h)).trans h0, (t.cell (p := ⟨b, 6, none⟩) hbl (fun h => h)).trans h6⟩
  obtain ⟨R, hR⟩ : ∃ R, R = chsV rs := ⟨_, rfl⟩
  have HQ : ∀ W, Tch (fun _ => False) w W → Calls Tryz.prog 89 #[ptV b, rowA co vo nC cc nV vc] W fun x w' => x = .returned (.tuple #[vV R.1, .int .i64 R.2]) ∧ Tch (fun _ => False) W w' := fun W t => by rw [hR]; exact chosen_any rs ao co vo b c nC cc nV vc W (HK W t).2 (hp.tch (t.mono (fun _ _ h => h.elim))) hl hc h2
  have hq0 := HQ w0 t0
  have d0 := (HK w0 t0).1
  rw [hw0] at hq0 d0
  have HC : Hid (∀ W, Tch (fun _ => False) ((w.alloc (.cells #[.slice co nC cc, .slice vo nV vc] 80)).alloc (.cells #[.int .i64 0, .int .i64 0, .string ⟨#[]⟩] 29)) W → OneB (w.heap.size + 1) W ∧ Tch (fun _ => False) w W) := fun W t => by
    rw [← hw0] at t
    exact ⟨(hB.no t).z, t0.trans' t⟩
  rw [← hR]
  obtain ⟨v, e⟩ := R
  simp only at hq0
  clear hw0 t0 hB h0 h6 HQ HK hp hR
  go_enter Tryz.func64, Tryz.ntmps64
  go_wp2_with (go_at_call 89; refine hq0.mono ?_; rintro y v1 ⟨rfl, t1⟩; obtain ⟨⟨⟨x0, x1, x2⟩, f0, f1, f2⟩, hw⟩ := HC.out _ t1)
  obtain ⟨k0, k1, k2⟩ := box_set _ (w.heap.size + 1) _ _ _ (.int .i64 (v).k) (.int .i64 (v).n) (.string (v).s) x0 x1 x2
  refine bodyPost_ret (res_ve (j := 4) (m := 5) (by kernel_rfl) _ _ (w.heap.size + 1) (v) (.int .i64 e) ?_ ?_ k0 k1 k2) rfl ⟨rfl, hw.trans (box_set_tch _ (w.heap.size + 1) _ _ _) (fun i hi h => by omega)⟩ <;> rfl
theorem plain_coalesce (rs : List (Val × Int)) (ao co vo : Option Addr) (b c nC cc nV vc : Nat) (w : World) (h0 : w.cell? ⟨b, 0, none⟩ = some (.int .i64 29)) (h6 : w.cell? ⟨b, 6, none⟩ = some (.slice ao rs.length c)) (hp : WP w ao rs (rowA co vo nC cc nV vc)) (hl : rs.length ≤ 1000000) :
    Calls Tryz.prog 64 #[ptV b, rowA co vo nC cc nV vc] w fun x w' => x = .returned (.tuple #[vV (knwV rs).1, .int .i64 (knwV rs).2]) ∧ Tch (fun _ => False) w w' := by
  have hbl : b < w.heap.size := cell_lt h0
  obtain ⟨w0, hw0⟩ : ∃ w0, w0 = (w.alloc (.cells #[.slice co nC cc, .slice vo nV vc] 80)).alloc (.cells #[.int .i64 0, .int .i64 0, .string ⟨#[]⟩] 29) := ⟨_, rfl⟩
  have t0 : Tch (fun _ => False) w w0 := by rw [hw0]; exact (Tch.alloc _ _ _).allocR _
  have hB : RB w.heap.size co vo nC cc nV vc w0 := by rw [hw0]; exact rb_new ..
  have HK : ∀ W, Tch (fun _ => False) w W → W.cell? ⟨b, 0, none⟩ = some (.int .i64 29) ∧ W.cell? ⟨b, 6, none⟩ = some (.slice ao rs.length c) := fun W t => ⟨(t.cell (p := ⟨b, 0, none⟩) hbl (fun h => h)).trans h0, (t.cell (p := ⟨b, 6, none⟩) hbl (fun h => h)).trans h6⟩
  obtain ⟨R, hR⟩ : ∃ R, R = knwV rs := ⟨_, rfl⟩
  have HQ : ∀ W, Tch (fun _ => False) w W → Calls Tryz.prog 90 #[ptV b, rowA co vo nC cc nV vc] W fun x w' => x = .returned (.tuple #[vV R.1, .int .i64 R.2]) ∧ Tch (fun _ => False) W w' := fun W t => by rw [hR]; exact firstKnown_any rs ao co vo b c nC cc nV vc W (HK W t).2 (hp.tch (t.mono (fun _ _ h => h.elim))) hl
  have hq0 := HQ w0 t0
  have d0 := (HK w0 t0).1
  rw [hw0] at hq0 d0
  have HC : Hid (∀ W, Tch (fun _ => False) ((w.alloc (.cells #[.slice co nC cc, .slice vo nV vc] 80)).alloc (.cells #[.int .i64 0, .int .i64 0, .string ⟨#[]⟩] 29)) W → OneB (w.heap.size + 1) W ∧ Tch (fun _ => False) w W) := fun W t => by
    rw [← hw0] at t
    exact ⟨(hB.no t).z, t0.trans' t⟩
  rw [← hR]
  obtain ⟨v, e⟩ := R
  simp only at hq0
  clear hw0 t0 hB h0 h6 HQ HK hp hR
  go_enter Tryz.func64, Tryz.ntmps64
  go_wp2_with (go_at_call 90; refine hq0.mono ?_; rintro y v1 ⟨rfl, t1⟩; obtain ⟨⟨⟨x0, x1, x2⟩, f0, f1, f2⟩, hw⟩ := HC.out _ t1)
  obtain ⟨k0, k1, k2⟩ := box_set _ (w.heap.size + 1) _ _ _ (.int .i64 (v).k) (.int .i64 (v).n) (.string (v).s) x0 x1 x2
  refine bodyPost_ret (res_ve (j := 4) (m := 5) (by kernel_rfl) _ _ (w.heap.size + 1) (v) (.int .i64 e) ?_ ?_ k0 k1 k2) rfl ⟨rfl, hw.trans (box_set_tch _ (w.heap.size + 1) _ _ _) (fun i hi h => by omega)⟩ <;> rfl
theorem plain_in (rs : List (Val × Int)) (ao co vo : Option Addr) (b c nC cc nV vc : Nat) (w : World) (h0 : w.cell? ⟨b, 0, none⟩ = some (.int .i64 12)) (h6 : w.cell? ⟨b, 6, none⟩ = some (.slice ao rs.length c)) (hp : WP w ao rs (rowA co vo nC cc nV vc)) (hl : rs.length ≤ 1000000) (hc : rs.length ≤ c) (h2 : 2 ≤ rs.length) :
    Calls Tryz.prog 64 #[ptV b, rowA co vo nC cc nV vc] w fun x w' => x = .returned (.tuple #[vV (if (rs.getD 0 (zV, 0)).2 ≠ 0 ∨ (rs.getD 0 (zV, 0)).1 = zV then rs.getD 0 (zV, 0) else fndV (rs.getD 0 (zV, 0)).1 (tr false) (rs.drop 1)).1, .int .i64 (if (rs.getD 0 (zV, 0)).2 ≠ 0 ∨ (rs.getD 0 (zV, 0)).1 = zV then rs.getD 0 (zV, 0) else fndV (rs.getD 0 (zV, 0)).1 (tr false) (rs.drop 1)).2]) ∧ Tch (fun _ => False) w w' := by
  have hbl : b < w.heap.size := cell_lt h0
  obtain ⟨w0, hw0⟩ : ∃ w0, w0 = (w.alloc (.cells #[.slice co nC cc, .slice vo nV vc] 80)).alloc (.cells #[.int .i64 0, .int .i64 0, .string ⟨#[]⟩] 29) := ⟨_, rfl⟩
  have t0 : Tch (fun _ => False) w w0 := by rw [hw0]; exact (Tch.alloc _ _ _).allocR _
  have hB : RB w.heap.size co vo nC cc nV vc w0 := by rw [hw0]; exact rb_new ..
  have HK : ∀ W, Tch (fun _ => False) w W → W.cell? ⟨b, 0, none⟩ = some (.int .i64 12) ∧ W.cell? ⟨b, 6, none⟩ = some (.slice ao rs.length c) := fun W t => ⟨(t.cell (p := ⟨b, 0, none⟩) hbl (fun h => h)).trans h0, (t.cell (p := ⟨b, 6, none⟩) hbl (fun h => h)).trans h6⟩
  obtain ⟨R, hR⟩ : ∃ R, R = if (rs.getD 0 (zV, 0)).2 ≠ 0 ∨ (rs.getD 0 (zV, 0)).1 = zV then rs.getD 0 (zV, 0) else fndV (rs.getD 0 (zV, 0)).1 (tr false) (rs.drop 1) := ⟨_, rfl⟩
  have HQ : ∀ W, Tch (fun _ => False) w W → Calls Tryz.prog 88 #[ptV b, rowA co vo nC cc nV vc] W fun x w' => x = .returned (.tuple #[vV R.1, .int .i64 R.2]) ∧ Tch (fun _ => False) W w' := fun W t => by
    obtain ⟨p0, rs', rfl⟩ : ∃ p0 rs', rs = p0 :: rs' := by
      cases rs with
      | nil => simp at h2
      | cons p l => exact ⟨p, l, rfl⟩
    rw [hR]
    exact found_any p0.1 p0.2 rs' ao co vo b c nC cc nV vc W (HK W t).2 (hp.tch (t.mono (fun _ _ h => h.elim))) (by simp at hl; omega) (by simpa using hc) (by simp at h2; omega)
  have hq0 := HQ w0 t0
  have d0 := (HK w0 t0).1
  rw [hw0] at hq0 d0
  have HC : Hid (∀ W, Tch (fun _ => False) ((w.alloc (.cells #[.slice co nC cc, .slice vo nV vc] 80)).alloc (.cells #[.int .i64 0, .int .i64 0, .string ⟨#[]⟩] 29)) W → OneB (w.heap.size + 1) W ∧ Tch (fun _ => False) w W) := fun W t => by
    rw [← hw0] at t
    exact ⟨(hB.no t).z, t0.trans' t⟩
  rw [← hR]
  obtain ⟨v, e⟩ := R
  simp only at hq0
  clear hw0 t0 hB h0 h6 HQ HK hp hR
  go_enter Tryz.func64, Tryz.ntmps64
  go_wp2_with (go_at_call 88; refine hq0.mono ?_; rintro y v1 ⟨rfl, t1⟩; obtain ⟨⟨⟨x0, x1, x2⟩, f0, f1, f2⟩, hw⟩ := HC.out _ t1)
  obtain ⟨k0, k1, k2⟩ := box_set _ (w.heap.size + 1) _ _ _ (.int .i64 (v).k) (.int .i64 (v).n) (.string (v).s) x0 x1 x2
  refine bodyPost_ret (res_ve (j := 4) (m := 5) (by kernel_rfl) _ _ (w.heap.size + 1) (v) (.int .i64 e) ?_ ?_ k0 k1 k2) rfl ⟨rfl, hw.trans (box_set_tch _ (w.heap.size + 1) _ _ _) (fun i hi h => by omega)⟩ <;> rfl
end Go.Proofs.YtmaekkhmiafnmaaGreatDoor
