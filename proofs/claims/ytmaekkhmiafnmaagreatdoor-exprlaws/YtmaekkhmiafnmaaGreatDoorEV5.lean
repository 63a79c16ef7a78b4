import Derived.Test.YtmaekkhmiafnmaaGreatDoorEFu
import Derived.Test.YtmaekkhmiafnmaaGreatDoorVLd
import Derived.Test.YtmaekkhmiafnmaaGreatDoorEW1
import Derived.Test.YtmaekkhmiafnmaaGreatDoorWriter2
set_option maxHeartbeats 4000000
set_option maxRecDepth 100000
namespace Go.Proofs.YtmaekkhmiafnmaaGreatDoor
open Go Go.Lib
def arOk (o n : Nat) : Prop := o < 32 ∧ (if o ≤ 1 then n = 0 else if o = 4 ∨ o = 11 ∨ o = 21 then n = 1 else if o = 13 then n = 3 else if o = 12 ∨ o = 22 then 2 ≤ n else if 23 ≤ o then few o ≤ n ∧ n ≤ mst o else n = 2)
def okE : Ex → Prop
  | .mk o _ v _ l => i64v v.n ∧ arOk o l.length ∧ okL l
where okL : List Ex → Prop
  | [] => True
  | e :: l => okE e ∧ okL l
abbrev okL (l : List Ex) : Prop := okE.okL l
theorem okL_app : ∀ {l m : List Ex}, okL l → okL m → okL (l ++ m)
  | [], _, _, h => h
  | e :: l, m, h, k => by
    have h : okE e ∧ okL l := h
    exact (⟨h.1, okL_app h.2 k⟩ : okE e ∧ okL (l ++ m))
theorem okL_get : ∀ {l : List Ex} {k : Nat} {e : Ex}, okL l → l[k]? = some e → okE e
  | [], _, _, _, he => by simp at he
  | x :: l, 0, e, h, he => by
    have h : okE x ∧ okL l := h
    simp at he; subst he; exact h.1
  | x :: l, k + 1, e, h, he => by
    have h : okE x ∧ okL l := h
    exact okL_get h.2 (by simpa using he)
def Okx (x : Rs) (A : List Ex → Prop) : Prop := ∀ l r, x = .ok l r → A l
theorem Okx.no {w : Int} {p : Nat} {A : List Ex → Prop} : Okx (.no w p) A := fun l r e => by cases e
theorem Okx.out {A : List Ex → Prop} : Okx .out A := fun l r e => by cases e
theorem Okx.ok {l : List Ex} {r : List Tk} {A : List Ex → Prop} (h : A l) : Okx (.ok l r) A := fun l' r' e => by injection e with e _; subst e; exact h
theorem Okx.bind {x : Rs} {f : List Ex → List Tk → Rs} {A B : List Ex → Prop} (h : Okx x A) (hf : ∀ l r, A l → Okx (f l r) B) : Okx (x.bind f) B := by
  cases x with
  | ok l r => exact hf l r (h l r rfl)
  | no w p => exact Okx.no
  | out => exact Okx.out
theorem Okx.want {ts : List Tk} {b : ByteArray} {f : List Tk → Rs} {A : List Ex → Prop} (hf : ∀ r, Okx (f r) A) : Okx (wantT ts b f) A := by
  unfold wantT
  split
  · exact hf _
  · exact Okx.no
def oneE (l : List Ex) : Prop := ∃ e, l = [e] ∧ okE e
def manyE (l : List Ex) : Prop := okL l ∧ 1 ≤ l.length
theorem oneE.okL {l : List Ex} (h : oneE l) : okL l ∧ l.length = 1 := by
  obtain ⟨e, rfl, h⟩ := h
  exact ⟨(⟨h, trivial⟩ : okE e ∧ okE.okL []), rfl⟩
theorem one_of {o : Nat} {no : Bool} {v : Val} {nm : ByteArray} {l : List Ex} (hv : i64v v.n) (ha : arOk o l.length) (h : okE.okL l) : oneE [.mk o no v nm l] := ⟨_, rfl, by unfold okE; exact ⟨hv, ha, h⟩⟩
theorem i64_c : i64v 0 ∧ i64v 1 := by unfold i64v; omega
theorem i64_0 : i64v zV.n := i64_c.1
theorem Okx.num {a : List UInt8} {t : Tk} {r : List Tk} : Okx (numT a t r) oneE := by
  unfold numT
  split
  · rename_i n hn
    exact Okx.ok (one_of (ok_i64 hn) ⟨by decide, by decide⟩ trivial)
  · exact Okx.no
theorem parV_i64 (b : ByteArray) : i64v (parV b).n := by
  unfold parV
  repeat' split
  all_goals first | exact i64_c.1 | exact i64_c.2
theorem arOk_two {o : Nat} (h : o ∈ [2, 3, 5, 6, 7, 8, 9, 10, 14, 15, 16, 17, 18, 19, 20]) : arOk o 2 := by
  have : ∀ o ∈ [2, 3, 5, 6, 7, 8, 9, 10, 14, 15, 16, 17, 18, 19, 20], o < 32 ∧ (if o ≤ 1 then 2 = 0 else if o = 4 ∨ o = 11 ∨ o = 21 then 2 = 1 else if o = 13 then 2 = 3 else if o = 12 ∨ o = 22 then 2 ≤ 2 else if 23 ≤ o then few o ≤ 2 ∧ 2 ≤ mst o else 2 = 2) := by decide
  exact this o h
theorem two_of {o : Nat} {no : Bool} {a b : List Ex} (ha : oneE a) (hb : oneE b) (h : o ∈ [2, 3, 5, 6, 7, 8, 9, 10, 14, 15, 16, 17, 18, 19, 20]) : oneE [testE o no (a ++ b)] :=
  one_of i64_0 (by rw [List.length_append, ha.okL.2, hb.okL.2]; exact arOk_two h) (okL_app ha.okL.1 hb.okL.1)
theorem cmpR_ok {P : NT → List Tk → Rs} (h5 : ∀ ts, Okx (P (.line 5) ts) oneE) (hl : ∀ ts, Okx (P (.list []) ts) manyE) {a : List Ex} (ha : oneE a) (r : List Tk) : Okx (cmpR P a r) oneE := by
  unfold cmpR
  split
  · rename_i o ho
    have h1 := (opIn_isT ho).1
    exact (h5 _).bind fun b r1 hb => Okx.ok (two_of ha hb (by revert h1; simp; omega))
  · split
    · split
      · exact Okx.want fun r2 => Okx.ok (one_of i64_0 (by rw [ha.okL.2]; exact ⟨by decide, by decide⟩) ha.okL.1)
      · exact Okx.want fun r2 => Okx.ok (one_of i64_0 (by rw [ha.okL.2]; exact ⟨by decide, by decide⟩) ha.okL.1)
    · split
      · exact Okx.want fun r2 => (hl _).bind fun l r3 hl => Okx.want fun r4 => Okx.ok (one_of i64_0 ⟨by decide, by rw [List.length_append, ha.okL.2]; have := hl.2; simp; omega⟩ (okL_app ha.okL.1 hl.1))
      · exact (h5 _).bind fun b r2 hb => Okx.want fun r3 => (h5 _).bind fun c r4 hc => Okx.ok (one_of i64_0 ⟨by decide, by rw [List.length_append, List.length_append, ha.okL.2, hb.okL.2, hc.okL.2]; decide⟩ (okL_app ha.okL.1 (okL_app hb.okL.1 hc.okL.1)))
      · rename_i o h12 h13 ho
        have h1 := (opIn_isT ho).1
        have : o = 14 := by
          simp only [List.mem_cons, List.not_mem_nil, or_false] at h1
          rcases h1 with rfl | rfl | rfl
          · exact absurd rfl h12
          · exact absurd rfl h13
          · rfl
        subst this
        exact (h5 _).bind fun b r1 hb => Okx.ok (two_of ha hb (by decide))
      · split
        · exact Okx.no
        · exact Okx.ok ha
theorem firstR_ok {P : NT → List Tk → Rs} (h1 : ∀ ts, Okx (P (.line 1) ts) oneE) (hl : ∀ ts, Okx (P (.list []) ts) manyE) (hw : ∀ ts, Okx (P (.whens []) ts) oneE) : ∀ ts, Okx (firstR P ts) oneE
  | [] => Okx.out
  | t :: r => by
    simp only [firstR]
    split
    · exact Okx.num
    · split
      · exact Okx.ok (one_of (parV_i64 _) ⟨by decide, by decide⟩ trivial)
      · split
        · unfold wordR
          split
          · exact Okx.ok (one_of (parV_i64 _) ⟨by decide, by decide⟩ trivial)
          · split
            · exact Okx.want fun r1 => hw _
            · split
              · exact Okx.no
              · split
                · split
                  · exact Okx.no
                  · rename_i o ho
                    refine (hl _).bind fun l r1 hl => Okx.want fun r2 => ?_
                    split
                    · rename_i hf
                      refine Okx.ok (one_of i64_0 ?_ hl.1)
                      have ho2 : o ∈ [23, 24, 25, 26, 27, 28, 29, 30, 31] := List.mem_of_find?_eq_some ho
                      simp only [List.mem_cons, List.not_mem_nil, or_false] at ho2
                      refine ⟨by omega, ?_⟩
                      rw [if_neg (by omega), if_neg (by omega), if_neg (by omega), if_neg (by omega), if_pos (by omega)]
                      exact hf
                    · exact Okx.no
                · exact Okx.ok (one_of i64_0 ⟨by decide, by decide⟩ trivial)
        · split
          · exact (h1 _).bind fun e r1 he => Okx.want fun r2 => Okx.ok he
          · exact Okx.no
def ntR : NT → List Ex → Prop
  | .list acc => fun l => okL acc → okL l ∧ acc.length + 1 ≤ l.length
  | .whens acc => fun l => okL acc → oneE l
  | .more _ e => fun l => oneE e → oneE l
  | .line _ => oneE
theorem rd_okE : ∀ (n : Nat) (nt : NT) (ts : List Tk), ntOk nt → Okx (rd n nt ts) (ntR nt)
  | 0, _, _, _ => Okx.out
  | n + 1, .line k, ts, ho => by
    have ih := rd_okE n
    obtain ⟨ho1, ho2⟩ := ho
    have hl : ∀ us, Okx (rd n (.list []) us) manyE := fun us l r h => by
      have := ih (.list []) us trivial l r h trivial
      exact ⟨this.1, by have := this.2; simp at this; omega⟩
    have hw : ∀ us, Okx (rd n (.whens []) us) oneE := fun us l r h => ih (.whens []) us trivial l r h trivial
    show Okx _ oneE
    unfold rd
    split
    · split
      · exact (ih (.line 3) _ ⟨by omega, by omega⟩).bind fun l r hl => Okx.ok (one_of i64_0 (by rw [oneE.okL hl |>.2]; exact ⟨by decide, by decide⟩) (oneE.okL hl).1)
      · exact ih (.line 4) _ ⟨by omega, by omega⟩
    · split
      · exact (ih (.line 5) _ ⟨by omega, by omega⟩).bind fun l r h => cmpR_ok (fun us => ih (.line 5) us ⟨by omega, by omega⟩) hl h r
      · split
        · unfold minusR
          split
          · split
            · exact Okx.out
            · split
              · exact Okx.num
              · exact (ih (.line 8) _ ⟨by omega, by omega⟩).bind fun l r hl => Okx.ok (one_of i64_0 (by rw [oneE.okL hl |>.2]; exact ⟨by decide, by decide⟩) (oneE.okL hl).1)
          · exact ih (.line 9) _ ⟨by omega, by omega⟩
        · split
          · exact firstR_ok (fun us => ih (.line 1) us ⟨by omega, by omega⟩) hl hw ts
          · rename_i h3 h4 h8 h9
            exact (ih (.line (k + 1)) ts ⟨by omega, by omega⟩).bind fun l r h l' r' e => ih (.more k l) r (by show k ∈ [1, 2, 5, 6, 7]; simp; omega) l' r' e h
  | n + 1, .more k e, ts, ho => by
    have ih := rd_okE n
    have ho : k ∈ [1, 2, 5, 6, 7] := ho
    intro l r h he
    unfold rd at h
    split at h
    · rename_i o hop
      have h1 := (opIn_isT hop).1
      have hm : ∀ k ∈ [1, 2, 5, 6, 7], ∀ o ∈ lineOps k, o ∈ [2, 3, 5, 6, 7, 8, 9, 10, 14, 15, 16, 17, 18, 19, 20] := by decide
      refine ((ih (.line (k + 1)) ts.tail (by show 1 ≤ k + 1 ∧ k + 1 ≤ 9; simp at ho; omega)).bind (B := oneE) fun b r1 hb => ?_) l r h
      exact fun l' r' e' => ih (.more k _) r1 ho l' r' e' (two_of he hb (hm k ho o h1))
    · injection h with h _
      subst h
      exact he
  | n + 1, .list acc, ts, ho => by
    have ih := rd_okE n
    intro l r h ha
    unfold rd at h
    refine ((ih (.line 1) ts ⟨by omega, by omega⟩).bind (B := fun l => okL l ∧ acc.length + 1 ≤ l.length) fun b r1 hb => ?_) l r h
    have hb : oneE b := hb
    split
    · intro l' r' e'
      have := ih (.list _) _ trivial l' r' e' (okL_app ha hb.okL.1)
      exact ⟨this.1, by have := this.2; rw [List.length_append, hb.okL.2] at this; omega⟩
    · exact Okx.ok ⟨okL_app ha hb.okL.1, by rw [List.length_append, hb.okL.2]; omega⟩
  | n + 1, .whens acc, ts, ho => by
    have ih := rd_okE n
    intro l r h ha
    unfold rd at h
    have i1 : ∀ us, Okx (rd n (.line 1) us) oneE := fun us => ih (.line 1) us ⟨by omega, by omega⟩
    have hout : ∀ {m : List Ex} {a b : List Ex}, okL m → oneE a → oneE b → okL (m ++ a ++ b) ∧ 2 ≤ (m ++ a ++ b).length := fun hm ha hb => ⟨okL_app (okL_app hm ha.okL.1) hb.okL.1, by simp [ha.okL.2, hb.okL.2]⟩
    refine ((i1 ts).bind (B := oneE) fun a r1 h1 => Okx.want fun r2 => (i1 r2).bind fun b r3 hb => ?_) l r h
    have hab := hout ha h1 hb
    split
    · exact fun l' r' e' => ih (.whens _) _ trivial l' r' e' hab.1
    · split
      · exact (i1 _).bind fun c r4 hc => Okx.want fun r5 => Okx.ok (one_of i64_0 ⟨by decide, by have := hab.2; simp at this ⊢; omega⟩ (okL_app hab.1 hc.okL.1))
      · exact Okx.want fun r5 => Okx.ok (one_of i64_0 ⟨by decide, by have := hab.2; simp at this ⊢; omega⟩ hab.1)
end Go.Proofs.YtmaekkhmiafnmaaGreatDoor
namespace Go.Proofs.YtmaekkhmiafnmaaGreatDoor
open Go.RowKit Go Go.Lib
theorem ba_ext {a b : ByteArray} (h : a.data.toList = b.data.toList) : a = b := by
  obtain ⟨⟨a⟩⟩ := a
  obtain ⟨⟨b⟩⟩ := b
  simp at h
  simp [h]
theorem ext_list (s : ByteArray) (i j : Nat) : (s.extract i j).data.toList = (s.data.toList.drop i).take (j - i) := by simp [List.extract_eq_take_drop]
theorem cut_eq (s : ByteArray) (a N p m : Nat) (hp : p = min a s.size) (hm : m = min N (s.size - p)) : (⟨((s.data.toList.drop a).take N).toArray⟩ : ByteArray) = (s.extract p s.size).extract 0 m := by
  apply ba_ext
  rw [ext_list, ext_list, List.drop_zero, Nat.sub_zero]
  have hl : s.data.toList.length = s.size := by simp
  show (List.take N (List.drop a s.data.toList)) = _
  rcases Nat.lt_or_ge s.size a with h | h
  · rw [List.drop_eq_nil_of_le (show s.data.toList.length ≤ a by omega), List.drop_eq_nil_of_le (show s.data.toList.length ≤ p by omega)]
    simp
  · have hpa : p = a := by omega
    subst hpa
    rw [List.take_of_length_le (l := s.data.toList.drop p) (i := s.size - p) (by rw [List.length_drop]; omega)]
    rcases Nat.lt_or_ge N (s.size - p) with h2 | h2
    · rw [show m = N by omega]
    · rw [List.take_of_length_le (by rw [List.length_drop]; omega), List.take_of_length_le (by rw [List.length_drop]; omega)]
theorem absolute_any (n : Int) (hn : i64v n) (w : World) : Calls Tryz.prog 161 #[.int .i64 n] w fun x w' => x = .returned (.tuple #[vV (if n < 0 then arV 17 0 n else (inV n, 0)).1, .int .i64 (if n < 0 then arV 17 0 n else (inV n, 0)).2]) ∧ Tch (fun _ => False) w w' := by
  have HB : Hid (∀ W, Tch (fun _ => False) (w.alloc (.cells #[.int .i64 0, .int .i64 0, .string ⟨#[]⟩] 29)) W → OneB w.heap.size W ∧ Tch (fun _ => False) w W) := fun W t => ⟨oneB t, (Tch.alloc _ _ _).trans' t⟩
  by_cases h : n < 0
  · rw [if_pos h]
    obtain ⟨R, hR⟩ : ∃ R, R = arV 17 0 n := ⟨_, rfl⟩
    have Hq : Hid _ := fun W => calculate_any 17 0 n (by decide) i64_c.1 hn W
    rw [← hR] at Hq ⊢
    clear hR hn
    go_enter Tryz.func161, Tryz.ntmps161
    go_wp2_with (go_at_call 160; refine (Hq.out _).mono ?_; rintro y v1 ⟨rfl, t1⟩; obtain ⟨⟨⟨x0, x1, x2⟩, f0, f1, f2⟩, hw⟩ := HB.out _ t1)
    obtain ⟨k0, k1, k2⟩ := box_set v1 w.heap.size _ _ _ (.int .i64 R.1.k) (.int .i64 R.1.n) (.string R.1.s) x0 x1 x2
    exact bodyPost_ret (res_ve (j := 2) (m := 3) (by kernel_rfl) _ _ w.heap.size R.1 (.int .i64 R.2) rfl rfl k0 k1 k2) rfl ⟨rfl, hw.trans (box_set_tch v1 w.heap.size _ _ _) (fun i hi h => by omega)⟩
  · rw [if_neg h]
    have Hq : Hid _ := fun W => ofInt_any n W
    clear hn
    go_enter Tryz.func161, Tryz.ntmps161
    go_wp2_with (go_at_call 164; refine (Hq.out _).mono ?_; rintro y v1 ⟨rfl, t1⟩; obtain ⟨⟨⟨x0, x1, x2⟩, f0, f1, f2⟩, hw⟩ := HB.out _ t1)
    obtain ⟨k0, k1, k2⟩ := box_set v1 w.heap.size _ _ _ (.int .i64 (inV n).k) (.int .i64 (inV n).n) (.string (inV n).s) x0 x1 x2
    exact bodyPost_ret (res_ve (j := 2) (m := 3) (by kernel_rfl) _ _ w.heap.size (inV n) (.int .i64 0) rfl rfl k0 k1 k2) rfl ⟨rfl, hw.trans (box_set_tch v1 w.heap.size _ _ _) (fun i hi h => by omega)⟩
theorem joined_any (a b : ByteArray) (ha : a.size ≤ 1000000000) (hb : b.size ≤ 1000000000) (w : World) : Calls Tryz.prog 162 #[.string a, .string b] w fun x w' => x = .returned (.tuple #[vV (joiV a b).1, .int .i64 (joiV a b).2]) ∧ Tch (fun _ => False) w w' := by
  have HB : Hid (∀ W, Tch (fun _ => False) (w.alloc (.cells #[.int .i64 0, .int .i64 0, .string ⟨#[]⟩] 29)) W → OneB w.heap.size W ∧ Tch (fun _ => False) w W) := fun W t => ⟨oneB t, (Tch.alloc _ _ _).trans' t⟩
  have hs : (a.size : Int) + (b.size : Int) ≤ 9223372036854775807 := by omega
  have hwr : wrap64 ((a.size : Int) + (b.size : Int)) = (a.size : Int) + (b.size : Int) := by unfold wrap64; omega
  by_cases h : 200 < a.size + b.size
  · have hI : (200 : Int) < (a.size : Int) + (b.size : Int) := by omega
    have HR : Hid (joiV a b = (zV, 114)) := (show joiV a b = _ from if_pos h)
    obtain ⟨z0, z1, z2⟩ := box_v w zV
    have Hz : Hid _ := (⟨z0, z1, z2⟩ : _ ∧ _ ∧ _)
    clear z0 z1 z2 h
    rw [HR.out]
    go_enter Tryz.func162, Tryz.ntmps162
    go_wp2_with fail
    exact bodyPost_ret (res_ve (j := 4) (m := 5) (by kernel_rfl) _ _ w.heap.size zV (.int .i64 114) rfl rfl Hz.out.1 Hz.out.2.1 Hz.out.2.2) rfl ⟨rfl, Tch.alloc _ _ _⟩
  · have hI : ¬ (200 : Int) < (a.size : Int) + (b.size : Int) := by omega
    have HR : Hid (joiV a b = (txV (a ++ b), 0)) := (show joiV a b = _ from if_neg h)
    have Hq : Hid _ := fun W => ofText_any (a ++ b) W
    rw [HR.out]
    obtain ⟨ab, hab⟩ : ∃ ab, ab = a ++ b := ⟨_, rfl⟩
    rw [← hab] at Hq ⊢
    have Hab : Hid _ := hab
    have hsz : ¬ 9223372036854775807 < a.size + b.size := by omega
    clear h hab
    go_enter Tryz.func162, Tryz.ntmps162
    go_wp2_with (go_at_call 165; rw [← Hab.out]; refine (Hq.out _).mono ?_; rintro y v1 ⟨rfl, t1⟩; obtain ⟨⟨⟨x0, x1, x2⟩, f0, f1, f2⟩, hw⟩ := HB.out _ t1)
    obtain ⟨k0, k1, k2⟩ := box_set v1 w.heap.size _ _ _ (.int .i64 (txV ab).k) (.int .i64 (txV ab).n) (.string (txV ab).s) x0 x1 x2
    exact bodyPost_ret (res_ve (j := 4) (m := 5) (by kernel_rfl) _ _ w.heap.size (txV ab) (.int .i64 0) rfl rfl k0 k1 k2) rfl ⟨rfl, hw.trans (box_set_tch v1 w.heap.size _ _ _) (fun i hi h => by omega)⟩
theorem cut_any (s : ByteArray) (a n : Int) (hs : s.size ≤ 1000000000) (ha : i64v a) (w : World) : Calls Tryz.prog 167 #[.string s, .int .i64 a, .int .i64 n] w fun x w' => x = .returned (.tuple #[vV (cutV s a n).1, .int .i64 (cutV s a n).2]) ∧ Tch (fun _ => False) w w' := by
  have HB : Hid (∀ W, Tch (fun _ => False) (w.alloc (.cells #[.int .i64 0, .int .i64 0, .string ⟨#[]⟩] 29)) W → OneB w.heap.size W ∧ Tch (fun _ => False) w W) := fun W t => ⟨oneB t, (Tch.alloc _ _ _).trans' t⟩
  obtain ⟨z0, z1, z2⟩ := box_v w zV
  have Hz : Hid _ := (⟨z0, z1, z2⟩ : _ ∧ _ ∧ _)
  clear z0 z1 z2
  by_cases h1 : a < 1
  · have HR : Hid (cutV s a n = (zV, 114)) := (show cutV s a n = _ from if_pos (Or.inl h1))
    clear ha hs
    rw [HR.out]
    go_enter Tryz.func167, Tryz.ntmps167
    go_wp2_with fail
    exact bodyPost_ret (res_ve (j := 6) (m := 7) (by kernel_rfl) _ _ w.heap.size zV (.int .i64 114) rfl rfl Hz.out.1 Hz.out.2.1 Hz.out.2.2) rfl ⟨rfl, Tch.alloc _ _ _⟩
  · by_cases h2 : n < 0
    · have HR : Hid (cutV s a n = (zV, 114)) := (show cutV s a n = _ from if_pos (Or.inr h2))
      clear ha hs
      rw [HR.out]
      go_enter Tryz.func167, Tryz.ntmps167
      go_wp2_with fail
      exact bodyPost_ret (res_ve (j := 6) (m := 7) (by kernel_rfl) _ _ w.heap.size zV (.int .i64 114) rfl rfl Hz.out.1 Hz.out.2.1 Hz.out.2.2) rfl ⟨rfl, Tch.alloc _ _ _⟩
    · obtain ⟨p, hp⟩ : ∃ p : Nat, p = min (a - 1).toNat s.size := ⟨_, rfl⟩
      obtain ⟨m, hm⟩ : ∃ m : Nat, m = min n.toNat (s.size - p) := ⟨_, rfl⟩
      have HR : Hid (cutV s a n = (txV ((s.extract p s.size).extract 0 m), 0)) := (show cutV s a n = _ from by
        unfold cutV
        rw [if_neg (by omega)]
        rw [cut_eq s _ _ p m hp hm])
      have hpI : min (a - 1) (s.size : Int) = (p : Int) := by omega
      have hmI : min n ((s.extract p s.size).size : Int) = (m : Int) := by rw [ByteArray.size_extract]; omega
      have hm2 : (m : Int) ≤ ((s.extract p s.size).size : Int) := by rw [ByteArray.size_extract]; omega
      have hp2 : (p : Int) ≤ (s.size : Int) := by omega
      have hwa : wrap64 (a - 1) = a - 1 := by unfold i64v at ha; unfold wrap64; omega
      obtain ⟨x, hx⟩ : ∃ x, x = s.extract p s.size := ⟨_, rfl⟩
      obtain ⟨xm, hxm⟩ : ∃ xm, xm = x.extract 0 m := ⟨_, rfl⟩
      rw [← hx] at HR hmI hm2
      rw [← hxm] at HR
      have hx' : s.extract p s.size = x := hx.symm
      have hxm' : x.extract 0 m = xm := hxm.symm
      have Hq : Hid _ := fun W => ofText_any xm W
      clear hp hm hx hxm ha hs
      rw [HR.out]
      go_enter Tryz.func167, Tryz.ntmps167
      go_wp2_with (go_at_call 165; refine (Hq.out _).mono ?_; rintro y v1 ⟨rfl, t1⟩; obtain ⟨⟨⟨x0, x1, x2⟩, f0, f1, f2⟩, hw⟩ := HB.out _ t1)
      obtain ⟨k0, k1, k2⟩ := box_set v1 w.heap.size _ _ _ (.int .i64 (txV xm).k) (.int .i64 (txV xm).n) (.string (txV xm).s) x0 x1 x2
      exact bodyPost_ret (res_ve (j := 6) (m := 7) (by kernel_rfl) _ _ w.heap.size (txV xm) (.int .i64 0) rfl rfl k0 k1 k2) rfl ⟨rfl, hw.trans (box_set_tch v1 w.heap.size _ _ _) (fun i hi h => by omega)⟩
end Go.Proofs.YtmaekkhmiafnmaaGreatDoor
namespace Go.Proofs.YtmaekkhmiafnmaaGreatDoor
open Go.RowKit Go Go.Lib
def Rz (s : ByteArray) (c d N n i : Nat) (W : World) : Prop := ∃ cs K, W.heap[N]? = some (.cells cs 5 (K, K + 1)) ∧ cs.size = K ∧ n ≤ K ∧ ∀ (j : Nat) (b : UInt8), s.data.toList[j]? = some b → cs[j]? = some (.int .u8 ((if j < i then rszB c d b else b).toNat : Nat))
theorem Rz.cell {s : ByteArray} {c d N n i : Nat} {W : World} (h : Rz s c d N n i W) {j : Nat} {b : UInt8} (hb : s.data.toList[j]? = some b) (hn : n = s.size) : W.cell? ⟨N, j, none⟩ = some (.int .u8 ((if j < i then rszB c d b else b).toNat : Nat)) ∧ W.frozen? ⟨N, j, none⟩ = false := by
  obtain ⟨cs, K, h1, h2, h3, h4⟩ := h
  have hj : j < s.size := by have := (List.getElem?_eq_some_iff.1 hb).1; simpa using this
  refine ⟨by rw [blk_cell h1]; exact h4 j b hb, ?_⟩
  simp [World.frozen?, h1]
  omega
theorem Rz.set {s : ByteArray} {c d N n i : Nat} {W : World} (h : Rz s c d N n i W) {b : UInt8} (hb : s.data.toList[i]? = some b) (hn : n = s.size) : Rz s c d N n (i + 1) (W.setCell ⟨N, i, none⟩ (.int .u8 ((rszB c d b).toNat : Nat))) := by
  obtain ⟨cs, K, h1, h2, h3, h4⟩ := h
  have hi : i < s.size := by have := (List.getElem?_eq_some_iff.1 hb).1; simpa using this
  refine ⟨_, K, blk_set h1 _, by simpa using h2, h3, fun j b' hb' => ?_⟩
  rw [Array.getElem?_setIfInBounds]
  by_cases hj : i = j
  · subst hj
    rw [if_pos rfl, if_pos (by omega), if_pos (by omega)]
    rw [hb] at hb'
    injection hb' with hb'
    rw [hb']
  · rw [if_neg hj, h4 j b' hb']
    by_cases h5 : j < i
    · rw [if_pos h5, if_pos (by omega)]
    · rw [if_neg h5, if_neg (by omega)]
theorem Rz.skip {s : ByteArray} {c d N n i : Nat} {W : World} (h : Rz s c d N n i W) {b : UInt8} (hb : s.data.toList[i]? = some b) (he : rszB c d b = b) : Rz s c d N n (i + 1) W := by
  obtain ⟨cs, K, h1, h2, h3, h4⟩ := h
  refine ⟨cs, K, h1, h2, h3, fun j b' hb' => ?_⟩
  rw [h4 j b' hb']
  by_cases hj : i = j
  · subst hj
    rw [hb] at hb'
    injection hb' with hb'
    subst hb'
    rw [if_neg (by omega), if_pos (by omega), he]
  · by_cases h5 : j < i
    · rw [if_pos h5, if_pos (by omega)]
    · rw [if_neg h5, if_neg (by omega)]
theorem Rz.start (s : ByteArray) (c d : Nat) (w : World) : Rz s c d w.heap.size s.size 0 (Lib.bytesWorld w 5 s) := by
  refine ⟨_, _, Lib.bytesWorld_at_new w 5 s, rfl, by simp [Lib.bytesCells], fun j b hb => ?_⟩
  have hj : j < s.size := by have := (List.getElem?_eq_some_iff.1 hb).1; simpa using this
  have h := Lib.bytesWorld_cell w 5 s j hj
  rw [blk_cell (Lib.bytesWorld_at_new w 5 s)] at h
  rw [h, if_neg (by omega), List.getD_eq_getElem?_getD, hb]
  rfl
theorem resized_any (s : ByteArray) (c d : Nat) (hc : c ≤ 200) (hd : d ≤ 200) (hs : s.size ≤ 1000000000) (w : World) :
    Calls Tryz.prog 166 #[.string s, .int .u8 (c : Nat), .int .u8 (d : Nat)] w fun x w' => x = .returned (.string (rszV s c d).s) ∧ Tch (fun _ => False) w w' := by
  have hcv := fun (W : World) => Lib.run_convert_string_bytes (P := Tryz.prog) W 9 118 5 s Tryz.underlying9 Tryz.underlying118 Tryz.underlying5
  have HJ : Hid (Rz s c d w.heap.size s.size 0 (Lib.bytesWorld w 5 s) ∧ Tch (fun _ => False) w (Lib.bytesWorld w 5 s)) := ⟨Rz.start s c d w, bytesWorld_tch _ w s⟩
  obtain ⟨n, hn⟩ : ∃ n, n = s.size := ⟨_, rfl⟩
  have Hn : Hid _ := hn
  obtain ⟨K, hK⟩ : ∃ K, K = grownCap w s.size 0 5 := ⟨_, rfl⟩
  obtain ⟨w1, hw1⟩ : ∃ w1, w1 = Lib.bytesWorld w 5 s := ⟨_, rfl⟩
  have hcv1 := hcv w
  rw [← hw1, ← hK, ← hn] at hcv1
  rw [← hw1, ← hn] at HJ
  rw [← hn] at hs
  clear hcv hw1 hK hn
  go_enter Tryz.func166, Tryz.ntmps166
  go_wp2_with fail
  go_loopw [14] (fun iv wr => ∃ i : Nat, iv = .int .i64 i ∧ i ≤ n ∧ Hid (Rz s c d w.heap.size n i wr ∧ Tch (fun _ => False) w wr)) (fun iv _ => n - (RowKit.intOf iv).toNat)
  case atStart => exact ⟨0, rfl, by omega, HJ⟩
  case round =>
    obtain ⟨i, rfl, hi, HJ2⟩ := hrel
    by_cases hlt : i < n
    · have hltI : (i : Int) < (n : Int) := by omega
      have his : i < s.data.toList.length := by have := Hn.out; simp; omega
      obtain ⟨b, hb⟩ : ∃ b, s.data.toList[i]? = some b := ⟨_, List.getElem?_eq_getElem his⟩
      obtain ⟨c0, f0⟩ := HJ2.out.1.cell hb Hn.out
      rw [if_neg (by omega)] at c0
      have HB : Hid _ := hb
      obtain ⟨bn, hbn⟩ : ∃ bn, bn = b.toNat := ⟨_, rfl⟩
      have hb256 : bn < 256 := by rw [hbn]; exact b.toNat_lt
      have Hbn : Hid _ := hbn
      rw [← hbn] at c0
      have Hsk : Hid (¬ (c ≤ bn ∧ bn < c + 26) → Rz s c d w.heap.size n (i + 1) wr ∧ Tch (fun _ => False) w wr) := fun h => ⟨HJ2.out.1.skip HB.out (by unfold rszB; rw [← Hbn.out, if_neg h]), HJ2.out.2⟩
      clear hb hbn his
      by_cases h1 : c ≤ bn
      · have h1I : (c : Int) ≤ (bn : Int) := by omega
        obtain ⟨x, hx⟩ : ∃ x, x = bn - c := ⟨_, rfl⟩
        have e1 : IntKind.u8.wrap ((bn : Int) - (c : Int)) = (x : Int) := by rw [IntKind.wrap_u8]; omega
        by_cases h2 : bn < c + 26
        · have h2I : (x : Int) < 26 := by omega
          obtain ⟨y, hy⟩ : ∃ y, y = x + d := ⟨_, rfl⟩
          have e2 : IntKind.u8.wrap ((x : Int) + (d : Int)) = (y : Int) := by rw [IntKind.wrap_u8]; omega
          have HJ3 : Hid (Rz s c d w.heap.size n (i + 1) (wr.setCell ⟨w.heap.size, i, none⟩ (.int .u8 (y : Nat))) ∧ Tch (fun _ => False) w (wr.setCell ⟨w.heap.size, i, none⟩ (.int .u8 (y : Nat)))) := by
            have h := HJ2.out.1.set HB.out Hn.out
            have e : (rszB c d b).toNat = y := by
              unfold rszB
              rw [← Hbn.out, if_pos ⟨h1, h2⟩]
              simp
              omega
            rw [e] at h
            exact ⟨h, HJ2.out.2.trans (Tch.setCell (fun k => k = w.heap.size) wr _ _ rfl) (fun k hk h => by omega)⟩
          clear h1 h2 hx hy
          go_wp2_with fail
          go_roundw
          case rel => exact ⟨i + 1, by first | trivial | rfl, by omega, HJ3⟩
          case measure => simp [RowKit.intOf]; omega
        · have h2I : ¬ (x : Int) < 26 := by omega
          have HJ3 : Hid _ := Hsk.out (fun h => h2 h.2)
          clear h1 h2 hx
          go_wp2_with fail
          go_roundw
          case rel => exact ⟨i + 1, by first | trivial | rfl, by omega, HJ3⟩
          case measure => simp [RowKit.intOf]; omega
      · have h1I : ¬ (c : Int) ≤ (bn : Int) := by omega
        have HJ3 : Hid _ := Hsk.out (fun h => h1 h.1)
        clear h1
        go_wp2_with fail
        go_roundw
        case rel => exact ⟨i + 1, by first | trivial | rfl, by omega, HJ3⟩
        case measure => simp [RowKit.intOf]; omega
    · have hltI : ¬ (i : Int) < (n : Int) := by omega
      obtain ⟨l, hl⟩ : ∃ l, l = s.data.toList.map (rszB c d) := ⟨_, rfl⟩
      have hll : l.length = n := by rw [hl, List.length_map, Hn.out]; simp
      have hcv2 := run_convert_bytes_back (P := Tryz.prog) wr 118 9 5 ⟨w.heap.size, 0, none⟩ K l Tryz.underlying118 Tryz.underlying5 Tryz.underlying9 (fun j hj => by
        have hjs : j < s.data.toList.length := by rw [hl, List.length_map] at hj; exact hj
        have h := (HJ2.out.1.cell (List.getElem?_eq_getElem hjs) Hn.out).1
        rw [if_pos (by have := hll; omega)] at h
        rw [add_plain, Nat.zero_add, h]
        simp [hl])
      rw [hll] at hcv2
      have HE : Hid ((rszV s c d).s = ⟨l.toArray⟩) := (show _ = _ from by rw [hl]; rfl)
      obtain ⟨la, hla⟩ : ∃ la : ByteArray, la = ⟨l.toArray⟩ := ⟨_, rfl⟩
      rw [← hla] at hcv2 HE
      clear hl hll hla
      go_wp2_with fail
      go_ret
      exact ⟨by rw [HE.out]; rfl, HJ2.out.2⟩
end Go.Proofs.YtmaekkhmiafnmaaGreatDoor
