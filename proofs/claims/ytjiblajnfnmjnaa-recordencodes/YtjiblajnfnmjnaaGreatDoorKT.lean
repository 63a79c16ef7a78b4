import Derived.Test.YtjiblajnfnmjnaaGreatDoorVLrq
import Derived.Test.YtjiblajnfnmjnaaGreatDoorKP1
import Derived.Test.YtjiblajnfnmjnaaGreatDoorRRec
import Derived.Test.YtjiblajnfnmjnaaGreatDoorVLq
import Derived.Test.YtjiblajnfnmjnaaGreatDoorRV2
import Derived.Test.YtjiblajnfnmjnaaGreatDoorRV4
set_option maxHeartbeats 8000000
set_option maxRecDepth 100000
namespace Go.Proofs.YtjiblajnfnmjnaaGreatDoor
open Go.RowKit Go Go.Lib
def prB (v : Val) : ByteArray := if wrg v ≠ 0 then ⟨#[63]⟩ else if v.k = 0 then ⟨#[110, 117, 108, 108]⟩ else if v.k = 1 then ⟨(itoa v.n).toArray⟩ else if v.k = 3 then (if v.n = 1 then ⟨#[116, 114, 117, 101]⟩ else ⟨#[102, 97, 108, 115, 101]⟩) else ⟨(qtd v.s).toArray⟩
theorem empty_eq {s : ByteArray} (h : s.size = 0) : s = ⟨#[]⟩ := by
  apply ByteArray.ext
  exact Array.eq_empty_of_size_eq_zero h
theorem frm_of {v : Val} (h : wrg v = 0) : frm v ∧ v.s.size ≤ 200 := by
  unfold wrg at h
  split at h
  · split at h
    · exact ⟨by assumption, by assumption⟩
    · omega
  · omega
theorem print_by (v : Val) (w : World) (q : ByteArray) (hq : q = prB v) (hl : wrg v = 0 → ∀ W, Tch (fun _ => False) w W → Calls Tryz.prog 143 #[vA v.k v.n v.s] W fun x w' => x = .returned (.string q) ∧ Tch (fun _ => False) W w') :
    Calls Tryz.prog 115 #[vA v.k v.n v.s] w fun x w' => x = .returned (.string q) ∧ Tch (fun _ => False) w w' := by
  obtain ⟨k, n, s⟩ := v
  have Hl : Hid _ := hl
  have Hq : Hid _ := hq
  clear hl hq
  obtain ⟨e, he⟩ : ∃ e, e = wrg ⟨k, n, s⟩ := ⟨_, rfl⟩
  have q1 := fun W => wrong_any k n s W
  rw [← he] at q1
  have HQ1 : Hid _ := q1
  have He : Hid (e = wrg ⟨k, n, s⟩) := he
  clear q1 he
  by_cases h0 : e = 0
  · subst h0
    go_enter Tryz.func115, Tryz.ntmps115
    go_wp2_with fail
    refine (HQ1.out _).mono ?_
    rintro x w1 ⟨rfl, t1⟩
    obtain ⟨c0, c1, c2⟩ := box_tch t1
    have T1 : Tch (fun _ => False) w w1 := (Tch.alloc _ _ _).trans' t1
    have q2 := Hl.out He.out.symm w1 T1
    have HT1 : Hid _ := T1
    clear t1 T1
    go_wp2_with fail
    refine q2.mono ?_
    rintro x w2 ⟨rfl, t2⟩
    clear q2
    go_wp2_with fail
    go_ret
    exact ⟨rfl, HT1.out.trans' t2⟩
  · have h0b : (e == 0) = false := beq_eq_false_iff_ne.2 h0
    have HR : Hid (q = ⟨#[63]⟩) := by
      show _ = _
      rw [Hq.out]; unfold prB; rw [if_pos (by rw [← He.out]; exact h0)]
    go_enter Tryz.func115, Tryz.ntmps115
    go_wp2_with fail
    refine (HQ1.out _).mono ?_
    rintro x w1 ⟨rfl, t1⟩
    have T1 : Tch (fun _ => False) w w1 := (Tch.alloc _ _ _).trans' t1
    have HT1 : Hid _ := T1
    clear t1 T1
    go_wp2_with fail
    go_ret
    exact ⟨by rw [HR.out]; rfl, HT1.out⟩
theorem rprint_any (v : Val) (hi : i64v v.n) (w : World) :
    Calls Tryz.prog 93 #[vA v.k v.n v.s] w fun x w' => x = .returned (.string (prB v)) ∧ Tch (fun _ => False) w w' := by
  obtain ⟨p, hp⟩ : ∃ p, p = prB v := ⟨_, rfl⟩
  rw [← hp]
  obtain ⟨k, n, s⟩ := v
  obtain ⟨e, he⟩ : ∃ e, e = wrg ⟨k, n, s⟩ := ⟨_, rfl⟩
  have q1 := fun W => rwrong_any k n s W
  rw [← he] at q1
  have HQ1 : Hid _ := q1
  have He : Hid (e = wrg ⟨k, n, s⟩) := he
  have Hp : Hid (p = prB ⟨k, n, s⟩) := hp
  clear q1 he hp
  by_cases h0 : e = 0
  · subst h0
    obtain ⟨hf, h200⟩ := frm_of He.out.symm
    have hpr : p = if k = 0 then ⟨#[110, 117, 108, 108]⟩ else if k = 1 then ⟨(itoa n).toArray⟩ else if k = 3 then (if n = 1 then ⟨#[116, 114, 117, 101]⟩ else ⟨#[102, 97, 108, 115, 101]⟩) else ⟨(qtd s).toArray⟩ := by rw [Hp.out]; unfold prB; rw [if_neg (fun h => h He.out.symm)]
    have qd := fun W => rdig_any n hi W
    have qq := fun W => rquoted_any s W (by simp only at h200; omega)
    have Hqd : Hid _ := qd
    have Hqq : Hid _ := qq
    have hcase : (k = 0 ∧ p = ⟨#[110, 117, 108, 108]⟩) ∨ (k = 1 ∧ p = ⟨(itoa n).toArray⟩) ∨ (k = 2 ∧ p = ⟨(qtd s).toArray⟩) ∨ (k = 3 ∧ n = 0 ∧ p = ⟨#[102, 97, 108, 115, 101]⟩) ∨ (k = 3 ∧ n = 1 ∧ p = ⟨#[116, 114, 117, 101]⟩) := by
      rcases hf with ⟨e1, e2, e3⟩ | ⟨e1, e2⟩ | ⟨e1, e2⟩ | ⟨e1, e2, e3⟩
      · simp only at e1; subst e1; exact Or.inl ⟨rfl, hpr⟩
      · simp only at e1; subst e1; exact Or.inr (Or.inl ⟨rfl, hpr⟩)
      · simp only at e1; subst e1; exact Or.inr (Or.inr (Or.inl ⟨rfl, hpr⟩))
      · simp only at e1 e3; subst e1
        rcases e3 with rfl | rfl
        · exact Or.inr (Or.inr (Or.inr (Or.inl ⟨rfl, rfl, hpr⟩)))
        · exact Or.inr (Or.inr (Or.inr (Or.inr ⟨rfl, rfl, hpr⟩)))
    clear hf h200 hpr qd qq
    rcases hcase with ⟨rfl, hp⟩ | ⟨rfl, hp⟩ | ⟨rfl, hp⟩ | ⟨rfl, rfl, hp⟩ | ⟨rfl, rfl, hp⟩
    all_goals
      have HP : Hid _ := hp
      clear hp
      go_enter Tryz.func93, Tryz.ntmps93
      go_wp2_with fail
      refine (HQ1.out _).mono ?_
      rintro x w1 ⟨rfl, t1⟩
      obtain ⟨c0, c1, c2⟩ := box_tch t1
      have T1 : Tch (fun _ => False) w w1 := (Tch.alloc _ _ _).trans' t1
      have HT1 : Hid _ := T1
      clear t1 T1
      go_wp2_with fail
    · go_ret
      exact ⟨by rw [HP.out]; rfl, HT1.out⟩
    · refine (Hqd.out _).mono ?_
      rintro x w2 ⟨rfl, hw2⟩
      obtain rfl := hw2.symm
      clear hw2
      go_wp2_with fail
      go_ret
      exact ⟨by rw [HP.out]; rfl, HT1.out⟩
    · refine (Hqq.out _).mono ?_
      rintro x w2 ⟨rfl, t2⟩
      go_wp2_with fail
      go_ret
      exact ⟨by rw [HP.out]; rfl, HT1.out.trans' t2⟩
    · go_ret
      exact ⟨by rw [HP.out]; rfl, HT1.out⟩
    · go_ret
      exact ⟨by rw [HP.out]; rfl, HT1.out⟩
  · have h0b : (e == 0) = false := beq_eq_false_iff_ne.2 h0
    have HR : Hid (p = ⟨#[63]⟩) := by
      show _ = _
      rw [Hp.out]; unfold prB; rw [if_pos (by rw [← He.out]; exact h0)]
    go_enter Tryz.func93, Tryz.ntmps93
    go_wp2_with fail
    refine (HQ1.out _).mono ?_
    rintro x w1 ⟨rfl, t1⟩
    have T1 : Tch (fun _ => False) w w1 := (Tch.alloc _ _ _).trans' t1
    have HT1 : Hid _ := T1
    clear t1 T1
    go_wp2_with fail
    go_ret
    exact ⟨by rw [HR.out]; rfl, HT1.out⟩
end Go.Proofs.YtjiblajnfnmjnaaGreatDoor
namespace Go.Proofs.YtjiblajnfnmjnaaGreatDoor.C
open Go.RowKit Go Go.Lib
theorem print_any6 (v : Val) (hi : i64v v.n) (w : World) (hw : HWd w) (hv : HP w) :
    Calls Tryz.prog 115 #[vA v.k v.n v.s] w fun x w' => x = .returned (.string (prB v)) ∧ Tch (fun _ => False) w w' := by
  refine print_by v w _ rfl (fun h0 W t => ?_)
  obtain ⟨hf, h200⟩ := frm_of h0
  have hpr : prB v = if v.k = 0 then ⟨#[110, 117, 108, 108]⟩ else if v.k = 1 then ⟨(itoa v.n).toArray⟩ else if v.k = 3 then (if v.n = 1 then ⟨#[116, 114, 117, 101]⟩ else ⟨#[102, 97, 108, 115, 101]⟩) else ⟨(qtd v.s).toArray⟩ := by unfold prB; rw [if_neg (fun h => h h0)]
  rw [hpr]
  obtain ⟨k, n, s⟩ := v
  simp only at hf h200 hi ⊢
  rcases hf with ⟨e1, e2, e3⟩ | ⟨e1, e2⟩ | ⟨e1, e2⟩ | ⟨e1, e2, e3⟩
  · simp only at e1 e2 e3
    obtain rfl := empty_eq e3
    subst e1 e2
    exact literal_null W (hw.no t)
  · simp only at e1 e2
    obtain rfl := empty_eq e2
    subst e1
    exact literal_int6 n hi W (hw.no t) (hv.no t)
  · simp only at e1 e2
    subst e1 e2
    exact literal_text s W (hw.no t) _ (fun W' => quoted_any s W' (by omega))
  · simp only at e1 e2 e3
    obtain rfl := empty_eq e2
    subst e1
    rcases e3 with rfl | rfl
    · exact literal_false W (hw.no t)
    · exact literal_true W (hw.no t)
theorem prB_size (v : Val) (hi : i64v v.n) : (prB v).size ≤ 700 := by
  unfold prB
  split
  · show (1 : Nat) ≤ 700; omega
  · rename_i h0
    have h0 : wrg v = 0 := Classical.byContradiction h0
    obtain ⟨hf, h200⟩ := frm_of h0
    split
    · show (4 : Nat) ≤ 700; omega
    · split
      · show (itoa v.n).toArray.size ≤ 700
        have : (itoa v.n).length ≤ 22 := by
          unfold itoa
          unfold i64v at hi
          split
          · have := dec_len v.n.natAbs (by omega); simp only [List.length_cons]; omega
          · have := dec_len v.n.toNat (by omega); omega
        simp; omega
      · split
        · split
          · show (4 : Nat) ≤ 700; omega
          · show (5 : Nat) ≤ 700; omega
        · show (qtd v.s).toArray.size ≤ 700
          have h2 := escs_len v.s.data.toList
          have h3 : v.s.data.toList.length = v.s.size := by rw [Array.length_toList]; rfl
          rw [qtd_qt]
          unfold qt
          simp
          omega
end Go.Proofs.YtjiblajnfnmjnaaGreatDoor.C
namespace Go.Proofs.YtjiblajnfnmjnaaGreatDoor.C
open Go.Lib
def bl (s : ByteArray) : List UInt8 := s.data.toList
theorem bl_app (a b : ByteArray) : bl (a ++ b) = bl a ++ bl b := by unfold bl; rw [ByteArray.data_append]; simp
theorem bl_eq {a b : ByteArray} (h : bl a = bl b) : a = b := by
  apply ByteArray.ext
  exact Array.toList_inj.1 h
theorem emp_eq {s : ByteArray} (h : s.size = 0) : s = ⟨#[]⟩ := by
  apply ByteArray.ext
  exact Array.eq_empty_of_size_eq_zero h
theorem bl_size (a : ByteArray) : (bl a).length = a.size := by unfold bl; rw [Array.length_toList]; rfl
theorem bl_mk (l : List UInt8) : bl ⟨l.toArray⟩ = l := by simp [bl]
def bB (l : List UInt8) : ByteArray := ⟨l.toArray⟩
theorem bB_of {b : ByteArray} {l : List UInt8} (h : bl b = l) : b = bB l := bl_eq (by rw [h]; exact (bl_mk l).symm)
theorem bl_bB (l : List UInt8) : bl (bB l) = l := bl_mk l
theorem size_bB (l : List UInt8) : (bB l).size = l.length := by rw [← bl_size, bl_bB]
theorem size_app (a b : ByteArray) : (a ++ b).size = a.size + b.size := by rw [← bl_size, bl_app, List.length_append, bl_size, bl_size]
theorem textL_bl (s : ByteArray) : textL s = dg s.size ++ bl s := rfl
def wordC (c : Nat) : ByteArray := match c with
  | 1 => ⟨#[120]⟩
  | 2 => ⟨#[120, 112]⟩
  | 3 => ⟨#[120, 116, 119]⟩
  | 4 => ⟨#[120, 116, 111, 119]⟩
  | 5 => ⟨#[120, 116, 111]⟩
  | 6 => ⟨#[120, 99]⟩
  | 7 => ⟨#[120, 109]⟩
  | 8 => ⟨#[120, 97]⟩
  | 9 => ⟨#[120, 116]⟩
  | 10 => ⟨#[110, 117, 108]⟩
  | _ => ⟨#[]⟩
structure Dg (n : Nat) (S : ByteArray) (m : Nat) : Prop where
  sz : S.size ≤ 9
  eq : bl S ++ dgf (10 - S.size) m = dg n
  lt : m < 128 ^ (10 - S.size)
theorem Dg.start {n : Nat} (h : n ≤ 9223372036854775807) : Dg n ⟨#[]⟩ n := by
  refine ⟨Nat.zero_le _, rfl, ?_⟩
  show n < 128 ^ 10
  have : (128 : Nat) ^ 10 = 1180591620717411303424 := by decide
  omega
theorem Dg.more {n m : Nat} {S : ByteArray} (h : Dg n S m) (hm : ¬ m < 128) : Dg n (S ++ ⟨#[UInt8.ofNat (m % 128 + 128)]⟩) (m / 128) := by
  have hs := h.sz
  have hl := h.lt
  obtain ⟨f, hf⟩ : ∃ f, 10 - S.size = f + 1 := ⟨9 - S.size, by omega⟩
  have hf0 : f ≠ 0 := by
    rintro rfl
    rw [hf] at hl
    omega
  have e1 : (S ++ ⟨#[UInt8.ofNat (m % 128 + 128)]⟩ : ByteArray).size = S.size + 1 := size_app _ _
  refine ⟨by rw [e1]; omega, ?_, ?_⟩
  · rw [e1, show 10 - (S.size + 1) = f by omega, bl_app, ← h.eq, hf, dgf_more hm]
    simp [bl]
  · rw [e1, show 10 - (S.size + 1) = f by omega]
    rw [hf, Nat.pow_succ] at hl
    exact Nat.div_lt_of_lt_mul (by omega)
theorem Dg.done {n m : Nat} {S : ByteArray} (h : Dg n S m) (hm : m < 128) : bl (S ++ ⟨#[UInt8.ofNat m]⟩) = dg n := by
  have hs := h.sz
  obtain ⟨f, hf⟩ : ∃ f, 10 - S.size = f + 1 := ⟨9 - S.size, by omega⟩
  rw [bl_app, ← h.eq, hf, dgf_last hm]
  rfl
def dgI (n : Int) : List UInt8 := if 0 ≤ n then dg n.toNat else [UInt8.ofNat (n % 256).toNat]
theorem dgI_pos {n : Int} (h : 0 ≤ n) : dgI n = dg n.toNat := if_pos h
theorem dg_len (n : Nat) : (dg n).length ≤ 10 := dgf_len 10 n
theorem dgI_len (n : Int) : (dgI n).length ≤ 10 := by
  unfold dgI
  split
  · exact dg_len _
  · show (1 : Nat) ≤ 10; omega
def okF (r : Rc) (c : Nat) : Prop := match c with
  | 120 => rtN r.x
  | 110 => rtNx r.x
  | 112 => rtN r.p ∧ r.p < r.x
  | 116 => rtN r.t
  | 117 => rtNx r.t
  | 111 => rtRow r.o
  | 119 => rtRow r.n
  | 99 => orOk r.nm r.org
  | 109 => nmOk r.nm = true
  | 97 => rightE r.tb = 0
  | 108 => LDp r.tbs r.t
  | _ => False
def fldL (r : Rc) (c : Nat) : List UInt8 := match c with
  | 120 => dg r.x.toNat
  | 110 => dg r.x.toNat
  | 112 => dg r.p.toNat
  | 116 => dg r.t.toNat
  | 117 => dg r.t.toNat
  | 111 => rowL r.o
  | 119 => rowL r.n
  | 99 => textL r.nm ++ dg r.org.toNat
  | 109 => textL r.nm
  | 97 => tabL r.tb
  | 108 => bytesL [(r.tbs.length : Int)] ++ tabsL r.tbs
  | _ => []
def wordN (c : Nat) : List Nat := (bl (wordC c)).map (·.toNat)
theorem right_word (r : Rc) (c : Nat) (h1 : 1 ≤ c) (h2 : c ≤ 10) : rightC c r ↔ ∀ x ∈ wordN c, okF r x := by
  have hc0 : c = 1 ∨ c = 2 ∨ c = 3 ∨ c = 4 ∨ c = 5 ∨ c = 6 ∨ c = 7 ∨ c = 8 ∨ c = 9 ∨ c = 10 := by omega
  rcases hc0 with rfl | rfl | rfl | rfl | rfl | rfl | rfl | rfl | rfl | rfl
  all_goals simp [wordN, wordC, bl, rightC, okF, rtNx, orOk]
theorem body_word (r : Rc) (c : Nat) (h1 : 1 ≤ c) (h2 : c ≤ 10) : (wordN c).flatMap (fldL r) = bodyL c r := by
  have hc0 : c = 1 ∨ c = 2 ∨ c = 3 ∨ c = 4 ∨ c = 5 ∨ c = 6 ∨ c = 7 ∨ c = 8 ∨ c = 9 ∨ c = 10 := by omega
  rcases hc0 with rfl | rfl | rfl | rfl | rfl | rfl | rfl | rfl | rfl | rfl
  all_goals simp [wordN, wordC, bl, bodyL, fldL]
theorem rowL_len6 (vs : List Val) : (rowL vs).length ≤ 1699 := by
  unfold rowL
  rw [textL_bl, List.length_append, bl_mk]
  have h1 := encR_len vs
  have h2 := dg_len (⟨(encR vs).1.toArray⟩ : ByteArray).size
  omega
theorem colsL_len6 : ∀ (l : List Col), (∀ c ∈ l, nmOk c.nm = true) → (colsL l).length ≤ 28 * l.length
  | [], _ => by simp [colsL]
  | c :: l, h => by
    have e : colsL (c :: l) = colL c ++ colsL l := List.flatMap_cons
    have h1 := colsL_len6 l (fun x hx => h x (by simp [hx]))
    have h2 := nm_size (h c (by simp))
    have h3 := dg_len c.nm.size
    have e2 : (bytesL [c.k, nb c.nl]).length = 2 := rfl
    rw [e, List.length_append, List.length_cons]
    unfold colL
    rw [List.length_append, textL_bl, List.length_append, bl_size, e2]
    omega
theorem tabL_len6 {t : Tbl} (h : RT t) : (tabL t).length ≤ 300 := by
  have h1 := colsL_len6 t.cols (fun c hc => (h.cols c hc).1)
  have h2 := nm_size h.nm
  have h3 := dg_len t.id.toNat
  have h4 := dg_len t.ver.toNat
  have h5 := dg_len t.nm.size
  have h6 := h.len
  have e1 : ∀ n : Int, (bytesL [n]).length = 1 := fun _ => rfl
  unfold tabL
  simp only [List.length_append, textL_bl, bl_size, e1]
  omega
theorem tabsL_len6 : ∀ (l : List Tbl), (∀ t ∈ l, RT t) → (tabsL l).length ≤ 300 * l.length
  | [], _ => by simp [tabsL]
  | t :: l, h => by
    have e : tabsL (t :: l) = tabL t ++ tabsL l := List.flatMap_cons
    have h1 := tabsL_len6 l (fun x hx => h x (by simp [hx]))
    have h2 := tabL_len6 (h t (by simp))
    rw [e, List.length_append, List.length_cons]
    omega
theorem fldL_len {r : Rc} {c : Nat} (h : okF r c) : (fldL r c).length ≤ 10000 := by
  unfold okF at h
  unfold fldL
  split at h
  all_goals (try simp only)
  · have := dg_len r.x.toNat; omega
  · have := dg_len r.x.toNat; omega
  · have := dg_len r.p.toNat; omega
  · have := dg_len r.t.toNat; omega
  · have := dg_len r.t.toNat; omega
  · have := rowL_len6 r.o; omega
  · have := rowL_len6 r.n; omega
  · rw [List.length_append, textL_bl, List.length_append, bl_size]
    have h1 := dg_len r.nm.size
    have h2 := dg_len r.org.toNat
    have h3 : r.nm.size ≤ 16 := by
      rcases h with h | h
      · omega
      · exact nm_size h.1
    omega
  · rw [textL_bl, List.length_append, bl_size]
    have h1 := dg_len r.nm.size
    have h3 := nm_size h
    omega
  · have := tabL_len6 (right_rt h); omega
  · rw [List.length_append]
    have h1 := tabsL_len6 r.tbs h.rt
    have h2 := h.len
    have e1 : ∀ n : Int, (bytesL [n]).length = 1 := fun _ => rfl
    rw [e1]
    omega
  · exact h.elim
end Go.Proofs.YtjiblajnfnmjnaaGreatDoor.C
namespace Go.Proofs.YtjiblajnfnmjnaaGreatDoor.C
open Go.RowKit Go Go.Lib
def fromB : ByteArray := ⟨#[102, 114, 111, 109]⟩
def atB : ByteArray := ⟨#[97, 116]⟩
def ofB : ByteArray := ⟨#[111, 102]⟩
def toB : ByteArray := ⟨#[116, 111]⟩
def asB : ByteArray := ⟨#[97, 115]⟩
def nextB : ByteArray := ⟨#[110, 101, 120, 116]⟩
def dotB : ByteArray := ⟨#[46]⟩
def keyW : ByteArray := ⟨#[32, 107, 101, 121, 32]⟩
def nullW : ByteArray := ⟨#[32, 110, 117, 108, 108]⟩
def kindB (k : Int) : ByteArray := if k = 1 then ⟨#[105, 110, 116]⟩ else if k = 2 then ⟨#[116, 101, 120, 116]⟩ else ⟨#[98, 111, 111, 108]⟩
def colB (c : Col) : ByteArray := c.nm ++ spB ++ kindB c.k ++ (if c.nl then nullW else ⟨#[]⟩)
def tabB (t : Tbl) : ByteArray := t.nm ++ spB ++ itoB t.id ++ dotB ++ itoB t.ver ++ spB ++ brk (t.cols.map colB) ++ keyW ++ (t.cols.getD t.key.toNat ⟨⟨#[]⟩, 0, false⟩).nm
def wds (c : Nat) (r : Rc) : List ByteArray := match c with
  | 1 => [itoB r.x]
  | 2 => [itoB r.x, ofB, itoB r.p]
  | 3 => [itoB r.x, tableB, itoB r.t, brk (r.n.map prB)]
  | 4 => [itoB r.x, tableB, itoB r.t, brk (r.o.map prB), toB, brk (r.n.map prB)]
  | 5 => [itoB r.x, tableB, itoB r.t, brk (r.o.map prB)]
  | 6 => if r.nm.size = 0 then [itoB r.x] else [itoB r.x, fromB, r.nm, atB, itoB r.org]
  | 7 => [itoB r.x, asB, r.nm]
  | 8 => [itoB r.x, tabB r.tb]
  | 9 => [itoB r.x, tableB, itoB r.t]
  | 10 => [nextB, itoB r.x, tableB, itoB r.t] ++ r.tbs.map tabB
  | _ => []
def verbB (k : Int) : ByteArray := match verbCells[k.toNat]? with
  | some (.string b) => b
  | _ => ⟨#[]⟩
def recB (r : Rc) : ByteArray := verbB r.k ++ spB ++ joinS (wds (cls r.k) r)
theorem ito_size (n : Int) (h : -9223372036854775808 ≤ n ∧ n ≤ 9223372036854775807) : (itoB n).size ≤ 22 := by
  show (itoa n).toArray.size ≤ 22
  rw [List.size_toArray]
  unfold itoa
  split
  · have := dec_len n.natAbs (by omega); simp only [List.length_cons]; omega
  · have := dec_len n.toNat (by omega); omega
theorem joinT_len (sep : List UInt8) : ∀ (xs : List ByteArray) (m : Nat), (∀ x ∈ xs, x.size ≤ m) → (joinTail sep (xs.map (·.data.toList))).length ≤ xs.length * (sep.length + m)
  | [], m, _ => by simp [joinTail]
  | x :: xs, m, h => by
    have h1 := joinT_len sep xs m (fun y hy => h y (by simp [hy]))
    have h2 := h x (by simp)
    have h3 : x.data.toList.length = x.size := bl_size x
    unfold joinTail at h1 ⊢
    simp only [List.map_cons, List.flatten_cons, List.length_append, List.length_cons] at h1 ⊢
    rw [Nat.succ_mul]
    omega
theorem join_len (sep : List UInt8) (xs : List ByteArray) (m : Nat) (h : ∀ x ∈ xs, x.size ≤ m) : (join (xs.map (·.data.toList)) sep).length ≤ xs.length * (sep.length + m) := by
  cases xs with
  | nil => simp [join_nil]
  | cons x xs =>
    have h1 := joinT_len sep xs m (fun y hy => h y (by simp [hy]))
    have h2 := h x (by simp)
    have h3 : x.data.toList.length = x.size := bl_size x
    rw [List.map_cons, join_cons, List.length_append, List.length_cons, Nat.succ_mul]
    omega
theorem joinC_len (xs : List ByteArray) (m : Nat) (h : ∀ x ∈ xs, x.size ≤ m) : (joinC xs).length ≤ xs.length * (2 + m) := join_len _ xs m h
theorem brk_size (xs : List ByteArray) (m : Nat) (h : ∀ x ∈ xs, x.size ≤ m) : (brk xs).size ≤ xs.length * (2 + m) + 2 := by
  have h1 := joinC_len xs m h
  unfold brk
  rw [size_app, size_app]
  have e1 : (⟨(joinC xs).toArray⟩ : ByteArray).size = (joinC xs).length := by show (joinC xs).toArray.size = _; simp
  have e2 : (⟨#[40]⟩ : ByteArray).size = 1 := rfl
  have e3 : (⟨#[41]⟩ : ByteArray).size = 1 := rfl
  omega
theorem colB_size {c : Col} (h : c.nm.size ≤ 16) : (colB c).size ≤ 30 := by
  unfold colB
  rw [size_app, size_app, size_app]
  have e1 : spB.size = 1 := rfl
  have e2 : (kindB c.k).size ≤ 4 := by unfold kindB; (repeat' split) <;> first | exact (by decide : (3 : Nat) ≤ 4) | exact (by decide : (4 : Nat) ≤ 4)
  have e3 : (if c.nl then nullW else ⟨#[]⟩ : ByteArray).size ≤ 5 := by split <;> first | exact (by decide : (5 : Nat) ≤ 5) | exact (by decide : (0 : Nat) ≤ 5)
  omega
theorem tabB_size {t : Tbl} (h : RT t) : (tabB t).size ≤ 400 := by
  have h1 : (brk (t.cols.map colB)).size ≤ 8 * 32 + 2 := by
    have := brk_size (t.cols.map colB) 30 (fun x hx => by
      obtain ⟨c, hc, rfl⟩ := List.mem_map.1 hx
      exact colB_size (nm_size (h.cols c hc).1))
    rw [List.length_map] at this
    have := h.len.2
    omega
  have h2 := nm_size h.nm
  have h3 := h.id
  have h4 := h.ver
  have h5 := ito_size t.id (by omega)
  have h6 := ito_size t.ver (by omega)
  have h7 : (t.cols.getD t.key.toNat ⟨⟨#[]⟩, 0, false⟩).nm.size ≤ 16 := by
    have hk := h.key
    rw [List.getD_eq_getElem?_getD, List.getElem?_eq_getElem (by omega)]
    exact nm_size (h.cols _ (List.getElem_mem _)).1
  have e1 : spB.size = 1 := rfl
  have e2 : dotB.size = 1 := rfl
  have e3 : keyW.size = 5 := rfl
  unfold tabB
  simp only [size_app]
  omega
theorem rowB_size {vs : List Val} (h : vs.length ≤ 8) (hi : ∀ v ∈ vs, v.i64) : (joinC (vs.map prB)).length ≤ 6000 ∧ (brk (vs.map prB)).size ≤ 6000 := by
  have h0 : ∀ x ∈ vs.map prB, x.size ≤ 700 := fun x hx => by
    obtain ⟨v, hv, rfl⟩ := List.mem_map.1 hx
    exact prB_size v (hi v hv).2
  have h1 := joinC_len (vs.map prB) 700 h0
  have h2 := brk_size (vs.map prB) 700 h0
  rw [List.length_map] at h1 h2
  omega
end Go.Proofs.YtjiblajnfnmjnaaGreatDoor.C
namespace Go.Proofs.YtjiblajnfnmjnaaGreatDoor.C
open Go.RowKit Go Go.Sort
def WO (xs : List ByteArray) (w : World) (x : Ending) (w' : World) : Prop := (∃ g cap, x = .returned (.slice (some ⟨g, 0, none⟩) xs.length cap) ∧ xs.length ≤ cap ∧ ∀ j y, xs[j]? = some y → w'.cell? ⟨g, 0 + j, none⟩ = some (.string y)) ∧ Tch (fun _ => False) w w'
theorem kindName6 (k : Int) (w : World) : Calls Tryz.prog 144 #[.int .i64 k] w fun x w' => x = .returned (.string (kindB k)) ∧ w' = w := by
  by_cases h1 : k = 1
  · subst h1
    go_enter Tryz.func144, Tryz.ntmps144
    go_wp2
    go_ret
    exact ⟨rfl, rfl⟩
  by_cases h2 : k = 2
  · subst h2
    go_enter Tryz.func144, Tryz.ntmps144
    go_wp2
    go_ret
    exact ⟨rfl, rfl⟩
  have HK : Hid (kindB k = ⟨#[98, 111, 111, 108]⟩) := by show _ = _; unfold kindB; rw [if_neg h1, if_neg h2]
  have e1 : (k == 1) = false := int_ne h1
  have e2 : (k == 2) = false := int_ne h2
  clear h1 h2
  go_enter Tryz.func144, Tryz.ntmps144
  go_wp2
  go_ret
  exact ⟨by rw [HK.out]; rfl, rfl⟩
theorem printColumn6 (x : Col) (hs : x.nm.size ≤ 16) (w : World) : Calls Tryz.prog 117 #[.agg #[.string x.nm, .int .i64 x.k, .bool x.nl]] w fun e w' => e = .returned (.string (colB x)) ∧ Tch (fun _ => False) w w' := by
  obtain ⟨w0, hw0⟩ : ∃ w0, w0 = w.alloc (.cells #[.string x.nm, .int .i64 x.k, .bool x.nl] 43) := ⟨_, rfl⟩
  have t0 : Tch (fun _ => False) w w0 := by rw [hw0]; exact Tch.alloc _ _ _
  obtain ⟨K, hK⟩ : ∃ K, K = kindB x.k := ⟨_, rfl⟩
  have hKs : K.size ≤ 4 := by rw [hK]; unfold kindB; (repeat' split) <;> first | exact (by decide : (3 : Nat) ≤ 4) | exact (by decide : (4 : Nat) ≤ 4)
  have HB : Hid (colB x = x.nm ++ ⟨#[32]⟩ ++ K ++ (if x.nl then ⟨#[32, 110, 117, 108, 108]⟩ else ⟨#[]⟩)) := by show _ = _; rw [hK]; rfl
  have g0 : w0.cell? ⟨w.heap.size, 0, none⟩ = some (.string x.nm) := by rw [hw0]; simp
  have g1 : w0.cell? ⟨w.heap.size, 1, none⟩ = some (.int .i64 x.k) := by rw [hw0]; simp
  have g2 : w0.cell? ⟨w.heap.size, 2, none⟩ = some (.bool x.nl) := by rw [hw0]; simp
  have k0 := cell_regrown g0
  have k1 := cell_regrown g1
  have k2 := cell_regrown g2
  have c1 := fun (d : Nat) (os : Array Obj) => regrown_calls (w := w0) (v := .string K) (fun W _ => (kindName6 x.k W).mono fun _ _ ⟨h1, h2⟩ => ⟨by rw [h1, hK], by rw [h2]; exact Tch.refl _ _⟩) d os
  have HT0 : Hid (Tch (fun _ => False) w w0) := t0
  have HW0 : Hid (w0 = w.alloc (.cells #[.string x.nm, .int .i64 x.k, .bool x.nl] 43)) := hw0
  have e0 : ∀ a : ByteArray, a ++ ⟨#[]⟩ = a := fun a => bl_eq (by rw [bl_app]; exact List.append_nil _)
  have HE0 : Hid _ := e0
  obtain ⟨C, hC⟩ : ∃ C, C = colB x := ⟨_, rfl⟩
  rw [← hC] at HB ⊢
  clear hw0 t0 hK hC e0
  have hz : (x.nm ++ ⟨#[32]⟩ ++ K).size ≤ 100 := by rw [size_app, size_app]; show x.nm.size + 1 + K.size ≤ 100; omega
  obtain ⟨nl, hnl⟩ : ∃ nl, nl = x.nl := ⟨_, rfl⟩
  rw [← hnl] at HB HW0 g2 k2 ⊢
  clear hnl
  cases nl
  · have HC : Hid (C = x.nm ++ ⟨#[32]⟩ ++ K) := HB.out.trans (HE0.out _)
    clear HB HE0
    go_enter Tryz.func117, Tryz.ntmps117
    go_wp2_with fail
    rw [← HW0.out]
    refine wp_region_quiet_below (by kernel_rfl) (by kernel_rfl) ?_
    quiet_step (fail)
    quiet_step (fail)
    quiet_step ((rw [if_neg (by omega)]; exact ⟨rfl, rfl⟩))
    quiet_step (fail)
    quiet_step (fail)
    quiet_step ((go_at_call 144; exact c1 _ _))
    quiet_step ((rw [if_neg (by omega)]; exact ⟨rfl, rfl⟩))
    quiet_step (fail)
    refine wpQuiet_nil ?_
    rintro w1 ⟨p, rfl⟩
    have HE : Hid (Tch (fun _ => False) w (grow (redrawn w0 p.d) p.os)) := HT0.out.trans' (Tch.regrown w0 p.d p.os)
    have m2 := k2 p.d p.os
    obtain ⟨W1, hW1⟩ : ∃ W1, W1 = grow (redrawn w0 p.d) p.os := ⟨_, rfl⟩
    rw [← hW1] at HE m2 ⊢
    clear hW1 k0 k1 k2 c1 g0 g1 g2
    go_wp2_with fail
    go_ret
    exact ⟨by rw [HC.out]; rfl, HE.out⟩
  · have HC : Hid (C = x.nm ++ ⟨#[32]⟩ ++ K ++ ⟨#[32, 110, 117, 108, 108]⟩) := HB.out
    clear HB HE0
    go_enter Tryz.func117, Tryz.ntmps117
    go_wp2_with fail
    rw [← HW0.out]
    refine wp_region_quiet_below (by kernel_rfl) (by kernel_rfl) ?_
    quiet_step (fail)
    quiet_step (fail)
    quiet_step ((rw [if_neg (by omega)]; exact ⟨rfl, rfl⟩))
    quiet_step (fail)
    quiet_step (fail)
    quiet_step ((go_at_call 144; exact c1 _ _))
    quiet_step ((rw [if_neg (by omega)]; exact ⟨rfl, rfl⟩))
    quiet_step (fail)
    refine wpQuiet_nil ?_
    rintro w1 ⟨p, rfl⟩
    have HE : Hid (Tch (fun _ => False) w (grow (redrawn w0 p.d) p.os)) := HT0.out.trans' (Tch.regrown w0 p.d p.os)
    have m2 := k2 p.d p.os
    obtain ⟨W1, hW1⟩ : ∃ W1, W1 = grow (redrawn w0 p.d) p.os := ⟨_, rfl⟩
    rw [← hW1] at HE m2 ⊢
    clear hW1 k0 k1 k2 c1 g0 g1 g2
    go_wp2_with fail
    go_ret
    exact ⟨by rw [HC.out]; rfl, HE.out⟩
theorem printTable6 (t : Tbl) (ao : Option Addr) (c : Nat) (w : World) (hp : HP w) (h : SL w ao (ccl t.cols)) (hr : RT t) : Calls Tryz.prog 91 #[tA t.id t.ver t.nm (.slice ao t.cols.length c) t.key] w fun x w' => x = .returned (.string (tabB t)) ∧ Tch (fun _ => False) w w' := by
  have i1 := hr.id
  have i2 := hr.ver
  have i3 := nm_size hr.nm
  have i4 := hr.len
  have i5 := hr.key
  obtain ⟨n, hn⟩ : ∃ n, n = t.cols.length := ⟨_, rfl⟩
  rw [← hn] at i4 i5 ⊢
  have HN : Hid (n = t.cols.length) := hn
  have HRT : Hid (RT t) := hr
  obtain ⟨w0, hw0⟩ : ∃ w0, w0 = w.alloc (.cells #[.int .i64 t.id, .int .i64 t.ver, .string t.nm, .slice ao n c, .int .i64 t.key] 29) := ⟨_, rfl⟩
  have T0 : Tch (fun _ => False) w w0 := by rw [hw0]; exact Tch.alloc _ _ _
  have z0 : w0.heap.size = w.heap.size + 1 := by rw [hw0, World.size_alloc]
  have hmk := make_str n w0 (by omega)
  obtain ⟨w1, hw1⟩ : ∃ w1, w1 = w0.alloc (.cells (madeCells #[.string ⟨#[]⟩] (n * 1)) 9) := ⟨_, rfl⟩
  rw [← hw1] at hmk
  have T1 : Tch (fun _ => False) w0 w1 := by rw [hw1]; exact Tch.alloc _ _ _
  have F0 : SO w1 w0.heap.size n [] := ⟨_, by rw [hw1]; exact heap_new w0 _, by rw [size_madeCells]; omega, fun j hj => by simp at hj⟩
  rw [z0] at hmk F0
  have HB : Hid (∀ W, Tch (fun i => i = w.heap.size + 1) w1 W → (W.cell? ⟨w.heap.size, 0, none⟩ = some (.int .i64 t.id) ∧ W.cell? ⟨w.heap.size, 1, none⟩ = some (.int .i64 t.ver) ∧ W.cell? ⟨w.heap.size, 2, none⟩ = some (.string t.nm) ∧ W.cell? ⟨w.heap.size, 3, none⟩ = some (.slice ao n c) ∧ W.cell? ⟨w.heap.size, 4, none⟩ = some (.int .i64 t.key)) ∧ Tch (fun _ => False) w W) := fun W tw => by
    have t2 : Tch (fun _ => False) w0 W := (T1.mono (fun _ _ h => h.elim)).trans tw (fun i hi h => by omega)
    refine ⟨?_, T0.trans' t2⟩
    rw [hw0] at t2; exact box5 t2
  have HSL : Hid (∀ W, Tch (fun _ => False) w W → SL W ao (ccl t.cols)) := fun W tw => h.no tw
  have HD1 : Hid (∀ W, Tch (fun _ => False) w W → Calls Tryz.prog 88 #[.int .i64 t.id] W fun x w' => x = .returned (.string (itoB t.id)) ∧ Tch (fun _ => False) W w') := fun W tw => digits6 t.id (by omega) W (hp.no tw)
  have HD2 : Hid (∀ W, Tch (fun _ => False) w W → Calls Tryz.prog 88 #[.int .i64 t.ver] W fun x w' => x = .returned (.string (itoB t.ver)) ∧ Tch (fun _ => False) W w') := fun W tw => digits6 t.ver (by omega) W (hp.no tw)
  have hcs : ∀ x ∈ t.cols.map colB, x.size ≤ 30 := fun x hx => by
    obtain ⟨c, hc, rfl⟩ := List.mem_map.1 hx
    exact colB_size (nm_size (hr.cols c hc).1)
  have HIB : Hid (∀ W, SO W (w.heap.size + 1) n (t.cols.map colB) → Calls Tryz.prog 116 #[.slice (some ⟨w.heap.size + 1, 0, none⟩) n n] W fun e w' => e = .returned (.string (brk (t.cols.map colB))) ∧ Tch (fun _ => False) W w') := fun W h => by
    obtain ⟨cur, h1, h2, h3⟩ := h
    have := inBr (w.heap.size + 1) n (t.cols.map colB) W (fun j x hx => by
      rw [Nat.zero_add, blk_cell h1]
      obtain ⟨hlt, e⟩ := List.getElem?_eq_some_iff.1 hx
      rw [h3 j hlt, e]) (blk_lt h1) (by simp; omega) (by simp; omega) (by have := joinC_len _ 30 hcs; rw [List.length_map, ← hn] at this; omega)
    rw [List.length_map, ← hn] at this
    exact this
  obtain ⟨BR, hBR⟩ : ∃ BR, BR = brk (t.cols.map colB) := ⟨_, rfl⟩
  obtain ⟨D1, hD1⟩ : ∃ D1, D1 = itoB t.id := ⟨_, rfl⟩
  obtain ⟨D2, hD2⟩ : ∃ D2, D2 = itoB t.ver := ⟨_, rfl⟩
  have hkl : t.key.toNat < t.cols.length := by omega
  obtain ⟨KN, hKN⟩ : ∃ KN, KN = t.cols[t.key.toNat].nm := ⟨_, rfl⟩
  have HTB : Hid (tabB t = t.nm ++ ⟨#[32]⟩ ++ D1 ++ ⟨#[46]⟩ ++ D2 ++ ⟨#[32]⟩ ++ BR ++ ⟨#[32, 107, 101, 121, 32]⟩ ++ KN) := by
    show _ = _
    rw [hBR, hD1, hD2, hKN]
    unfold tabB
    rw [List.getD_eq_getElem?_getD, List.getElem?_eq_getElem hkl]
    rfl
  have s1 : D1.size ≤ 22 := by rw [hD1]; exact ito_size _ (by omega)
  have s2 : D2.size ≤ 22 := by rw [hD2]; exact ito_size _ (by omega)
  have s3 : BR.size ≤ 300 := by
    rw [hBR]
    have := brk_size _ 30 hcs
    rw [List.length_map, ← hn] at this
    omega
  have s4 : KN.size ≤ 16 := by rw [hKN]; exact nm_size (hr.cols _ (List.getElem_mem _)).1
  rw [← hBR] at HIB
  rw [← hD1] at HD1
  rw [← hD2] at HD2
  have HKC : Hid (∀ W, Tch (fun _ => False) w W → ∃ g o, ao = some ⟨g, o, none⟩ ∧ W.cell? ⟨g, o + t.key.toNat * 3, none⟩ = some (.string KN)) := fun W tw => by
    obtain ⟨g, o, e, ha⟩ := (h.no tw).col hkl
    exact ⟨g, o, e, by rw [hKN]; exact (ha.col _ hkl).1⟩
  obtain ⟨TT, hTT⟩ : ∃ TT, TT = tabB t := ⟨_, rfl⟩
  rw [← hTT] at HTB ⊢
  have HW0 : Hid (w0 = w.alloc (.cells #[.int .i64 t.id, .int .i64 t.ver, .string t.nm, .slice ao n c, .int .i64 t.key] 29)) := hw0
  rw [hw0] at hmk
  clear hr h hp i1 i2 hw0 hw1 T0 T1 z0 hcs hBR hD1 hD2 hKN hTT hn
  obtain ⟨⟨b0, b1, b2, b3, b4⟩, -⟩ := HB.out w1 (Tch.refl _ _)
  go_enter Tryz.func91, Tryz.ntmps91
  go_wp2_with fail
  clear hmk
  go_loopw [13] (fun i wr => ∃ (k : Nat), i = .int .i64 k ∧ k ≤ n ∧ SO wr (w.heap.size + 1) n ((t.cols.take k).map colB) ∧ Hid (Tch (fun i => i = w.heap.size + 1) w1 wr)) (fun i _ => n - (intOf i).toNat)
  case atStart => exact ⟨0, rfl, by omega, by simpa using F0, Tch.refl _ _⟩
  case round =>
    obtain ⟨k, rfl, hk, hO, HT⟩ := hrel
    clear F0 b0 b1 b2 b3 b4
    obtain ⟨⟨b0, b1, b2, b3, b4⟩, hTw⟩ := HB.out wr HT.out
    have hlen : ((t.cols.take k).map colB).length = k := by rw [List.length_map, List.length_take]; have := HN.out; omega
    have hRl : w.heap.size + 1 < wr.heap.size := by obtain ⟨cur, h1, _⟩ := hO; exact blk_lt h1
    by_cases hlt : (k : Int) < n
    · have hkc : k < t.cols.length := by have := HN.out; omega
      obtain ⟨g, o, rfl, ha⟩ := (HSL.out wr hTw).col hkc
      obtain ⟨a0, a1, a2⟩ := ha.col k hkc
      obtain ⟨x, hx⟩ : ∃ x, x = t.cols[k] := ⟨_, rfl⟩
      rw [← hx] at a0 a1 a2
      have HS : Hid ((t.cols.take (k + 1)).map colB = (t.cols.take k).map colB ++ [colB x]) := by
        show _ = _
        rw [(List.take_append_getElem hkc).symm, List.map_append, hx]; rfl
      have q := printColumn6 x (nm_size (HRT.out.cols x (by rw [hx]; exact List.getElem_mem hkc)).1) (wr.alloc (.cells #[.string x.nm, .int .i64 x.k, .bool x.nl] 43))
      clear ha hx hTw b0 b1 b2 b4
      go_wp2_with fail
      refine q.mono ?_
      rintro y w2 ⟨rfl, t2⟩
      have T2 : Tch (fun _ => False) wr w2 := (Tch.alloc _ _ _).trans' t2
      have hO1 := hO.tch T2 (fun h => h)
      obtain ⟨⟨y, hy⟩, hfz⟩ := hO1.room (by omega)
      have hO2 := hO1.step (by omega) (colB x)
      rw [hlen] at hy hfz hO2
      rw [← HS.out] at hO2
      have HT2 : Hid (Tch (fun i => i = w.heap.size + 1) w1 (w2.setCell ⟨w.heap.size + 1, k, none⟩ (.string (colB x)))) := (HT.out.trans' (T2.mono (fun _ _ h => h.elim))).setCellR _ _ rfl
      clear q a0 a1 a2 t2 T2 hO hO1 b3
      go_wp2_with fail
      go_roundw
      case rel => exact ⟨k + 1, by go_num, by omega, hO2, HT2⟩
      case measure => simp [intOf]; omega
    · have HTk : Hid (t.cols.take k = t.cols) := by
        show _ = _
        rw [List.take_of_length_le]; have := HN.out; omega
      rw [HTk.out] at hO
      obtain ⟨g, o, rfl, ka⟩ := HKC.out wr hTw
      have hkey : 0 ≤ t.key := i5.1
      obtain ⟨kn, hkn⟩ : ∃ kn : Nat, t.key = (kn : Int) := ⟨t.key.toNat, by omega⟩
      have hkt : t.key.toNat = kn := by omega
      rw [hkt] at ka
      rw [hkn] at b4
      have hki : (kn : Int) < n := by omega
      have k0 := cell_regrown b0
      have k1 := cell_regrown b1
      have k2 := cell_regrown b2
      have k3 := cell_regrown b3
      have k4 := cell_regrown b4
      have k5 := cell_regrown ka
      have HTW : Hid (Tch (fun _ => False) w wr) := hTw
      have c1 := fun (d : Nat) (os : Array Obj) => regrown_calls (w := wr) (fun W tw => HD1.out W (HTW.out.trans' tw)) d os
      have c2 := fun (d : Nat) (os : Array Obj) => regrown_calls (w := wr) (fun W tw => HD2.out W (HTW.out.trans' tw)) d os
      have c3 := fun (d : Nat) (os : Array Obj) => regrown_calls (w := wr) (fun W tw => HIB.out W (hO.tch tw (fun h => h))) d os
      clear hO hTw hkt hkn
      go_wp2_with fail
      refine wp_region_quiet_below (by kernel_rfl) (by kernel_rfl) ?_
      quiet_step (fail)
      quiet_step (fail)
      quiet_step ((rw [if_neg (by omega)]; exact ⟨rfl, rfl⟩))
      quiet_step (fail)
      quiet_step (fail)
      quiet_step ((go_at_call 88; exact c1 _ _))
      quiet_step ((rw [if_neg (by omega)]; exact ⟨rfl, rfl⟩))
      quiet_step ((rw [if_neg (by omega)]; exact ⟨rfl, rfl⟩))
      quiet_step (fail)
      quiet_step (fail)
      quiet_step ((go_at_call 88; exact c2 _ _))
      quiet_step ((rw [if_neg (by omega)]; exact ⟨rfl, rfl⟩))
      quiet_step ((rw [if_neg (by omega)]; exact ⟨rfl, rfl⟩))
      quiet_step (fail)
      quiet_step ((go_at_call 116; exact c3 _ _))
      quiet_step ((rw [if_neg (by omega)]; exact ⟨rfl, rfl⟩))
      quiet_step ((rw [if_neg (by omega)]; exact ⟨rfl, rfl⟩))
      quiet_step (fail)
      quiet_step (fail)
      quiet_step (fail)
      quiet_step (fail)
      quiet_step (fail)
      quiet_step (fail)
      quiet_step (fail)
      quiet_step ((rw [if_neg (by omega)]; exact ⟨rfl, rfl⟩))
      quiet_step (fail)
      refine wpQuiet_nil ?_
      rintro w4 ⟨p, rfl⟩
      have HE : Hid (Tch (fun _ => False) w (grow (redrawn wr p.d) p.os)) := HTW.out.trans' (Tch.regrown wr p.d p.os)
      obtain ⟨W4, hW4⟩ : ∃ W4, W4 = grow (redrawn wr p.d) p.os := ⟨_, rfl⟩
      rw [← hW4] at HE ⊢
      clear hW4 k0 k1 k2 k3 k4 k5 b0 b1 b2 b3 b4 ka c1 c2 c3
      go_wp2_with fail
      go_ret
      exact ⟨by rw [HTB.out]; rfl, HE.out⟩
end Go.Proofs.YtjiblajnfnmjnaaGreatDoor.C
