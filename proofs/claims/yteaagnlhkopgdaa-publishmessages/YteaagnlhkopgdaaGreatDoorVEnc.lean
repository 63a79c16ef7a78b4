import Derived.Lib.Bytealg
import Derived.Lib.Small
import Derived.Test.YteaagnlhkopgdaaGreatDoorPlain
import Derived.Test.YteaagnlhkopgdaaGreatDoorPlainAgain
set_option maxHeartbeats 2000000
set_option maxRecDepth 100000
namespace Go.Proofs.YteaagnlhkopgdaaGreatDoor
open Go.Lib
structure Val where
  k : Int
  n : Int
  s : ByteArray
def frm (v : Val) : Prop := (v.k = 0 ∧ v.n = 0 ∧ v.s.size = 0) ∨ (v.k = 1 ∧ v.s.size = 0) ∨ (v.k = 2 ∧ v.n = 0) ∨ (v.k = 3 ∧ v.s.size = 0 ∧ (v.n = 0 ∨ v.n = 1))
instance (v : Val) : Decidable (frm v) := by unfold frm; infer_instance
def wrg (v : Val) : Int := if frm v then (if v.s.size ≤ 200 then 0 else 42) else 43
def Val.i64 (v : Val) : Prop := (-9223372036854775808 ≤ v.k ∧ v.k ≤ 9223372036854775807) ∧ (-9223372036854775808 ≤ v.n ∧ v.n ≤ 9223372036854775807)
def beN : Nat → Nat → List UInt8
  | 0, _ => []
  | k + 1, u => UInt8.ofNat (u / 256 ^ k % 256) :: beN k u
def be8 (u : Nat) : List UInt8 := beN 8 u
def key (v : Val) : List UInt8 :=
  if v.k = 0 then [1] else if v.k = 3 then [2, UInt8.ofNat v.n.toNat] else if v.k = 1 then 3 :: be8 (v.n + 9223372036854775808).toNat else 4 :: v.s.data.toList
end Go.Proofs.YteaagnlhkopgdaaGreatDoor
namespace Go.Proofs.YteaagnlhkopgdaaGreatDoor
open Go.RowKit
abbrev vA (k n : Int) (s : ByteArray) : Value := .agg #[.int .i64 k, .int .i64 n, .string s]
theorem emp (s : ByteArray) : s.toList.isEmpty = decide (s.size = 0) := by
  by_cases h : s.size = 0
  · rw [empty_of_size h]; simp [h]
  · rw [nonempty_of_size (by omega)]; simp [h]
theorem emp' (s : ByteArray) : s.toList = [] ↔ s.size = 0 := by
  rw [← List.isEmpty_iff, emp]; simp
theorem vret_bool {a b : Bool} (h : a = b) : Ending.returned (.bool a) = .returned (.bool b) := by rw [h]
theorem box_cells (w : World) (a b c : Value) (t : TypeId) : (w.alloc (.cells #[a, b, c] t)).cell? ⟨w.heap.size, 0, none⟩ = some a ∧ (w.alloc (.cells #[a, b, c] t)).cell? ⟨w.heap.size, 1, none⟩ = some b ∧ (w.alloc (.cells #[a, b, c] t)).cell? ⟨w.heap.size, 2, none⟩ = some c := by simp
theorem box_tch {w w1 : World} {a b c : Value} {t : TypeId} (h : Tch (fun _ => False) (w.alloc (.cells #[a, b, c] t)) w1) : w1.cell? ⟨w.heap.size, 0, none⟩ = some a ∧ w1.cell? ⟨w.heap.size, 1, none⟩ = some b ∧ w1.cell? ⟨w.heap.size, 2, none⟩ = some c := by
  obtain ⟨h0, h1, h2⟩ := box_cells w a b c t
  exact ⟨(h.cell (p := ⟨_, _, none⟩) (by simp) (fun h => h)).trans h0, (h.cell (p := ⟨_, _, none⟩) (by simp) (fun h => h)).trans h1, (h.cell (p := ⟨_, _, none⟩) (by simp) (fun h => h)).trans h2⟩
theorem hasForm_any (k n : Int) (s : ByteArray) (w : World) :
    Calls Tryz.prog 153 #[vA k n s] w fun x w' => x = .returned (.bool (decide (frm ⟨k, n, s⟩))) ∧ Tch (fun _ => False) w w' := by
  go_enter Tryz.func153, Tryz.ntmps153
  go_wp2
  all_goals (go_ret; refine ⟨vret_bool ?_, Tch.alloc _ _ _⟩; rw [Bool.eq_iff_iff, decide_eq_true_iff]; unfold frm; simp only [emp] at *; generalize s.size = z at *; simp at *; omega)
theorem form_any (k n : Int) (s : ByteArray) (w : World) :
    Calls Tryz.prog 72 #[vA k n s] w fun x w' => x = .returned (.bool (decide (frm ⟨k, n, s⟩))) ∧ Tch (fun _ => False) w w' := by
  go_enter Tryz.func72, Tryz.ntmps72
  go_wp2
  all_goals (go_ret; refine ⟨vret_bool ?_, Tch.alloc _ _ _⟩; rw [Bool.eq_iff_iff, decide_eq_true_iff]; unfold frm; simp only [emp, emp'] at *; generalize s.size = z at *; simp at *; omega)
theorem wrong_any (k n : Int) (s : ByteArray) (w : World) :
    Calls Tryz.prog 149 #[vA k n s] w fun x w' => x = .returned (.int .i64 (wrg ⟨k, n, s⟩)) ∧ Tch (fun _ => False) w w' := by
  go_enter Tryz.func149, Tryz.ntmps149
  go_wp2_with (go_at_call 153; refine (hasForm_any _ _ _ _).mono ?_; rintro x w1 ⟨rfl, t1⟩; obtain ⟨c0, c1, c2⟩ := box_tch t1)
  all_goals (go_ret; refine ⟨?_, (Tch.alloc _ _ _).trans' t1⟩; congr 2; simp_all [wrg] <;> omega)
theorem rwrong_any (k n : Int) (s : ByteArray) (w : World) :
    Calls Tryz.prog 61 #[vA k n s] w fun x w' => x = .returned (.int .i64 (wrg ⟨k, n, s⟩)) ∧ Tch (fun _ => False) w w' := by
  go_enter Tryz.func61, Tryz.ntmps61
  go_wp2_with (go_at_call 72; refine (form_any _ _ _ _).mono ?_; rintro x w1 ⟨rfl, t1⟩; obtain ⟨c0, c1, c2⟩ := box_tch t1)
  all_goals (go_ret; refine ⟨?_, (Tch.alloc _ _ _).trans' t1⟩; congr 2; simp_all [wrg] <;> omega)
end Go.Proofs.YteaagnlhkopgdaaGreatDoor
namespace Go.Proofs.YteaagnlhkopgdaaGreatDoor
open Go.RowKit
def encV (v : Val) : List UInt8 := if v.k = 0 then [0] else if v.k = 1 then 1 :: dg (fol v.n) else if v.k = 2 then 2 :: textL v.s else [UInt8.ofNat (3 + v.n).toNat]
theorem heap_new (w : World) (o : Obj) : (w.alloc o).heap[w.heap.size]? = some o := by show (w.heap.push o)[w.heap.size]? = _; simp
theorem wbyte1 (b : Nat) (bs : List UInt8) (n : Int) (z : Nat) (w : World) (h : WS w b bs 0) (hz : w.heap.size = z) (h0 : 0 ≤ n) (h1 : n ≤ 255) (hlen : bs.length + 1 ≤ 140737488355328) :
    Calls Tryz.prog 31 #[.pointer (some ⟨b, 0, none⟩), .slice (some ⟨z, 0, none⟩) 1 1] (w.alloc (.cells #[.int .i64 n] 3)) fun x w' => x = .returned (.tuple #[]) ∧ WS w' b (bs ++ [UInt8.ofNat n.toNat]) 0 ∧ Tch (WT b w) w w' := by
  subst hz
  have hb := h.lt
  have := wbyte_any b bs 0 [n] w.heap.size 1 _ (h.tch (Tch.alloc (fun _ => False) w (.cells #[.int .i64 n] 3)) (fun _ _ _ h => h)) (by simpa using hlen) (by omega) ⟨_, _, heap_new w _⟩ (fun j hj => by
    obtain rfl : j = 0 := by simp at hj; omega
    simp)
  refine this.mono ?_
  rintro x w' ⟨hx, h2, h3⟩
  have e : upd bs 0 (bytesL [n]) (bytesC [n]) = (bs ++ [UInt8.ofNat n.toNat], 0) := by simp [upd, bytesL, bytesC, byteOk, h0, h1]
  rw [e] at h2
  exact ⟨hx, h2, wt_alloc h3⟩
theorem wt_new {b : Nat} {w w0 w1 : World} (t : Tch (fun _ => False) w w0) (h : Tch (WT b w0) w0 w1) : Tch (WT b w) w w1 := by
  refine (t.mono (fun _ _ h => h.elim)).trans h (fun i hi ht => ?_)
  rcases ht with ht | ⟨ht, cur, fr, hh⟩
  · exact Or.inl ht
  · rw [t.block i hi (fun h => h)] at hh
    exact Or.inr ⟨ht, cur, fr, hh⟩
theorem box_wt {b : Nat} {w w1 : World} {a c d : Value} (hb : b < w.heap.size) (t : Tch (WT b (w.alloc (.cells #[a, c, d] 52))) (w.alloc (.cells #[a, c, d] 52)) w1) : w1.cell? ⟨w.heap.size, 0, none⟩ = some a ∧ w1.cell? ⟨w.heap.size, 1, none⟩ = some c ∧ w1.cell? ⟨w.heap.size, 2, none⟩ = some d := by
  have hn : ¬ WT b (w.alloc (.cells #[a, c, d] 52)) w.heap.size := by
    rintro (h | ⟨_, cur, fr, h⟩)
    · omega
    · rw [heap_new] at h; simp at h
  obtain ⟨h0, h1, h2⟩ := box_cells w a c d 52
  exact ⟨(t.cell (p := ⟨_, _, none⟩) (by simp) hn).trans h0, (t.cell (p := ⟨_, _, none⟩) (by simp) hn).trans h1, (t.cell (p := ⟨_, _, none⟩) (by simp) hn).trans h2⟩
theorem write_any (b : Nat) (bs : List UInt8) (k n : Int) (s : ByteArray) (w : World) (h : WS w b bs 0) (hf : frm ⟨k, n, s⟩) (hs : s.size ≤ 200) (h1 : -9223372036854775808 ≤ n) (h2 : n ≤ 9223372036854775807) (hlen : bs.length + 300 ≤ 140737488355328) :
    Calls Tryz.prog 150 #[.pointer (some ⟨b, 0, none⟩), vA k n s] w fun x w' => x = .returned (.tuple #[]) ∧ WS w' b (bs ++ encV ⟨k, n, s⟩) 0 ∧ Tch (WT b w) w w' := by
  have hb := h.lt
  have T0 : Tch (fun _ => False) w (w.alloc (.cells #[.int .i64 k, .int .i64 n, .string s] 52)) := Tch.alloc _ _ _
  have h0 := h.tch T0 (fun _ _ _ h => h)
  have hz : (w.alloc (.cells #[.int .i64 k, .int .i64 n, .string s] 52)).heap.size = w.heap.size + 1 := by simp
  unfold frm at hf
  simp only at hf
  rcases hf with ⟨rfl, rfl, -⟩ | ⟨rfl, -⟩ | ⟨rfl, rfl⟩ | ⟨rfl, -, hn⟩
  · go_enter Tryz.func150, Tryz.ntmps150
    go_wp2_with fail
    refine (wbyte1 b bs 0 (w.heap.size + 1) _ h0 hz (by omega) (by omega) (by omega)).mono ?_
    rintro x w1 ⟨rfl, g1, t1⟩
    go_wp2_with fail
    go_end0
    exact ⟨rfl, g1, wt_new T0 t1⟩
  · go_enter Tryz.func150, Tryz.ntmps150
    go_wp2_with fail
    refine (wbyte1 b bs 1 (w.heap.size + 1) _ h0 hz (by omega) (by omega) (by omega)).mono ?_
    rintro x w1 ⟨rfl, g1, t1⟩
    obtain ⟨c0, c1, c2⟩ := box_wt hb t1
    go_wp2_with fail
    refine (wint_any b _ 0 n _ g1 h1 h2 (by simp; omega)).mono ?_
    rintro x w2 ⟨rfl, g2, t2⟩
    go_wp2_with fail
    go_end0
    refine ⟨rfl, ?_, wt_new T0 (wt_trans t1 t2)⟩
    simpa [laidOn, encV] using g2
  · go_enter Tryz.func150, Tryz.ntmps150
    go_wp2_with fail
    refine (wbyte1 b bs 2 (w.heap.size + 1) _ h0 hz (by omega) (by omega) (by omega)).mono ?_
    rintro x w1 ⟨rfl, g1, t1⟩
    obtain ⟨c0, c1, c2⟩ := box_wt hb t1
    go_wp2_with fail
    refine (wtext_any b _ 0 s 200 _ g1 (by simp; omega)).mono ?_
    rintro x w2 ⟨rfl, g2, t2⟩
    have e : textC s 200 = 0 := by unfold textC; rw [if_neg (by omega), if_neg (by omega)]
    go_wp2_with fail
    go_end0
    refine ⟨rfl, ?_, wt_new T0 (wt_trans t1 t2)⟩
    rw [e] at g2
    simpa [upd, encV] using g2
  · have hn3 : 0 ≤ 3 + n ∧ 3 + n ≤ 255 := by omega
    go_enter Tryz.func150, Tryz.ntmps150
    go_wp2_with fail
    refine (wbyte1 b bs (3 + n) (w.heap.size + 1) _ h0 hz (by omega) (by omega) (by omega)).mono ?_
    rintro x w1 ⟨rfl, g1, t1⟩
    go_wp2_with fail
    go_end0
    exact ⟨rfl, g1, wt_new T0 t1⟩
def encGo : List Val → List UInt8 → List UInt8 × Int
  | [], bs => (bs, 0)
  | v :: r, bs => if wrg v = 0 then encGo r (bs ++ encV v) else ([], wrg v)
def encR (vs : List Val) : List UInt8 × Int := if 8 < vs.length then ([], 44) else encGo vs [UInt8.ofNat vs.length]
def RowAt (w : World) (g o : Nat) (vs : List Val) : Prop := ∀ j (hj : j < vs.length), w.cell? ⟨g, o + j * 3, none⟩ = some (.int .i64 vs[j].k) ∧ w.cell? ⟨g, o + j * 3 + 1, none⟩ = some (.int .i64 vs[j].n) ∧ w.cell? ⟨g, o + j * 3 + 2, none⟩ = some (.string vs[j].s)
theorem RowAt.tch {S : Nat → Prop} {w w' : World} {g o : Nat} {vs : List Val} (h : RowAt w g o vs) (t : Tch S w w') (hg : vs ≠ [] → ¬ S g) : RowAt w' g o vs := by
  intro j hj
  have hS := hg (by intro e; subst e; simp at hj)
  obtain ⟨h0, h1, h2⟩ := h j hj
  have hl : g < w.heap.size := cell_lt h0
  exact ⟨(t.cell (p := ⟨g, _, none⟩) hl hS).trans h0, (t.cell (p := ⟨g, _, none⟩) hl hS).trans h1, (t.cell (p := ⟨g, _, none⟩) hl hS).trans h2⟩
theorem RowAt.lt {w : World} {g o : Nat} {vs : List Val} (h : RowAt w g o vs) (hv : vs ≠ []) : g < w.heap.size := by
  rcases vs with _ | ⟨v, r⟩
  · exact absurd rfl hv
  · exact cell_lt (h 0 (by simp)).1
theorem ge_mono {B b : Nat} {w w' : World} (t : Tch (WT b w) w w') (h : B ≤ b) : Tch (fun i => B ≤ i) w w' := (wt_le t).mono (fun i _ hi => by omega)
theorem eq_mono {B b : Nat} {w w' : World} (t : Tch (fun i => i = b) w w') (h : B ≤ b) : Tch (fun i => B ≤ i) w w' := t.mono (fun i _ hi => by omega)
theorem no_mono {S : Nat → Prop} {w w' : World} (t : Tch (fun _ => False) w w') : Tch S w w' := t.mono (fun _ _ h => h.elim)
theorem ge_new {w w' : World} (t : Tch (fun i => w.heap.size ≤ i) w w') : Tch (fun _ => False) w w' := t.mono (fun i hi h => by omega)
theorem fol_dg_len (n : Nat) : (dg n).length ≤ 10 := dgf_len 10 n
theorem encV_len {v : Val} (hs : v.s.size ≤ 200) : (encV v).length ≤ 211 := by
  unfold encV
  split
  · simp
  · split
    · have := fol_dg_len (fol v.n); simp; omega
    · split
      · have := fol_dg_len v.s.size
        have h2 : v.s.data.toList.length = v.s.size := by simp
        simp only [textL, List.length_cons, List.length_append, h2]; omega
      · simp
theorem wrg_zero {v : Val} (h : wrg v = 0) : frm v ∧ v.s.size ≤ 200 := by
  unfold wrg at h
  by_cases h1 : frm v
  · rw [if_pos h1] at h
    by_cases h2 : v.s.size ≤ 200
    · exact ⟨h1, h2⟩
    · rw [if_neg h2] at h; simp at h
  · rw [if_neg h1] at h; simp at h
theorem encode_any (vs : List Val) (ao : Option Addr) (g o c : Nat) (w : World) (hg : HE w) (hao : vs ≠ [] → ao = some ⟨g, o, none⟩) (hrow : RowAt w g o vs) (hi : ∀ v ∈ vs, v.i64) (hlen : vs.length ≤ 9223372036854775807) :
    Calls Tryz.prog 147 #[.slice ao vs.length c] w fun x w' => x = .returned (.tuple #[.string ⟨(encR vs).1.toArray⟩, .int .i64 (encR vs).2]) ∧ Tch (fun _ => False) w w' := by
  by_cases h8 : 8 < vs.length
  · have h8' : (8 : Int) < vs.length := by omega
    have e : encR vs = ([], 44) := by unfold encR; rw [if_pos h8]
    rw [e]
    clear hao hrow hi e
    go_enter Tryz.func147, Tryz.ntmps147
    go_wp2
    go_ret2
    exact ⟨rfl, Tch.refl _ _⟩
  · have h8' : ¬ (8 : Int) < vs.length := by omega
    have HR : Hid (encR vs = encGo vs [UInt8.ofNat vs.length]) := by show _ = _; unfold encR; rw [if_neg h8]
    have hel : 0 < w.heap.size := cell_lt hg
    have HG : Hid (∀ W, Tch (fun i => w.heap.size ≤ i) w W → HE W ∧ RowAt W g o vs) := fun W t => ⟨hg.tch t (by omega), hrow.tch t (fun hv => by have := hrow.lt hv; omega)⟩
    have HI : Hid (∀ v ∈ vs, v.i64) := hi
    have HAO : Hid (vs ≠ [] → ao = some ⟨g, o, none⟩) := hao
    clear hg hrow hi hao hel
    go_enter Tryz.func147, Tryz.ntmps147
    go_wp2_with (go_at_call 30; refine (newWriter_any _).mono ?_; rintro x w1 ⟨rfl, h1, t1, z1⟩; have T1 := no_mono (S := fun i => w.heap.size ≤ i) t1)
    refine (wbyte1 _ [] vs.length _ _ h1 z1 (by omega) (by omega) (by simp)).mono ?_
    rintro x w2 ⟨rfl, h2, t2⟩
    have T2 := T1.trans' (ge_mono t2 (Nat.le_refl _))
    clear T1 t1 t2 h1 z1
    simp only [List.nil_append, Int.toNat_natCast] at h2
    go_wp2_with fail
    go_loopw [19] (fun i wr => ∃ (k : Nat) (bs : List UInt8), i = .int .i64 k ∧ k ≤ vs.length ∧ Hid (encR vs = encGo (vs.drop k) bs) ∧ bs.length ≤ 1 + 211 * k ∧ WS wr w.heap.size bs 0 ∧ Tch (fun i => w.heap.size ≤ i) w wr) (fun i _ => vs.length - (intOf i).toNat)
    case atStart => exact ⟨0, _, rfl, Nat.zero_le _, by show _ = _; rw [HR.out]; rfl, by simp, h2, T2⟩
    case round =>
      obtain ⟨k, bs, rfl, hk, HA, hbl, hW, hT⟩ := hrel
      have hlt := hW.lt
      clear h2 T2
      by_cases hkl : k < vs.length
      · have hkl' : (k : Int) < vs.length := by omega
        obtain rfl := HAO.out (by intro e; rw [e] at hkl; simp at hkl)
        obtain ⟨hcE, hcR⟩ := HG.out wr hT
        obtain ⟨c0, c1, c2⟩ := hcR k hkl
        obtain ⟨v, hv⟩ : ∃ v, v = vs[k] := ⟨_, rfl⟩
        rw [← hv] at c0 c1 c2
        have HV : Hid (encGo (vs.drop k) bs = if wrg v = 0 then encGo (vs.drop (k + 1)) (bs ++ encV v) else ([], wrg v)) := by
          show _ = _
          rw [List.drop_eq_getElem_cons hkl, ← hv]; rfl
        have hvi := HI.out v (by rw [hv]; exact List.getElem_mem hkl)
        obtain ⟨vk, vn, vs'⟩ := v
        simp only at c0 c1 c2
        unfold Val.i64 at hvi
        simp only at hvi
        clear hv hcR
        obtain ⟨⟨-, -⟩, hv1, hv2⟩ := hvi
        go_wp2_with fail
        refine (wrong_any vk vn vs' _).mono ?_
        rintro x w3 ⟨rfl, t3⟩
        obtain ⟨d0, d1, d2⟩ := box_tch t3
        have T3 : Tch (fun _ => False) wr w3 := (Tch.alloc _ _ _).trans' t3
        clear c0 c1 c2 hcE
        by_cases hw : wrg ⟨vk, vn, vs'⟩ = 0
        · obtain ⟨hf, hs⟩ := wrg_zero hw
          rw [hw]
          go_wp2_with fail
          refine (write_any _ bs vk vn vs' _ (hW.tch T3 (fun _ _ _ h => h)) hf hs hv1 hv2 (by omega)).mono ?_
          rintro x w4 ⟨rfl, h4, t4⟩
          have hel := encV_len (v := ⟨vk, vn, vs'⟩) hs
          have HA4 : Hid (encR vs = encGo (vs.drop (k + 1)) (bs ++ encV ⟨vk, vn, vs'⟩)) := by
            show _ = _
            rw [HA.out, HV.out, if_pos hw]
          have T4 := (hT.trans' (no_mono T3)).trans' (ge_mono t4 (Nat.le_refl _))
          clear hT T3 t4 hW hf
          go_wp2_with fail
          go_roundw
          case rel => exact ⟨k + 1, _, by go_num, by omega, HA4, by rw [List.length_append]; omega, h4, T4⟩
          case measure => simp [intOf]; omega
        · have HE2 : Hid (encR vs = ([], wrg ⟨vk, vn, vs'⟩)) := by
            show _ = _
            rw [HA.out, HV.out, if_neg hw]
          have T4 := ge_new (hT.trans' (no_mono T3))
          clear hT T3 HV HA
          have hw' : (wrg ⟨vk, vn, vs'⟩ != 0) = true := by simpa using hw
          obtain ⟨e, he⟩ : ∃ e, e = wrg ⟨vk, vn, vs'⟩ := ⟨_, rfl⟩
          rw [← he] at hw' HE2 ⊢
          clear he hw
          go_wp2_with fail
          go_ret2
          rw [HE2.out]
          exact ⟨rfl, T4⟩
      · have hkl' : ¬ (k : Int) < vs.length := by omega
        have HE2 : Hid (encR vs = (bs, 0)) := by
          show _ = _
          rw [HA.out, List.drop_eq_nil_of_le (by omega)]; rfl
        have hcE := (HG.out wr hT).1
        go_wp2_with fail
        refine (wdone_any _ bs 0 _ hW hcE).mono ?_
        rintro x w3 ⟨rfl, t3⟩
        have T4 := ge_new (hT.trans' (no_mono t3))
        go_wp2_with fail
        go_ret2
        rw [HE2.out]
        exact ⟨rfl, T4⟩
end Go.Proofs.YteaagnlhkopgdaaGreatDoor
