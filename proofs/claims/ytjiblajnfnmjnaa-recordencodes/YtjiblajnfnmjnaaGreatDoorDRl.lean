import Derived.Test.YtjiblajnfnmjnaaGreatDoorDP1
import Derived.Test.YtjiblajnfnmjnaaGreatDoorCRight2
import Derived.Test.YtjiblajnfnmjnaaGreatDoorDRr
import Derived.BigQuiet
set_option maxHeartbeats 16000000
set_option maxRecDepth 100000
namespace Go.Proofs.YtjiblajnfnmjnaaGreatDoor.C
open Go.RowKit
set_option maxRecDepth 100000
theorem rname6 (s : ByteArray) (w : World) : Calls Tryz.prog 82 #[.string s] w fun x w' => x = .returned (.bool (nmOk s)) ∧ w' = w := by
  by_cases h0 : (s.size : Int) < 1
  · have HR : Hid (nmOk s = false) := nm_no (by omega)
    go_enter Tryz.func82, Tryz.ntmps82
    go_wp2
    go_ret
    exact ⟨by rw [HR.out]; rfl, rfl⟩
  by_cases h1 : 16 < (s.size : Int)
  · have HR : Hid (nmOk s = false) := nm_no (by omega)
    go_enter Tryz.func82, Tryz.ntmps82
    go_wp2
    go_ret
    exact ⟨by rw [HR.out]; rfl, rfl⟩
  have hp : 0 < s.size := by omega
  have hp' : (0 : Int) < s.size := by omega
  have HL0 : Hid (ltr s[0] = true ↔ 97 ≤ (s[0]).toNat ∧ (s[0]).toNat ≤ 122) := by show _ ↔ _; simp [ltr]
  by_cases h2 : ((s[0]).toNat : Int) < 97
  · have HR : Hid (nmOk s = false) := nm_no (fun h => by have := HL0.out.1 (h.2.1 hp); omega)
    clear HL0
    go_enter Tryz.func82, Tryz.ntmps82
    go_wp2
    go_ret
    exact ⟨by rw [HR.out]; rfl, rfl⟩
  by_cases h3 : 122 < ((s[0]).toNat : Int)
  · have HR : Hid (nmOk s = false) := nm_no (fun h => by have := HL0.out.1 (h.2.1 hp); omega)
    clear HL0
    go_enter Tryz.func82, Tryz.ntmps82
    go_wp2
    go_ret
    exact ⟨by rw [HR.out]; rfl, rfl⟩
  have HL : Hid (ltr s[0] = true) := HL0.out.2 (by omega)
  clear HL0
  go_enter Tryz.func82, Tryz.ntmps82
  go_wp2_with fail
  clear h2 h3
  go_loopw [3] (fun i wr => ∃ k : Nat, i = .int .i64 k ∧ k ≤ s.size ∧ wr = w ∧ Hid (∀ j (h : j < s.size), j < k → sgn s[j] = true)) (fun i _ => s.size - (intOf i).toNat)
  case atStart => exact ⟨0, rfl, by omega, rfl, fun _ _ h => by omega⟩
  case round =>
    obtain ⟨k, rfl, hk, rfl, hall⟩ := hrel
    by_cases hlt : k < s.size
    · have hlt' : (k : Int) < s.size := by omega
      have hc := (s[k]).toNat_lt
      have HB : Hid (sgn s[k] = false → nmOk s = false) := fun h => nm_no (fun h' => by have := h'.2.2 k hlt; rw [h] at this; simp at this)
      have HG : Hid (sgn s[k] = true → ∀ j (h : j < s.size), j < k + 1 → sgn s[j] = true) := fun h j hj hjk => by
        rcases Nat.lt_or_ge j k with h1 | h1
        · exact hall.out j hj h1
        · obtain rfl : j = k := by omega
          exact h
      have HD : Hid (sgn s[k] = true ↔ ((97 ≤ (s[k]).toNat ∧ (s[k]).toNat ≤ 122) ∨ (48 ≤ (s[k]).toNat ∧ (s[k]).toNat ≤ 57)) ∨ (s[k]).toNat = 95) := by
        show _ ↔ _
        simp [sgn, ltr, dgt]
      clear hall
      have main : ∀ z : Int, z = (s[k]).toNat → (97 ≤ z ∧ z ≤ 122) ∨ (z < 48) ∨ (48 ≤ z ∧ z ≤ 57) ∨ (57 < z ∧ z < 97 ∧ z = 95) ∨ (57 < z ∧ z < 97 ∧ z ≠ 95) ∨ (122 < z ∧ z ≠ 95 ∧ 57 < z) := fun z hz => by omega
      have hh := main _ rfl
      clear main
      rcases hh with ⟨e1, e2⟩ | e1 | ⟨e1, e2⟩ | ⟨e1, e2, e3⟩ | ⟨e1, e2, e3⟩ | ⟨e1, e2, e3⟩
      · have HE : Hid _ := HG.out (by rw [HD.out]; omega)
        clear HG HB HD
        go_wp2_with fail
        go_roundw
        case rel => exact ⟨k + 1, by go_num, by omega, by first | rfl | trivial, HE⟩
        case measure => simp [intOf]; omega
      · have HE : Hid (nmOk s = false) := HB.out (by rw [← Bool.not_eq_true, HD.out]; omega)
        clear HG HB HD
        go_wp2_with fail
        go_ret
        exact ⟨by rw [HE.out]; rfl, rfl⟩
      · have HE : Hid _ := HG.out (by rw [HD.out]; omega)
        clear HG HB HD
        go_wp2_with fail
        go_roundw
        case rel => exact ⟨k + 1, by go_num, by omega, by first | rfl | trivial, HE⟩
        case measure => simp [intOf]; omega
      · have HE : Hid _ := HG.out (by rw [HD.out]; omega)
        clear HG HB HD
        go_wp2_with fail
        go_roundw
        case rel => exact ⟨k + 1, by go_num, by omega, by first | rfl | trivial, HE⟩
        case measure => simp [intOf]; omega
      · have HE : Hid (nmOk s = false) := HB.out (by rw [← Bool.not_eq_true, HD.out]; omega)
        clear HG HB HD
        go_wp2_with fail
        go_ret
        exact ⟨by rw [HE.out]; rfl, rfl⟩
      · have HE : Hid (nmOk s = false) := HB.out (by rw [← Bool.not_eq_true, HD.out]; omega)
        clear HG HB HD
        go_wp2_with fail
        go_ret
        exact ⟨by rw [HE.out]; rfl, rfl⟩
    · have hlt' : ¬ (k : Int) < s.size := by omega
      have HR : Hid (nmOk s = true) := by
        show _ = _
        rw [nmOk_iff]; exact ⟨by omega, fun _ => HL.out, fun i hi => hall.out i hi (by omega)⟩
      go_wp2
      go_ret
      exact ⟨by rw [HR.out]; rfl, rfl⟩
end Go.Proofs.YtjiblajnfnmjnaaGreatDoor.C
namespace Go.Proofs.YtjiblajnfnmjnaaGreatDoor.C
open Go.RowKit Go Go.Sort
open Classical in
noncomputable def fldB (r : Rc) (c : Nat) : ByteArray := match c with
  | 120 => bB (dgI r.x)
  | 110 => bB (dgI r.x)
  | 112 => bB (dgI r.p)
  | 116 => bB (dgI r.t)
  | 117 => bB (dgI r.t)
  | 111 => bB (rowL r.o)
  | 119 => bB (rowL r.n)
  | 99 => if orOk r.nm r.org then bB (textL r.nm ++ dg r.org.toNat) else ⟨#[]⟩
  | 109 => bB (textL r.nm)
  | 97 => if rightE r.tb = 0 then bB (tabL r.tb) else ⟨#[]⟩
  | 108 => if LDp r.tbs r.t then bB (bytesL [(r.tbs.length : Int)] ++ tabsL r.tbs) else ⟨#[]⟩
  | _ => ⟨#[]⟩
theorem fldB_ok {r : Rc} {c : Nat} (h : okF r c) : fldB r c = bB (fldL r c) := by
  unfold okF at h
  unfold fldB fldL
  split at h
  all_goals first
    | rfl
    | exact h.elim
    | exact if_pos h
    | exact congrArg bB (dgI_pos (by unfold rtN at h; omega))
    | exact congrArg bB (dgI_pos (by unfold rtNx at h; omega))
theorem d_eq {d : Bool} {p : Prop} [Decidable p] (h : d = true ↔ p) : decide p = d := by
  cases d
  · exact decide_eq_false (fun hp => by have := h.2 hp; simp at this)
  · exact decide_eq_true (h.1 rfl)
theorem field_x (r : Rc) (s : Sk) (w : World) (hx : -9223372036854775808 ≤ r.x ∧ r.x ≤ 9223372036854775807) (d : Bool) (hd : d = true ↔ okF r 120) : Calls Tryz.prog 47 #[rV r s, .int .u8 120] w fun x w' => x = .returned (.tuple #[.string (fldB r 120), .bool d]) ∧ Tch (fun _ => False) w w' := by
  have hd' : d = true ↔ rtN r.x := hd
  have q1 := fun W => rxid_any r.x W
  rw [d_eq hd'] at q1
  have q2 := fun W => rdig6 r.x hx W
  have HFB : Hid (fldB r 120 = bB (dgI r.x)) := rfl
  obtain ⟨b, hb⟩ : ∃ b, b = bB (dgI r.x) := ⟨_, rfl⟩
  rw [← hb] at q2 HFB
  rw [HFB.out]
  have HK : Hid (∀ W, Tch (fun _ => False) (w.alloc (.cells #[.int .i64 r.k, .int .i64 r.x, .int .i64 r.p, .int .i64 r.t, .slice s.oo r.o.length s.oc, .slice s.no r.n.length s.nc, .string r.nm, .int .i64 r.org, .int .i64 r.tb.id, .int .i64 r.tb.ver, .string r.tb.nm, .slice s.co r.tb.cols.length s.cc, .int .i64 r.tb.key, .slice s.to s.P.length s.tc] 37)) W → W.heap[w.heap.size]? = some (.cells #[.int .i64 r.k, .int .i64 r.x, .int .i64 r.p, .int .i64 r.t, .slice s.oo r.o.length s.oc, .slice s.no r.n.length s.nc, .string r.nm, .int .i64 r.org, .int .i64 r.tb.id, .int .i64 r.tb.ver, .string r.tb.nm, .slice s.co r.tb.cols.length s.cc, .int .i64 r.tb.key, .slice s.to s.P.length s.tc] 37 (0, 0))) := fun W t => (t.block _ (by simp) (fun h => h)).trans (heap_new w _)
  clear hd hd' hx hb
  go_enter Tryz.func47, Tryz.ntmps47
  go_wp2_with fail
  refine (q1 _).mono ?_
  rintro x w1 ⟨rfl, hw1⟩
  obtain rfl := hw1.symm
  clear hw1 q1
  go_wp2_with fail
  refine (q2 _).mono ?_
  rintro x w2 ⟨rfl, t2⟩
  clear q2
  go_wp2_with fail
  go_ret2
  exact ⟨rfl, (Tch.alloc _ _ _).trans' t2⟩
theorem field_n (r : Rc) (s : Sk) (w : World) (hx : -9223372036854775808 ≤ r.x ∧ r.x ≤ 9223372036854775807) (d : Bool) (hd : d = true ↔ okF r 110) : Calls Tryz.prog 47 #[rV r s, .int .u8 110] w fun x w' => x = .returned (.tuple #[.string (fldB r 110), .bool d]) ∧ Tch (fun _ => False) w w' := by
  have hd' : d = true ↔ rtNx r.x := hd
  have q1 := fun W => rnext_any r.x W
  rw [d_eq hd'] at q1
  have q2 := fun W => rdig6 r.x hx W
  have HFB : Hid (fldB r 110 = bB (dgI r.x)) := rfl
  obtain ⟨b, hb⟩ : ∃ b, b = bB (dgI r.x) := ⟨_, rfl⟩
  rw [← hb] at q2 HFB
  rw [HFB.out]
  have HK : Hid (∀ W, Tch (fun _ => False) (w.alloc (.cells #[.int .i64 r.k, .int .i64 r.x, .int .i64 r.p, .int .i64 r.t, .slice s.oo r.o.length s.oc, .slice s.no r.n.length s.nc, .string r.nm, .int .i64 r.org, .int .i64 r.tb.id, .int .i64 r.tb.ver, .string r.tb.nm, .slice s.co r.tb.cols.length s.cc, .int .i64 r.tb.key, .slice s.to s.P.length s.tc] 37)) W → W.heap[w.heap.size]? = some (.cells #[.int .i64 r.k, .int .i64 r.x, .int .i64 r.p, .int .i64 r.t, .slice s.oo r.o.length s.oc, .slice s.no r.n.length s.nc, .string r.nm, .int .i64 r.org, .int .i64 r.tb.id, .int .i64 r.tb.ver, .string r.tb.nm, .slice s.co r.tb.cols.length s.cc, .int .i64 r.tb.key, .slice s.to s.P.length s.tc] 37 (0, 0))) := fun W t => (t.block _ (by simp) (fun h => h)).trans (heap_new w _)
  clear hd hd' hx hb
  go_enter Tryz.func47, Tryz.ntmps47
  go_wp2_with fail
  refine (q1 _).mono ?_
  rintro x w1 ⟨rfl, hw1⟩
  obtain rfl := hw1.symm
  clear hw1 q1
  go_wp2_with fail
  refine (q2 _).mono ?_
  rintro x w2 ⟨rfl, t2⟩
  clear q2
  go_wp2_with fail
  go_ret2
  exact ⟨rfl, (Tch.alloc _ _ _).trans' t2⟩
theorem field_t (r : Rc) (s : Sk) (w : World) (hx : -9223372036854775808 ≤ r.t ∧ r.t ≤ 9223372036854775807) (d : Bool) (hd : d = true ↔ okF r 116) : Calls Tryz.prog 47 #[rV r s, .int .u8 116] w fun x w' => x = .returned (.tuple #[.string (fldB r 116), .bool d]) ∧ Tch (fun _ => False) w w' := by
  have hd' : d = true ↔ rtN r.t := hd
  have q1 := fun W => rxid_any r.t W
  rw [d_eq hd'] at q1
  have q2 := fun W => rdig6 r.t hx W
  have HFB : Hid (fldB r 116 = bB (dgI r.t)) := rfl
  obtain ⟨b, hb⟩ : ∃ b, b = bB (dgI r.t) := ⟨_, rfl⟩
  rw [← hb] at q2 HFB
  rw [HFB.out]
  have HK : Hid (∀ W, Tch (fun _ => False) (w.alloc (.cells #[.int .i64 r.k, .int .i64 r.x, .int .i64 r.p, .int .i64 r.t, .slice s.oo r.o.length s.oc, .slice s.no r.n.length s.nc, .string r.nm, .int .i64 r.org, .int .i64 r.tb.id, .int .i64 r.tb.ver, .string r.tb.nm, .slice s.co r.tb.cols.length s.cc, .int .i64 r.tb.key, .slice s.to s.P.length s.tc] 37)) W → W.heap[w.heap.size]? = some (.cells #[.int .i64 r.k, .int .i64 r.x, .int .i64 r.p, .int .i64 r.t, .slice s.oo r.o.length s.oc, .slice s.no r.n.length s.nc, .string r.nm, .int .i64 r.org, .int .i64 r.tb.id, .int .i64 r.tb.ver, .string r.tb.nm, .slice s.co r.tb.cols.length s.cc, .int .i64 r.tb.key, .slice s.to s.P.length s.tc] 37 (0, 0))) := fun W t => (t.block _ (by simp) (fun h => h)).trans (heap_new w _)
  clear hd hd' hx hb
  go_enter Tryz.func47, Tryz.ntmps47
  go_wp2_with fail
  refine (q1 _).mono ?_
  rintro x w1 ⟨rfl, hw1⟩
  obtain rfl := hw1.symm
  clear hw1 q1
  go_wp2_with fail
  refine (q2 _).mono ?_
  rintro x w2 ⟨rfl, t2⟩
  clear q2
  go_wp2_with fail
  go_ret2
  exact ⟨rfl, (Tch.alloc _ _ _).trans' t2⟩
theorem field_u (r : Rc) (s : Sk) (w : World) (hx : -9223372036854775808 ≤ r.t ∧ r.t ≤ 9223372036854775807) (d : Bool) (hd : d = true ↔ okF r 117) : Calls Tryz.prog 47 #[rV r s, .int .u8 117] w fun x w' => x = .returned (.tuple #[.string (fldB r 117), .bool d]) ∧ Tch (fun _ => False) w w' := by
  have hd' : d = true ↔ rtNx r.t := hd
  have q1 := fun W => rnext_any r.t W
  rw [d_eq hd'] at q1
  have q2 := fun W => rdig6 r.t hx W
  have HFB : Hid (fldB r 117 = bB (dgI r.t)) := rfl
  obtain ⟨b, hb⟩ : ∃ b, b = bB (dgI r.t) := ⟨_, rfl⟩
  rw [← hb] at q2 HFB
  rw [HFB.out]
  have HK : Hid (∀ W, Tch (fun _ => False) (w.alloc (.cells #[.int .i64 r.k, .int .i64 r.x, .int .i64 r.p, .int .i64 r.t, .slice s.oo r.o.length s.oc, .slice s.no r.n.length s.nc, .string r.nm, .int .i64 r.org, .int .i64 r.tb.id, .int .i64 r.tb.ver, .string r.tb.nm, .slice s.co r.tb.cols.length s.cc, .int .i64 r.tb.key, .slice s.to s.P.length s.tc] 37)) W → W.heap[w.heap.size]? = some (.cells #[.int .i64 r.k, .int .i64 r.x, .int .i64 r.p, .int .i64 r.t, .slice s.oo r.o.length s.oc, .slice s.no r.n.length s.nc, .string r.nm, .int .i64 r.org, .int .i64 r.tb.id, .int .i64 r.tb.ver, .string r.tb.nm, .slice s.co r.tb.cols.length s.cc, .int .i64 r.tb.key, .slice s.to s.P.length s.tc] 37 (0, 0))) := fun W t => (t.block _ (by simp) (fun h => h)).trans (heap_new w _)
  clear hd hd' hx hb
  go_enter Tryz.func47, Tryz.ntmps47
  go_wp2_with fail
  refine (q1 _).mono ?_
  rintro x w1 ⟨rfl, hw1⟩
  obtain rfl := hw1.symm
  clear hw1 q1
  go_wp2_with fail
  refine (q2 _).mono ?_
  rintro x w2 ⟨rfl, t2⟩
  clear q2
  go_wp2_with fail
  go_ret2
  exact ⟨rfl, (Tch.alloc _ _ _).trans' t2⟩
theorem field_p (r : Rc) (s : Sk) (w : World) (hx : -9223372036854775808 ≤ r.p ∧ r.p ≤ 9223372036854775807) (d : Bool) (hd : d = true ↔ okF r 112) : Calls Tryz.prog 47 #[rV r s, .int .u8 112] w fun x w' => x = .returned (.tuple #[.string (fldB r 112), .bool d]) ∧ Tch (fun _ => False) w w' := by
  have q1 := fun W => rxid_any r.p W
  obtain ⟨e, he⟩ : ∃ e, e = decide (rtN r.p) := ⟨_, rfl⟩
  rw [← he] at q1
  have HD : Hid (d = true ↔ e = true ∧ r.p < r.x) := by
    show d = true ↔ _
    rw [hd, he, decide_eq_true_iff]
    exact Iff.rfl
  have q2 := fun W => rdig6 r.p hx W
  have HFB : Hid (fldB r 112 = bB (dgI r.p)) := rfl
  obtain ⟨b, hb⟩ : ∃ b, b = bB (dgI r.p) := ⟨_, rfl⟩
  rw [← hb] at q2 HFB
  rw [HFB.out]
  obtain ⟨w0, hw0⟩ : ∃ w0, w0 = w.alloc (.cells #[.int .i64 r.k, .int .i64 r.x, .int .i64 r.p, .int .i64 r.t, .slice s.oo r.o.length s.oc, .slice s.no r.n.length s.nc, .string r.nm, .int .i64 r.org, .int .i64 r.tb.id, .int .i64 r.tb.ver, .string r.tb.nm, .slice s.co r.tb.cols.length s.cc, .int .i64 r.tb.key, .slice s.to s.P.length s.tc] 37) := ⟨_, rfl⟩
  have b0 : w0.heap[w.heap.size]? = some (.cells #[.int .i64 r.k, .int .i64 r.x, .int .i64 r.p, .int .i64 r.t, .slice s.oo r.o.length s.oc, .slice s.no r.n.length s.nc, .string r.nm, .int .i64 r.org, .int .i64 r.tb.id, .int .i64 r.tb.ver, .string r.tb.nm, .slice s.co r.tb.cols.length s.cc, .int .i64 r.tb.key, .slice s.to s.P.length s.tc] 37 (0, 0)) := by rw [hw0]; exact heap_new w _
  have HT0 : Hid (Tch (fun _ => False) w w0) := by show Tch _ _ _; rw [hw0]; exact Tch.alloc _ _ _
  have y1 := blk_cell b0 1
  have y2 := blk_cell b0 2
  simp only [List.getElem?_toArray, List.getElem?_cons_succ, List.getElem?_cons_zero] at y1 y2
  have k1 := cell_regrown y1
  have k2 := cell_regrown y2
  have c1 := fun (dd : Nat) (os : Array Obj) => regrown_calls (w := w0) (fun W _ => q2 W) dd os
  have HW0 : Hid (w0 = w.alloc (.cells #[.int .i64 r.k, .int .i64 r.x, .int .i64 r.p, .int .i64 r.t, .slice s.oo r.o.length s.oc, .slice s.no r.n.length s.nc, .string r.nm, .int .i64 r.org, .int .i64 r.tb.id, .int .i64 r.tb.ver, .string r.tb.nm, .slice s.co r.tb.cols.length s.cc, .int .i64 r.tb.key, .slice s.to s.P.length s.tc] 37)) := hw0
  clear hd hx hb he q2 b0 hw0
  by_cases hlt : r.p < r.x
  · have hdl : decide (r.p < r.x) = true := decide_eq_true hlt
    obtain rfl : e = d := Bool.eq_iff_iff.2 ⟨fun he => HD.out.2 ⟨he, hlt⟩, fun hd => (HD.out.1 hd).1⟩
    clear HD hlt
    cases e
    all_goals
      go_enter Tryz.func47, Tryz.ntmps47
      go_wp2_with fail
      refine (q1 _).mono ?_
      rintro x w1 ⟨rfl, hw1⟩
      obtain rfl := hw1.symm
      clear hw1 q1
      go_wp2_with fail
      rw [← HW0.out]
      refine wp_region_quiet_below (by kernel_rfl) (by kernel_rfl) ?_
      repeat (quiet_step ((go_at_call 78; exact c1 _ _)))
      refine wpQuiet_nil ?_
      rintro w2 ⟨p, rfl⟩
      have HE : Hid (Tch (fun _ => False) w (grow (redrawn w0 p.d) p.os)) := HT0.out.trans' (Tch.regrown w0 p.d p.os)
      obtain ⟨W2, hW2⟩ : ∃ W2, W2 = grow (redrawn w0 p.d) p.os := ⟨_, rfl⟩
      rw [← hW2] at HE ⊢
      clear hW2 k1 k2 y1 y2 c1
      go_wp2_with fail
      go_ret2
      exact ⟨rfl, HE.out⟩
  · have hdl : decide (r.p < r.x) = false := decide_eq_false hlt
    obtain rfl : d = false := by
      rw [← Bool.not_eq_true]; intro h; exact hlt (HD.out.1 h).2
    clear HD hlt
    cases e
    all_goals
      go_enter Tryz.func47, Tryz.ntmps47
      go_wp2_with fail
      refine (q1 _).mono ?_
      rintro x w1 ⟨rfl, hw1⟩
      obtain rfl := hw1.symm
      clear hw1 q1
      go_wp2_with fail
      rw [← HW0.out]
      refine wp_region_quiet_below (by kernel_rfl) (by kernel_rfl) ?_
      repeat (quiet_step ((go_at_call 78; exact c1 _ _)))
      refine wpQuiet_nil ?_
      rintro w2 ⟨p, rfl⟩
      have HE : Hid (Tch (fun _ => False) w (grow (redrawn w0 p.d) p.os)) := HT0.out.trans' (Tch.regrown w0 p.d p.os)
      obtain ⟨W2, hW2⟩ : ∃ W2, W2 = grow (redrawn w0 p.d) p.os := ⟨_, rfl⟩
      rw [← hW2] at HE ⊢
      clear hW2 k1 k2 y1 y2 c1
      go_wp2_with fail
      go_ret2
      exact ⟨rfl, HE.out⟩
theorem field_o (r : Rc) (s : Sk) (F : Nat → Prop) (w : World) (h : RW w F r s) (d : Bool) (hd : d = true ↔ okF r 111) : Calls Tryz.prog 47 #[rV r s, .int .u8 111] w fun x w' => x = .returned (.tuple #[.string (fldB r 111), .bool d]) ∧ Tch (fun _ => False) w w' := by
  have HQ1 : Hid (∀ W, Tch (fun _ => False) w W → Calls Tryz.prog 80 #[.slice s.oo r.o.length s.oc] W fun x w' => x = .returned (.tuple #[.string ⟨(encR r.o).1.toArray⟩, .bool d]) ∧ Tch (fun _ => False) W w') := fun W t => by
    have := rrow6 r.o s.oo s.oc W (h.o.no t) h.oi h.ol
    rw [d_eq (p := rtRow r.o) hd] at this
    exact this
  have hsz : (⟨(encR r.o).1.toArray⟩ : ByteArray).size ≤ 1689 := by show (encR r.o).1.toArray.size ≤ _; rw [List.size_toArray]; exact encR_len _
  have HFB : Hid (fldB r 111 = bB (textL ⟨(encR r.o).1.toArray⟩)) := rfl
  rw [HFB.out]
  obtain ⟨e, he⟩ : ∃ e : ByteArray, e = ⟨(encR r.o).1.toArray⟩ := ⟨_, rfl⟩
  rw [← he] at HQ1 hsz ⊢
  have HQ2 : Hid (∀ W, Calls Tryz.prog 81 #[.string e] W fun x w' => x = .returned (.string (bB (textL e))) ∧ Tch (fun _ => False) W w') := fun W => rtext_ok e (by omega) W
  clear hd h he hsz HFB
  go_enter Tryz.func47, Tryz.ntmps47
  go_wp2_with fail
  refine (HQ1.out _ (Tch.alloc _ _ _)).mono ?_
  rintro x w1 ⟨rfl, t1⟩
  go_wp2_with fail
  refine (HQ2.out _).mono ?_
  rintro x w2 ⟨rfl, t2⟩
  go_wp2_with fail
  go_ret2
  exact ⟨rfl, ((Tch.alloc _ _ _).trans' t1).trans' t2⟩
theorem field_w (r : Rc) (s : Sk) (F : Nat → Prop) (w : World) (h : RW w F r s) (d : Bool) (hd : d = true ↔ okF r 119) : Calls Tryz.prog 47 #[rV r s, .int .u8 119] w fun x w' => x = .returned (.tuple #[.string (fldB r 119), .bool d]) ∧ Tch (fun _ => False) w w' := by
  have HQ1 : Hid (∀ W, Tch (fun _ => False) w W → Calls Tryz.prog 80 #[.slice s.no r.n.length s.nc] W fun x w' => x = .returned (.tuple #[.string ⟨(encR r.n).1.toArray⟩, .bool d]) ∧ Tch (fun _ => False) W w') := fun W t => by
    have := rrow6 r.n s.no s.nc W (h.n.no t) h.ni h.nl
    rw [d_eq (p := rtRow r.n) hd] at this
    exact this
  have hsz : (⟨(encR r.n).1.toArray⟩ : ByteArray).size ≤ 1689 := by show (encR r.n).1.toArray.size ≤ _; rw [List.size_toArray]; exact encR_len _
  have HFB : Hid (fldB r 119 = bB (textL ⟨(encR r.n).1.toArray⟩)) := rfl
  rw [HFB.out]
  obtain ⟨e, he⟩ : ∃ e : ByteArray, e = ⟨(encR r.n).1.toArray⟩ := ⟨_, rfl⟩
  rw [← he] at HQ1 hsz ⊢
  have HQ2 : Hid (∀ W, Calls Tryz.prog 81 #[.string e] W fun x w' => x = .returned (.string (bB (textL e))) ∧ Tch (fun _ => False) W w') := fun W => rtext_ok e (by omega) W
  clear hd h he hsz HFB
  go_enter Tryz.func47, Tryz.ntmps47
  go_wp2_with fail
  refine (HQ1.out _ (Tch.alloc _ _ _)).mono ?_
  rintro x w1 ⟨rfl, t1⟩
  go_wp2_with fail
  refine (HQ2.out _).mono ?_
  rintro x w2 ⟨rfl, t2⟩
  go_wp2_with fail
  go_ret2
  exact ⟨rfl, ((Tch.alloc _ _ _).trans' t1).trans' t2⟩
theorem field_m (r : Rc) (s : Sk) (w : World) (hs : r.nm.size ≤ 140737488351232) (d : Bool) (hd : d = true ↔ okF r 109) : Calls Tryz.prog 47 #[rV r s, .int .u8 109] w fun x w' => x = .returned (.tuple #[.string (fldB r 109), .bool d]) ∧ Tch (fun _ => False) w w' := by
  have q1 := fun W => rname6 r.nm W
  rw [show nmOk r.nm = d from by rw [Bool.eq_iff_iff]; exact hd.symm] at q1
  have q2 := fun W => rtext_ok r.nm hs W
  have HFB : Hid (fldB r 109 = bB (textL r.nm)) := rfl
  rw [HFB.out]
  clear hd hs HFB
  go_enter Tryz.func47, Tryz.ntmps47
  go_wp2_with fail
  refine (q1 _).mono ?_
  rintro x w1 ⟨rfl, hw1⟩
  obtain rfl := hw1.symm
  clear hw1 q1
  go_wp2_with fail
  refine (q2 _).mono ?_
  rintro x w2 ⟨rfl, t2⟩
  clear q2
  go_wp2_with fail
  go_ret2
  exact ⟨rfl, (Tch.alloc _ _ _).trans' t2⟩
theorem field_c (r : Rc) (s : Sk) (w : World) (d : Bool) (hd : d = true ↔ okF r 99) : Calls Tryz.prog 47 #[rV r s, .int .u8 99] w fun x w' => x = .returned (.tuple #[.string (fldB r 99), .bool d]) ∧ Tch (fun _ => False) w w' := by
  have q1 := fun W => rname6 r.nm W
  obtain ⟨e, he⟩ : ∃ e, e = nmOk r.nm := ⟨_, rfl⟩
  rw [← he] at q1
  have HD : Hid (d = true ↔ orOk r.nm r.org) := hd
  have HE : Hid (e = nmOk r.nm) := he
  clear hd he
  cases d
  · have HFB : Hid (fldB r 99 = ⟨#[]⟩) := by
      show _ = _
      refine if_neg fun h => ?_
      have := HD.out.2 h
      simp at this
    have HN : Hid (¬ orOk r.nm r.org) := fun h => by have := HD.out.2 h; simp at this
    rw [HFB.out]
    by_cases hz : r.nm.size = 0
    · have hze : r.nm.toList.isEmpty = true := empty_of_size hz
      have ho : ¬ r.org = 0 := fun h => HN.out (Or.inl ⟨hz, h⟩)
      have ho' : (r.org == 0) = false := int_ne ho
      obtain rfl : e = false := by rw [HE.out, emp_eq hz]; rfl
      clear hz HD HE HN HFB ho
      go_enter Tryz.func47, Tryz.ntmps47
      go_wp2_with fail
      refine (q1 _).mono ?_
      rintro x w1 ⟨rfl, hw1⟩
      obtain rfl := hw1.symm
      clear hw1
      go_wp2_with fail
      go_ret2
      exact ⟨rfl, Tch.alloc _ _ _⟩
    · have hze : r.nm.toList.isEmpty = false := nonempty_of_size (r := r.nm) (by omega)
      have hne : e = true → ¬ (1 ≤ r.org ∧ r.org ≤ 819208192) := fun h h1 => HN.out (Or.inr ⟨by rw [← HE.out]; exact h, h1.1, h1.2⟩)
      clear hz HD HE HN HFB
      cases e
      · clear hne
        go_enter Tryz.func47, Tryz.ntmps47
        go_wp2_with fail
        refine (q1 _).mono ?_
        rintro x w1 ⟨rfl, hw1⟩
        obtain rfl := hw1.symm
        clear hw1
        go_wp2_with fail
        go_ret2
        exact ⟨rfl, Tch.alloc _ _ _⟩
      · have hne := hne rfl
        by_cases h1 : 1 ≤ r.org
        · have h2 : ¬ r.org ≤ 819208192 := fun h => hne ⟨h1, h⟩
          have h2' : decide (r.org ≤ 819208192) = false := decide_eq_false h2
          have h3' : decide (1 ≤ r.org) = true := decide_eq_true h1
          have h4' : (r.org == 0) = false := int_ne (by omega)
          clear hne
          go_enter Tryz.func47, Tryz.ntmps47
          go_wp2_with fail
          refine (q1 _).mono ?_
          rintro x w1 ⟨rfl, hw1⟩
          obtain rfl := hw1.symm
          clear hw1
          go_wp2_with fail
          go_ret2
          exact ⟨rfl, Tch.alloc _ _ _⟩
        · clear hne
          go_enter Tryz.func47, Tryz.ntmps47
          go_wp2_with fail
          refine (q1 _).mono ?_
          rintro x w1 ⟨rfl, hw1⟩
          obtain rfl := hw1.symm
          clear hw1
          go_wp2_with fail
          go_ret2
          exact ⟨rfl, Tch.alloc _ _ _⟩
  · have hor : orOk r.nm r.org := HD.out.1 rfl
    have hsz : r.nm.size ≤ 16 := by
      rcases hor with h | h
      · omega
      · exact nm_size h.1
    have hog : 0 ≤ r.org ∧ r.org ≤ 819208192 := by
      rcases hor with h | h <;> omega
    have HFB : Hid (fldB r 99 = bB (textL r.nm ++ dg r.org.toNat)) := if_pos hor
    obtain ⟨TX, hTX⟩ : ∃ TX, TX = bB (textL r.nm) := ⟨_, rfl⟩
    obtain ⟨DG, hDG⟩ : ∃ DG, DG = bB (dg r.org.toNat) := ⟨_, rfl⟩
    have HR : Hid (TX ++ DG = fldB r 99) := by
      show _ = _
      rw [HFB.out]
      apply bB_of
      rw [bl_app, hTX, hDG, bl_bB, bl_bB]
    have s1 : TX.size ≤ 26 := by rw [hTX, size_bB, textL_bl, List.length_append, bl_size]; have := dg_len r.nm.size; omega
    have s2 : DG.size ≤ 10 := by rw [hDG, size_bB]; exact dg_len _
    have q2 := fun W => rtext_ok r.nm (by omega) W
    have q3 := fun W => rdig_ok r.org hog.1 (by omega) W
    rw [← hTX] at q2
    rw [← hDG] at q3
    obtain ⟨FB, hFB⟩ : ∃ FB, FB = fldB r 99 := ⟨_, rfl⟩
    rw [← hFB] at HR ⊢
    obtain ⟨w0, hw0⟩ : ∃ w0, w0 = w.alloc (.cells #[.int .i64 r.k, .int .i64 r.x, .int .i64 r.p, .int .i64 r.t, .slice s.oo r.o.length s.oc, .slice s.no r.n.length s.nc, .string r.nm, .int .i64 r.org, .int .i64 r.tb.id, .int .i64 r.tb.ver, .string r.tb.nm, .slice s.co r.tb.cols.length s.cc, .int .i64 r.tb.key, .slice s.to s.P.length s.tc] 37) := ⟨_, rfl⟩
    have b0 : w0.heap[w.heap.size]? = some (.cells #[.int .i64 r.k, .int .i64 r.x, .int .i64 r.p, .int .i64 r.t, .slice s.oo r.o.length s.oc, .slice s.no r.n.length s.nc, .string r.nm, .int .i64 r.org, .int .i64 r.tb.id, .int .i64 r.tb.ver, .string r.tb.nm, .slice s.co r.tb.cols.length s.cc, .int .i64 r.tb.key, .slice s.to s.P.length s.tc] 37 (0, 0)) := by rw [hw0]; exact heap_new w _
    have HT0 : Hid (Tch (fun _ => False) w w0) := by show Tch _ _ _; rw [hw0]; exact Tch.alloc _ _ _
    have y1 := blk_cell b0 6
    have y2 := blk_cell b0 7
    simp only [List.getElem?_toArray, List.getElem?_cons_succ, List.getElem?_cons_zero] at y1 y2
    have k1 := cell_regrown y1
    have k2 := cell_regrown y2
    have c1 := fun (dd : Nat) (os : Array Obj) => regrown_calls (w := w0) (fun W _ => q2 W) dd os
    have c2 := fun (dd : Nat) (os : Array Obj) => regrown_calls (w := w0) (fun W _ => q3 W) dd os
    have HW0 : Hid (w0 = w.alloc (.cells #[.int .i64 r.k, .int .i64 r.x, .int .i64 r.p, .int .i64 r.t, .slice s.oo r.o.length s.oc, .slice s.no r.n.length s.nc, .string r.nm, .int .i64 r.org, .int .i64 r.tb.id, .int .i64 r.tb.ver, .string r.tb.nm, .slice s.co r.tb.cols.length s.cc, .int .i64 r.tb.key, .slice s.to s.P.length s.tc] 37)) := hw0
    clear HFB hTX hDG q2 q3 b0 hw0 hFB hsz hog
    rcases hor with ⟨hz, ho⟩ | ⟨hn, h1, h2⟩
    · have hze : r.nm.toList.isEmpty = true := empty_of_size hz
      have ho' : (r.org == 0) = true := by simpa using ho
      obtain rfl : e = false := by rw [HE.out, emp_eq hz]; rfl
      clear hz HD HE ho
      go_enter Tryz.func47, Tryz.ntmps47
      go_wp2_with fail
      refine (q1 _).mono ?_
      rintro x w1 ⟨rfl, hw1⟩
      obtain rfl := hw1.symm
      clear hw1
      go_wp2_with fail
      rw [← HW0.out]
      refine wp_region_quiet_below (by kernel_rfl) (by kernel_rfl) ?_
      quiet_step (fail)
      quiet_step (fail)
      quiet_step ((go_at_call 81; exact c1 _ _))
      quiet_step (fail)
      quiet_step (fail)
      quiet_step ((go_at_call 78; exact c2 _ _))
      quiet_step ((rw [if_neg (by omega)]; exact ⟨rfl, rfl⟩))
      quiet_step (fail)
      quiet_step (fail)
      refine wpQuiet_nil ?_
      rintro w2 ⟨p, rfl⟩
      have HE : Hid (Tch (fun _ => False) w (grow (redrawn w0 p.d) p.os)) := HT0.out.trans' (Tch.regrown w0 p.d p.os)
      obtain ⟨W2, hW2⟩ : ∃ W2, W2 = grow (redrawn w0 p.d) p.os := ⟨_, rfl⟩
      rw [← hW2] at HE ⊢
      clear hW2 k1 k2 y1 y2 c1 c2
      go_wp2_with fail
      go_ret2
      exact ⟨by rw [← HR.out]; rfl, HE.out⟩
    · obtain rfl : e = true := by rw [HE.out]; exact hn
      clear HD HE hn
      go_enter Tryz.func47, Tryz.ntmps47
      go_wp2_with fail
      refine (q1 _).mono ?_
      rintro x w1 ⟨rfl, hw1⟩
      obtain rfl := hw1.symm
      clear hw1
      go_wp2_with fail
      rw [← HW0.out]
      refine wp_region_quiet_below (by kernel_rfl) (by kernel_rfl) ?_
      quiet_step (fail)
      quiet_step (fail)
      quiet_step ((go_at_call 81; exact c1 _ _))
      quiet_step (fail)
      quiet_step (fail)
      quiet_step ((go_at_call 78; exact c2 _ _))
      quiet_step ((rw [if_neg (by omega)]; exact ⟨rfl, rfl⟩))
      quiet_step (fail)
      quiet_step (fail)
      refine wpQuiet_nil ?_
      rintro w2 ⟨p, rfl⟩
      have HE : Hid (Tch (fun _ => False) w (grow (redrawn w0 p.d) p.os)) := HT0.out.trans' (Tch.regrown w0 p.d p.os)
      obtain ⟨W2, hW2⟩ : ∃ W2, W2 = grow (redrawn w0 p.d) p.os := ⟨_, rfl⟩
      rw [← hW2] at HE ⊢
      clear hW2 k1 k2 y1 y2 c1 c2
      go_wp2_with fail
      go_ret2
      exact ⟨by rw [← HR.out]; rfl, HE.out⟩
theorem field_a (r : Rc) (s : Sk) (F : Nat → Prop) (w : World) (h : RW w F r s) (d : Bool) (hd : d = true ↔ okF r 97) : Calls Tryz.prog 47 #[rV r s, .int .u8 97] w fun x w' => x = .returned (.tuple #[.string (fldB r 97), .bool d]) ∧ Tch (fun _ => False) w w' := by
  have HQ1 : Hid (∀ W, Tch (fun _ => False) w W → Calls Tryz.prog 83 #[tA r.tb.id r.tb.ver r.tb.nm (.slice s.co r.tb.cols.length s.cc) r.tb.key] W fun x w' => x = .returned (.tuple #[.string (fldB r 97), .bool d]) ∧ Tch (fun _ => False) W w') := fun W t => by
    by_cases hr : rightE r.tb = 0
    · obtain rfl : d = true := hd.2 hr
      have := rtable_ok r.tb s.co s.cc W (h.tb.sl.no t) hr
      rw [show fldB r 97 = bB (tabL r.tb) from if_pos hr]
      exact this
    · obtain rfl : d = false := by rw [← Bool.not_eq_true]; intro e; exact hr (hd.1 e)
      have := rtable_no r.tb s.co s.cc W (h.tb.sl.no t) hr
      rw [show fldB r 97 = ⟨#[]⟩ from if_neg hr]
      exact this
  obtain ⟨b, hb⟩ : ∃ b, b = fldB r 97 := ⟨_, rfl⟩
  rw [← hb] at HQ1 ⊢
  clear hd h hb
  go_enter Tryz.func47, Tryz.ntmps47
  go_wp2_with fail
  refine (HQ1.out _ (Tch.alloc _ _ _)).mono ?_
  rintro x w1 ⟨rfl, t1⟩
  go_wp2_with fail
  go_ret2
  exact ⟨rfl, (Tch.alloc _ _ _).trans' t1⟩
theorem tabsL_take (L : List Tbl) (k : Nat) (hk : k < L.length) : tabsL (L.take (k + 1)) = tabsL (L.take k) ++ tabL L[k] := by
  rw [(List.take_append_getElem hk).symm]
  unfold tabsL
  rw [List.flatMap_append]
  simp
structure LK (L : List Tbl) (next : Int) (k : Nat) : Prop where
  right : ∀ i (hi : i < L.length), i < k → rightE L[i] = 0
  ids : ∀ i (hi : i < L.length), i < k → L[i].id < next
  rise : ∀ i j (hi : i < L.length) (hj : j < L.length), i < j → j < k → L[i].id < L[j].id
  nms : ∀ i j (hi : i < L.length) (hj : j < L.length), i < j → j < k → L[i].nm ≠ L[j].nm
theorem LK.zero (L : List Tbl) (next : Int) : LK L next 0 := ⟨fun _ _ h => by omega, fun _ _ h => by omega, fun _ _ _ _ _ h => by omega, fun _ _ _ _ _ h => by omega⟩
theorem LK.full {L : List Tbl} {next : Int} (h : LK L next L.length) (hl : L.length ≤ 16) : LDp L next :=
  ⟨hl, fun i hi => h.right i hi hi, fun i hi => h.ids i hi hi, fun i j hi hj hij => h.rise i j hi hj hij hj, fun i j hi hj hij => h.nms i j hi hj hij hj⟩
def lastK (L : List Tbl) (k : Nat) : Int := match k with
  | 0 => 0
  | k + 1 => match L[k]? with
    | some t => t.id
    | none => 0
theorem lastK_succ {L : List Tbl} {k : Nat} (hk : k < L.length) : lastK L (k + 1) = L[k].id := by
  unfold lastK; simp only [List.getElem?_eq_getElem hk]
theorem LK.last {L : List Tbl} {next : Int} {k : Nat} (h : LK L next k) (hk : k < L.length) (hi : lastK L k < L[k].id) : ∀ i (hi : i < L.length), i < k → L[i].id < L[k].id := fun i hil hik => by
  cases k with
  | zero => omega
  | succ m =>
    rw [lastK_succ (by omega)] at hi
    rcases Nat.lt_or_ge i m with h1 | h1
    · have := h.rise i m hil (by omega) h1 (by omega); omega
    · obtain rfl : i = m := by omega
      exact hi
theorem LK.more {L : List Tbl} {next : Int} {k : Nat} (h : LK L next k) (hk : k < L.length) (h1 : rightE L[k] = 0) (h2 : lastK L k < L[k].id) (h3 : L[k].id < next) (h4 : ∀ i (hi : i < L.length), i < k → L[i].nm ≠ L[k].nm) : LK L next (k + 1) := by
  have hl := h.last hk h2
  refine ⟨fun i hi hik => ?_, fun i hi hik => ?_, fun i j hi hj hij hjk => ?_, fun i j hi hj hij hjk => ?_⟩
  · rcases Nat.lt_or_ge i k with h5 | h5
    · exact h.right i hi h5
    · obtain rfl : i = k := by omega
      exact h1
  · rcases Nat.lt_or_ge i k with h5 | h5
    · exact h.ids i hi h5
    · obtain rfl : i = k := by omega
      exact h3
  · rcases Nat.lt_or_ge j k with h5 | h5
    · exact h.rise i j hi hj hij h5
    · obtain rfl : j = k := by omega
      exact hl i hi hij
  · rcases Nat.lt_or_ge j k with h5 | h5
    · exact h.nms i j hi hj hij h5
    · obtain rfl : j = k := by omega
      exact h4 i hi hij
theorem LDp.low {L : List Tbl} {next : Int} (h : LDp L next) {k : Nat} (hk : k < L.length) : lastK L k < L[k].id := by
  have h1 := (right_rt (h.right k hk)).id.1
  cases k with
  | zero => show (0 : Int) < _; omega
  | succ m => rw [lastK_succ (by omega)]; exact h.rise m (m + 1) (by omega) hk (by omega)
open Classical in
noncomputable def tbsB (L : List Tbl) (next : Int) : ByteArray := if LDp L next then bB (bytesL [(L.length : Int)] ++ tabsL L) else ⟨#[]⟩
theorem rtables6 (P : List (Tbl × Value)) (tO : Option Addr) (tc : Nat) (F : Nat → Prop) (next : Int) (w : World) (h : TL w F tO P) (d : Bool) (hd : d = true ↔ LDp (P.map Prod.fst) next) :
    Calls Tryz.prog 84 #[.slice tO P.length tc, .int .i64 next] w fun x w' => x = .returned (.tuple #[.string (tbsB (P.map Prod.fst) next), .bool d]) ∧ Tch (fun _ => False) w w' := by
  obtain ⟨L, hL⟩ : ∃ L, L = P.map Prod.fst := ⟨_, rfl⟩
  obtain ⟨n, hn⟩ : ∃ n, n = P.length := ⟨_, rfl⟩
  have hnL : n = L.length := by rw [hn, hL, List.length_map]
  have HPL : Hid (∀ k (hk : k < P.length), ∃ hk' : k < L.length, P[k].1 = L[k]) := fun k hk => by
    have hk' : k < L.length := by omega
    refine ⟨hk', ?_⟩
    have : L[k]? = (P.map Prod.fst)[k]? := by rw [hL]
    rw [List.getElem?_map, List.getElem?_eq_getElem hk, List.getElem?_eq_getElem hk'] at this
    simpa using this.symm
  rw [← hL] at hd ⊢
  obtain ⟨B, hB⟩ : ∃ B, B = tbsB L next := ⟨_, rfl⟩
  have HNO : Hid (¬ LDp L next → d = false ∧ B = ⟨#[]⟩) := fun hn => ⟨by rw [← Bool.not_eq_true]; intro e; exact hn (hd.1 e), by rw [hB]; exact if_neg hn⟩
  have HYES : Hid (LDp L next → d = true ∧ B = bB (bytesL [(n : Int)] ++ tabsL L)) := fun hy => ⟨hd.2 hy, by rw [hB, hnL]; exact if_pos hy⟩
  have HTL : Hid (∀ W, Tch (fun _ => False) w W → TL W F tO P) := fun W t => h.no t
  rw [← hB, ← hn]
  have HN : Hid (n = P.length ∧ n = L.length) := ⟨hn, hnL⟩
  clear hd h hB hn hnL hL
  by_cases h16 : 16 < (n : Int)
  · obtain ⟨rfl, rfl⟩ := HNO.out (fun hl => by have := hl.len; have := HN.out.2; omega)
    go_enter Tryz.func84, Tryz.ntmps84
    go_wp2_with fail
    go_ret2
    exact ⟨rfl, Tch.refl _ _⟩
  have q0 := rnum_ok (n : Int) (by omega) (by omega) w
  obtain ⟨NM, hNM⟩ : ∃ NM, NM = bB (bytesL [(n : Int)]) := ⟨_, rfl⟩
  rw [← hNM] at q0
  have HNM : Hid (bl NM = bytesL [(n : Int)] ∧ NM.size = 1) := ⟨by rw [hNM, bl_bB], by rw [hNM, size_bB]; rfl⟩
  clear hNM
  go_enter Tryz.func84, Tryz.ntmps84
  go_wp2_with fail
  refine q0.mono ?_
  rintro x w1 ⟨rfl, t1⟩
  have HT1 : Hid (Tch (fun _ => False) w w1) := t1
  clear q0 t1
  go_wp2_with fail
  go_loopw [6, 7, 8] (fun s la i wr => ∃ (S : ByteArray) (k : Nat), s = .string S ∧ la = .int .i64 (lastK L k) ∧ i = .int .i64 k ∧ k ≤ n ∧ Hid (bl S = bytesL [(n : Int)] ++ tabsL (L.take k)) ∧ S.size ≤ 1 + 400 * k ∧ Hid (LK L next k) ∧ Hid (Tch (fun _ => False) w wr)) (fun _ _ i _ => n - (intOf i).toNat)
  case atStart => exact ⟨NM, 0, rfl, rfl, rfl, Nat.zero_le _, by show bl NM = _; rw [HNM.out.1]; simp [tabsL], by rw [HNM.out.2]; omega, LK.zero L next, HT1⟩
  case round =>
    obtain ⟨S, k, rfl, rfl, rfl, hk, HS, hsz, HLK, HT⟩ := hrel
    clear HT1 HNM
    by_cases hlt : (k : Int) < n
    · have hkP : k < P.length := by have := HN.out.1; omega
      have hkL : k < L.length := by have := HN.out.2; omega
      have hTL := HTL.out wr HT.out
      obtain ⟨g, o, rfl, c0, c1, c2, c3, c4⟩ := hTL.at k hkP
      obtain ⟨co, cc, hck⟩ := hTL.col k hkP
      obtain ⟨hk9, hpl⟩ := HPL.out k hkP
      obtain ⟨p, hp⟩ : ∃ p, p = P[k] := ⟨_, rfl⟩
      rw [← hp] at c0 c1 c2 c3 c4 hck hpl
      rw [hck.eq] at c3
      obtain ⟨x, hx⟩ : ∃ x, x = p.1 := ⟨_, rfl⟩
      rw [← hx] at c0 c1 c2 c3 c4 hpl
      have hcs : SL wr co (ccl x.cols) := by rw [hx]; exact hck.sl
      have HX : Hid (x = L[k]) := hpl
      obtain ⟨la, hla⟩ : ∃ la, la = lastK L k := ⟨_, rfl⟩
      rw [← hla]
      have HLA : Hid (la = lastK L k) := hla
      by_cases hr : rightE x = 0
      · have q1 := rtable_ok x co cc wr hcs hr
        have hrt := right_rt hr
        have hi1 := hrt.id
        obtain ⟨TB, hTB⟩ : ∃ TB, TB = bB (tabL x) := ⟨_, rfl⟩
        rw [← hTB] at q1
        have s1 : TB.size ≤ 300 := by rw [hTB, size_bB]; exact tabL_len6 hrt
        have HBB : Hid (bl (S ++ TB) = bytesL [(n : Int)] ++ tabsL (L.take (k + 1))) := by
          show bl _ = _
          rw [bl_app, HS.out, hTB, bl_bB, tabsL_take L k hkL, HX.out, List.append_assoc]
        have HR : Hid (rightE L[k] = 0) := by show _ = _; rw [← HX.out]; exact hr
        clear hTB hr hrt hcs hck hp hpl hx hla hTL HS
        by_cases h1 : x.id ≤ la
        · obtain ⟨rfl, rfl⟩ := HNO.out (fun hl => by have := hl.low hkL; rw [← HX.out, ← HLA.out] at this; omega)
          clear HNO HYES
          go_wp2_with fail
          refine q1.mono ?_
          rintro y w2 ⟨rfl, t2⟩
          have z0 : w2.cell? ⟨g, o + k * 5, none⟩ = some (.int .i64 x.id) := (t2.cell (p := ⟨_, _, none⟩) (cell_lt c0) (fun h => h)).trans c0
          clear q1 c0 c1 c2 c3 c4
          go_wp2_with fail
          go_ret2
          exact ⟨rfl, HT.out.trans' t2⟩
        by_cases h2 : next ≤ x.id
        · obtain ⟨rfl, rfl⟩ := HNO.out (fun hl => by have := hl.ids k hkL; rw [← HX.out] at this; omega)
          clear HNO HYES
          go_wp2_with fail
          refine q1.mono ?_
          rintro y w2 ⟨rfl, t2⟩
          have z0 : w2.cell? ⟨g, o + k * 5, none⟩ = some (.int .i64 x.id) := (t2.cell (p := ⟨_, _, none⟩) (cell_lt c0) (fun h => h)).trans c0
          clear q1 c0 c1 c2 c3 c4
          go_wp2_with fail
          go_ret2
          exact ⟨rfl, HT.out.trans' t2⟩
        go_wp2_with fail
        refine q1.mono ?_
        rintro y w2 ⟨rfl, t2⟩
        have z0 : w2.cell? ⟨g, o + k * 5, none⟩ = some (.int .i64 x.id) := (t2.cell (p := ⟨_, _, none⟩) (cell_lt c0) (fun h => h)).trans c0
        have z2 : w2.cell? ⟨g, o + k * 5 + 2, none⟩ = some (.string x.nm) := (t2.cell (p := ⟨_, _, none⟩) (cell_lt c2) (fun h => h)).trans c2
        have HT2 : Hid (Tch (fun _ => False) w w2) := HT.out.trans' t2
        clear q1 c0 c1 c2 c3 c4 t2
        go_wp2_with fail
        obtain ⟨wO, hwO⟩ : ∃ wO, wO = wr := ⟨_, rfl⟩
        have HZ : Hid (∀ W, Tch (fun _ => False) w2 W → W.cell? ⟨g, o + k * 5, none⟩ = some (.int .i64 x.id) ∧ W.cell? ⟨g, o + k * 5 + 2, none⟩ = some (.string x.nm)) := fun W t => ⟨(t.cell (p := ⟨_, _, none⟩) (cell_lt z0) (fun h => h)).trans z0, (t.cell (p := ⟨_, _, none⟩) (cell_lt z2) (fun h => h)).trans z2⟩
        have hgo := cell_lt z0
        clear z0 z2
        subst hwO
        go_loopw [11] (fun j wq => ∃ m : Nat, j = .int .i64 m ∧ m ≤ k ∧ Hid (∀ i (hi : i < L.length), i < m → L[i].nm ≠ L[k].nm) ∧ Hid (Tch (fun _ => False) w2 wq)) (fun j _ => k - (intOf j).toNat)
        case atStart => exact ⟨0, rfl, Nat.zero_le _, fun _ _ h => by omega, Tch.refl _ _⟩
        case round =>
          obtain ⟨m, rfl, hm, HM, HT3⟩ := hrel
          by_cases hmk : (m : Int) < k
          · have hmP : m < P.length := by omega
            have hmL : m < L.length := by omega
            have hTL := HTL.out wr (HT2.out.trans' HT3.out)
            obtain ⟨g', o', e', d0, d1, d2, d3, d4⟩ := hTL.at m hmP
            obtain ⟨rfl, rfl⟩ : g = g' ∧ o = o' := by
              injection e' with e'; injection e' with e1 e2; exact ⟨e1, e2⟩
            obtain ⟨hm9, hml⟩ := HPL.out m hmP
            rw [hml] at d2
            obtain ⟨-, z2⟩ := HZ.out wr HT3.out
            obtain ⟨u, hu⟩ : ∃ u, u = L[m].nm := ⟨_, rfl⟩
            rw [← hu] at d2
            clear hTL d0 d1 d3 d4 e' hml
            by_cases he : u = x.nm
            · obtain ⟨rfl, rfl⟩ := HNO.out (fun hl => hl.nms m k hmL hkL (by omega) (by rw [← hu, he, HX.out]))
              have heq : (u.toList == x.nm.toList) = true := by rw [he]; simp
              clear HNO HYES he hu
              go_wp2_with fail
              go_quiet (fail)
              go_wp2_with fail
              go_ret2
              exact ⟨rfl, (HT2.out.trans' HT3.out).drewN _⟩
            · have HM2 : Hid (∀ i (hi : i < L.length), i < m + 1 → L[i].nm ≠ L[k].nm) := fun i hi him => by
                rcases Nat.lt_or_ge i m with h5 | h5
                · exact HM.out i hi h5
                · obtain rfl : i = m := by omega
                  rw [← hu, ← HX.out]; exact he
              have heq : (u.toList == x.nm.toList) = false := str_ne he
              clear he hu HM
              go_wp2_with fail
              go_quiet (fail)
              go_wp2_with fail
              go_roundw
              case rel => exact ⟨m + 1, by go_num, by omega, HM2, HT3.out.drewN _⟩
              case measure => simp [intOf]; omega
          · obtain rfl : m = k := by omega
            obtain ⟨z0, -⟩ := HZ.out wr HT3.out
            have HL2 : Hid (LK L next (m + 1)) := HLK.out.more hkL HR.out (by rw [← HX.out, ← HLA.out]; omega) (by rw [← HX.out]; omega) HM.out
            have HLS : Hid (lastK L (m + 1) = x.id) := by show _ = _; rw [lastK_succ hkL, HX.out]
            have HT4 : Hid (Tch (fun _ => False) w wr) := HT2.out.trans' HT3.out
            clear HM HT3 HZ
            go_wp2_with fail
            go_roundw
            case rel => exact ⟨_, m + 1, rfl, by rw [HLS.out], by go_num, by omega, HBB, by rw [size_app]; omega, HL2, HT4⟩
            case measure => simp [intOf]; omega
      · have q1 := rtable_no x co cc wr hcs hr
        obtain ⟨rfl, rfl⟩ := HNO.out (fun hl => hr (by rw [HX.out]; exact hl.right k hkL))
        clear hr hcs hck hp hpl hx hla hTL HS HNO HYES
        go_wp2_with fail
        refine q1.mono ?_
        rintro y w2 ⟨rfl, t2⟩
        clear q1 c0 c1 c2 c3 c4
        go_wp2_with fail
        go_ret2
        exact ⟨rfl, HT.out.trans' t2⟩
    · obtain rfl : k = n := by omega
      have HF : Hid (LDp L next) := by
        have := HLK.out
        rw [HN.out.2] at this
        exact this.full (by have := HN.out.2; omega)
      obtain ⟨rfl, HB⟩ := HYES.out HF.out
      have HSB : Hid (S = B) := by
        show S = B
        rw [HB]
        apply bB_of
        rw [HS.out, List.take_of_length_le]
        have := HN.out.2; omega
      clear HB HS HNO HYES HLK HF
      go_wp2_with fail
      go_ret2
      exact ⟨by rw [← HSB.out]; rfl, HT.out⟩
end Go.Proofs.YtjiblajnfnmjnaaGreatDoor.C
