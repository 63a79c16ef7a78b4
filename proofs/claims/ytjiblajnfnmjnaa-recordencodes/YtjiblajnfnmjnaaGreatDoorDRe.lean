import Derived.Test.YtjiblajnfnmjnaaGreatDoorDP1
import Derived.Test.YtjiblajnfnmjnaaGreatDoorCDel
import Derived.Test.YtjiblajnfnmjnaaGreatDoorDRl
import Derived.Test.YtjiblajnfnmjnaaGreatDoorDRs4
import Derived.Test.YtjiblajnfnmjnaaGreatDoorDRs8
set_option maxHeartbeats 40000000
set_option maxRecDepth 100000
namespace Go.Proofs.YtjiblajnfnmjnaaGreatDoor.C
open Go.RowKit
theorem cut_iff_9 (r : Rc) (s : Sk) (he : s.P.map Prod.fst = r.tbs) : r = cutC 9 r ↔ r.p = 0 ∧ r.o.length = 0 ∧ r.n.length = 0 ∧ r.nm.size = 0 ∧ r.org = 0 ∧ r.tb = tb0 ∧ s.P.length = 0 := by
  have hl : s.P.length = r.tbs.length := by rw [← he, List.length_map]
  obtain ⟨k, x, p, t, o, n, nm, org, tb, tbs⟩ := r
  simp only at hl
  rw [hl]
  simp only [cutC, rc0, Rc.mk.injEq, List.length_eq_zero_iff]
  have hz : nm = ⟨#[]⟩ ↔ nm.size = 0 := ⟨fun h => by rw [h]; rfl, emp_eq⟩
  rw [hz]
  constructor
  · rintro ⟨-, -, gp, -, go, gw, gn, gg, ga, gl⟩
    exact ⟨gp, go, gw, gn, gg, ga, gl⟩
  · rintro ⟨gp, go, gw, gn, gg, ga, gl⟩
    refine ⟨?_, ?_, ?_, ?_, ?_, ?_, ?_, ?_, ?_, ?_⟩ <;> first | trivial | rfl | assumption
theorem spare_9 (r : Rc) (s : Sk) (w : World) (he : s.P.map Prod.fst = r.tbs) : Calls Tryz.prog 46 #[rV r s, .string (wordC 9)] w fun x w' => EqT (¬ r = cutC 9 r) w x w' := by
  have HC : Hid (r = cutC 9 r ↔ r.p = 0 ∧ r.o.length = 0 ∧ r.n.length = 0 ∧ r.nm.size = 0 ∧ r.org = 0 ∧ r.tb = tb0 ∧ s.P.length = 0) := cut_iff_9 r s he
  obtain ⟨wd, hwd⟩ : ∃ wd, wd = wordC 9 := ⟨_, rfl⟩
  have Hx : Hid (∀ W, Calls Tryz.prog 75 #[.string wd, .int .u8 120] W fun x w' => x = .returned (.bool true) ∧ w' = W) := fun W => by rw [hwd]; exact has6 (wordC 9) (by decide) 120 (by decide) W
  have Hp : Hid (∀ W, Calls Tryz.prog 75 #[.string wd, .int .u8 112] W fun x w' => x = .returned (.bool false) ∧ w' = W) := fun W => by rw [hwd]; exact has6 (wordC 9) (by decide) 112 (by decide) W
  have Ht : Hid (∀ W, Calls Tryz.prog 75 #[.string wd, .int .u8 116] W fun x w' => x = .returned (.bool true) ∧ w' = W) := fun W => by rw [hwd]; exact has6 (wordC 9) (by decide) 116 (by decide) W
  have Ho : Hid (∀ W, Calls Tryz.prog 75 #[.string wd, .int .u8 111] W fun x w' => x = .returned (.bool false) ∧ w' = W) := fun W => by rw [hwd]; exact has6 (wordC 9) (by decide) 111 (by decide) W
  have Hw : Hid (∀ W, Calls Tryz.prog 75 #[.string wd, .int .u8 119] W fun x w' => x = .returned (.bool false) ∧ w' = W) := fun W => by rw [hwd]; exact has6 (wordC 9) (by decide) 119 (by decide) W
  have Hc : Hid (∀ W, Calls Tryz.prog 75 #[.string wd, .int .u8 99] W fun x w' => x = .returned (.bool false) ∧ w' = W) := fun W => by rw [hwd]; exact has6 (wordC 9) (by decide) 99 (by decide) W
  have Hm : Hid (∀ W, Calls Tryz.prog 75 #[.string wd, .int .u8 109] W fun x w' => x = .returned (.bool false) ∧ w' = W) := fun W => by rw [hwd]; exact has6 (wordC 9) (by decide) 109 (by decide) W
  have Ha : Hid (∀ W, Calls Tryz.prog 75 #[.string wd, .int .u8 97] W fun x w' => x = .returned (.bool false) ∧ w' = W) := fun W => by rw [hwd]; exact has6 (wordC 9) (by decide) 97 (by decide) W
  have Hl : Hid (∀ W, Calls Tryz.prog 75 #[.string wd, .int .u8 108] W fun x w' => x = .returned (.bool false) ∧ w' = W) := fun W => by rw [hwd]; exact has6 (wordC 9) (by decide) 108 (by decide) W
  rw [← hwd]
  have HB : Hid (∀ W, Calls Tryz.prog 76 #[tA r.tb.id r.tb.ver r.tb.nm (.slice s.co r.tb.cols.length s.cc) r.tb.key] W fun x w' => EqT (r.tb = tb0) W x w') := fun W => bare6 r.tb s.co s.cc W
  obtain ⟨no, eno⟩ : ∃ no : Nat, no = r.o.length := ⟨_, rfl⟩
  obtain ⟨nn, enn⟩ : ∃ nn : Nat, nn = r.n.length := ⟨_, rfl⟩
  obtain ⟨nt, ent⟩ : ∃ nt : Nat, nt = s.P.length := ⟨_, rfl⟩
  rw [rV, ← eno, ← enn, ← ent]
  rw [← eno, ← enn, ← ent] at HC
  have HC : Hid (r = cutC 9 r ↔ r.p = 0 ∧ no = 0 ∧ nn = 0 ∧ r.nm.size = 0 ∧ r.org = 0 ∧ r.tb = tb0 ∧ nt = 0) := HC
  have HK : Hid (∀ W, Tch (fun _ => False) (w.alloc (.cells #[.int .i64 r.k, .int .i64 r.x, .int .i64 r.p, .int .i64 r.t, .slice s.oo no s.oc, .slice s.no nn s.nc, .string r.nm, .int .i64 r.org, .int .i64 r.tb.id, .int .i64 r.tb.ver, .string r.tb.nm, .slice s.co r.tb.cols.length s.cc, .int .i64 r.tb.key, .slice s.to nt s.tc] 37)) W → W.heap[w.heap.size]? = some (.cells #[.int .i64 r.k, .int .i64 r.x, .int .i64 r.p, .int .i64 r.t, .slice s.oo no s.oc, .slice s.no nn s.nc, .string r.nm, .int .i64 r.org, .int .i64 r.tb.id, .int .i64 r.tb.ver, .string r.tb.nm, .slice s.co r.tb.cols.length s.cc, .int .i64 r.tb.key, .slice s.to nt s.tc] 37 (0, 0))) := fun W t => (t.block _ (by simp) (fun h => h)).trans (heap_new w _)
  clear hwd he eno enn ent
  go_enter Tryz.func46, Tryz.ntmps46
  go_wp2_with fail
  refine (Hx.out _).mono ?_
  rintro x w1 ⟨rfl, hw1⟩
  obtain rfl := hw1.symm
  clear hw1 Hx
  go_wp2_with fail
  refine (Hp.out _).mono ?_
  rintro x w1 ⟨rfl, hw1⟩
  obtain rfl := hw1.symm
  clear hw1 Hp
  go_wp2_with fail
  refine (Ht.out _).mono ?_
  rintro x w1 ⟨rfl, hw1⟩
  obtain rfl := hw1.symm
  clear hw1 Ht
  go_wp2_with fail
  refine (Ho.out _).mono ?_
  rintro x w1 ⟨rfl, hw1⟩
  obtain rfl := hw1.symm
  clear hw1 Ho
  go_wp2_with fail
  refine (Hw.out _).mono ?_
  rintro x w1 ⟨rfl, hw1⟩
  obtain rfl := hw1.symm
  clear hw1 Hw
  go_wp2_with fail
  refine (Hc.out _).mono ?_
  rintro x w1 ⟨rfl, hw1⟩
  obtain rfl := hw1.symm
  clear hw1 Hc
  go_wp2_with fail
  refine (Hm.out _).mono ?_
  rintro x w1 ⟨rfl, hw1⟩
  obtain rfl := hw1.symm
  clear hw1 Hm
  go_wp2_with fail
  refine (Ha.out _).mono ?_
  rintro x w1 ⟨rfl, hw1⟩
  obtain rfl := hw1.symm
  clear hw1 Ha
  go_wp2_with fail
  refine (Hl.out _).mono ?_
  rintro x w1 ⟨rfl, hw1⟩
  obtain rfl := hw1.symm
  clear hw1 Hl
  go_wp2_with fail
  refine (HB.out _).mono ?_
  rintro x w1 ⟨bt, rfl, hbt, t1⟩
  have HBT : Hid (bt = true ↔ r.tb = tb0) := hbt
  have T1 : Tch (fun _ => False) w w1 := (Tch.alloc _ _ _).trans' t1
  have HT1 : Hid (Tch (fun _ => False) w w1) := T1
  have b1 := HK.out w1 t1
  have y1 := blk_cell b1 1
  have y2 := blk_cell b1 2
  have y3 := blk_cell b1 3
  have y4 := blk_cell b1 4
  have y5 := blk_cell b1 5
  have y6 := blk_cell b1 6
  have y7 := blk_cell b1 7
  have y13 := blk_cell b1 13
  simp only [List.getElem?_toArray, List.getElem?_cons_succ, List.getElem?_cons_zero] at y1 y2 y3 y4 y5 y6 y7 y13
  clear b1 hbt t1 T1 HB HK
  go_simp
  iterate 8 (first | go_values | go_skip | go_guarded | go_step | go_upon | go_in | go_back)
  dsimp only [List.append]
  by_cases hp : r.p = 0
  rotate_left
  · have ep : (r.p != 0) = true := by simpa using hp
    have HN : Hid (¬ r.p = 0) := hp
    clear hp
    go_wp2
    go_ret
    exact ⟨true, rfl, ⟨fun _ => fun h => HN.out (HC.out.1 h).1, fun _ => rfl⟩, HT1.out⟩
  have ep : (r.p != 0) = false := by rw [hp]; rfl
  have Zp : Hid (r.p = 0) := hp
  clear hp
  by_cases ho : no = 0
  rotate_left
  · have eo : 0 < no := by omega
    have eo2 : (0 : Int) < (no : Int) := by omega
    have HN : Hid (¬ no = 0) := ho
    clear ho
    go_wp2
    go_ret
    exact ⟨true, rfl, ⟨fun _ => fun h => HN.out (HC.out.1 h).2.1, fun _ => rfl⟩, HT1.out⟩
  subst ho
  by_cases hw : nn = 0
  rotate_left
  · have ew : 0 < nn := by omega
    have ew2 : (0 : Int) < (nn : Int) := by omega
    have HN : Hid (¬ nn = 0) := hw
    clear hw
    go_wp2
    go_ret
    exact ⟨true, rfl, ⟨fun _ => fun h => HN.out (HC.out.1 h).2.2.1, fun _ => rfl⟩, HT1.out⟩
  subst hw
  by_cases hn : r.nm.size = 0
  rotate_left
  · have en : r.nm.toList.isEmpty = false := nonempty_of_size (r := r.nm) (by omega)
    have HN : Hid (¬ r.nm.size = 0) := hn
    clear hn
    go_wp2
    go_ret
    exact ⟨true, rfl, ⟨fun _ => fun h => HN.out (HC.out.1 h).2.2.2.1, fun _ => rfl⟩, HT1.out⟩
  have en : r.nm.toList.isEmpty = true := empty_of_size hn
  have Zn : Hid (r.nm.size = 0) := hn
  clear hn
  by_cases hg : r.org = 0
  rotate_left
  · have eg : (r.org != 0) = true := by simpa using hg
    have HN : Hid (¬ r.org = 0) := hg
    clear hg
    go_wp2
    go_ret
    exact ⟨true, rfl, ⟨fun _ => fun h => HN.out (HC.out.1 h).2.2.2.2.1, fun _ => rfl⟩, HT1.out⟩
  have eg : (r.org != 0) = false := by rw [hg]; rfl
  have Zg : Hid (r.org = 0) := hg
  clear hg
  cases bt
  · have HN : Hid (¬ r.tb = tb0) := fun h => by have := HBT.out.2 h; simp at this
    clear HBT
    go_wp2
    go_ret
    exact ⟨true, rfl, ⟨fun _ => fun h => HN.out (HC.out.1 h).2.2.2.2.2.1, fun _ => rfl⟩, HT1.out⟩
  have Za : Hid (r.tb = tb0) := HBT.out.1 (by first | rfl | trivial)
  clear HBT
  by_cases hl : nt = 0
  rotate_left
  · have el : 0 < nt := by omega
    have el2 : (0 : Int) < (nt : Int) := by omega
    have HN : Hid (¬ nt = 0) := hl
    clear hl
    go_wp2
    go_ret
    exact ⟨true, rfl, ⟨fun _ => fun h => HN.out (HC.out.1 h).2.2.2.2.2.2, fun _ => rfl⟩, HT1.out⟩
  subst hl
  go_wp2
  go_ret
  exact ⟨false, rfl, ⟨fun h => by simp at h, fun h => absurd (HC.out.2 ⟨Zp.out, by first | rfl | trivial, by first | rfl | trivial, Zn.out, Zg.out, Za.out, by first | rfl | trivial⟩) h⟩, HT1.out⟩
theorem cut_iff_10 (r : Rc) (s : Sk) (he : s.P.map Prod.fst = r.tbs) : r = cutC 10 r ↔ r.p = 0 ∧ r.o.length = 0 ∧ r.n.length = 0 ∧ r.nm.size = 0 ∧ r.org = 0 ∧ r.tb = tb0 := by
  have hl : s.P.length = r.tbs.length := by rw [← he, List.length_map]
  obtain ⟨k, x, p, t, o, n, nm, org, tb, tbs⟩ := r
  simp only at hl
  clear hl
  simp only [cutC, rc0, Rc.mk.injEq, List.length_eq_zero_iff]
  have hz : nm = ⟨#[]⟩ ↔ nm.size = 0 := ⟨fun h => by rw [h]; rfl, emp_eq⟩
  rw [hz]
  constructor
  · rintro ⟨-, -, gp, -, go, gw, gn, gg, ga, -⟩
    exact ⟨gp, go, gw, gn, gg, ga⟩
  · rintro ⟨gp, go, gw, gn, gg, ga⟩
    refine ⟨?_, ?_, ?_, ?_, ?_, ?_, ?_, ?_, ?_, ?_⟩ <;> first | trivial | rfl | assumption
theorem spare_10 (r : Rc) (s : Sk) (w : World) (he : s.P.map Prod.fst = r.tbs) : Calls Tryz.prog 46 #[rV r s, .string (wordC 10)] w fun x w' => EqT (¬ r = cutC 10 r) w x w' := by
  have HC : Hid (r = cutC 10 r ↔ r.p = 0 ∧ r.o.length = 0 ∧ r.n.length = 0 ∧ r.nm.size = 0 ∧ r.org = 0 ∧ r.tb = tb0) := cut_iff_10 r s he
  obtain ⟨wd, hwd⟩ : ∃ wd, wd = wordC 10 := ⟨_, rfl⟩
  have Hx : Hid (∀ W, Calls Tryz.prog 75 #[.string wd, .int .u8 120] W fun x w' => x = .returned (.bool false) ∧ w' = W) := fun W => by rw [hwd]; exact has6 (wordC 10) (by decide) 120 (by decide) W
  have Hn : Hid (∀ W, Calls Tryz.prog 75 #[.string wd, .int .u8 110] W fun x w' => x = .returned (.bool true) ∧ w' = W) := fun W => by rw [hwd]; exact has6 (wordC 10) (by decide) 110 (by decide) W
  have Hp : Hid (∀ W, Calls Tryz.prog 75 #[.string wd, .int .u8 112] W fun x w' => x = .returned (.bool false) ∧ w' = W) := fun W => by rw [hwd]; exact has6 (wordC 10) (by decide) 112 (by decide) W
  have Ht : Hid (∀ W, Calls Tryz.prog 75 #[.string wd, .int .u8 116] W fun x w' => x = .returned (.bool false) ∧ w' = W) := fun W => by rw [hwd]; exact has6 (wordC 10) (by decide) 116 (by decide) W
  have Hu : Hid (∀ W, Calls Tryz.prog 75 #[.string wd, .int .u8 117] W fun x w' => x = .returned (.bool true) ∧ w' = W) := fun W => by rw [hwd]; exact has6 (wordC 10) (by decide) 117 (by decide) W
  have Ho : Hid (∀ W, Calls Tryz.prog 75 #[.string wd, .int .u8 111] W fun x w' => x = .returned (.bool false) ∧ w' = W) := fun W => by rw [hwd]; exact has6 (wordC 10) (by decide) 111 (by decide) W
  have Hw : Hid (∀ W, Calls Tryz.prog 75 #[.string wd, .int .u8 119] W fun x w' => x = .returned (.bool false) ∧ w' = W) := fun W => by rw [hwd]; exact has6 (wordC 10) (by decide) 119 (by decide) W
  have Hc : Hid (∀ W, Calls Tryz.prog 75 #[.string wd, .int .u8 99] W fun x w' => x = .returned (.bool false) ∧ w' = W) := fun W => by rw [hwd]; exact has6 (wordC 10) (by decide) 99 (by decide) W
  have Hm : Hid (∀ W, Calls Tryz.prog 75 #[.string wd, .int .u8 109] W fun x w' => x = .returned (.bool false) ∧ w' = W) := fun W => by rw [hwd]; exact has6 (wordC 10) (by decide) 109 (by decide) W
  have Ha : Hid (∀ W, Calls Tryz.prog 75 #[.string wd, .int .u8 97] W fun x w' => x = .returned (.bool false) ∧ w' = W) := fun W => by rw [hwd]; exact has6 (wordC 10) (by decide) 97 (by decide) W
  have Hl : Hid (∀ W, Calls Tryz.prog 75 #[.string wd, .int .u8 108] W fun x w' => x = .returned (.bool true) ∧ w' = W) := fun W => by rw [hwd]; exact has6 (wordC 10) (by decide) 108 (by decide) W
  rw [← hwd]
  have HB : Hid (∀ W, Calls Tryz.prog 76 #[tA r.tb.id r.tb.ver r.tb.nm (.slice s.co r.tb.cols.length s.cc) r.tb.key] W fun x w' => EqT (r.tb = tb0) W x w') := fun W => bare6 r.tb s.co s.cc W
  obtain ⟨no, eno⟩ : ∃ no : Nat, no = r.o.length := ⟨_, rfl⟩
  obtain ⟨nn, enn⟩ : ∃ nn : Nat, nn = r.n.length := ⟨_, rfl⟩
  obtain ⟨nt, ent⟩ : ∃ nt : Nat, nt = s.P.length := ⟨_, rfl⟩
  rw [rV, ← eno, ← enn, ← ent]
  rw [← eno, ← enn] at HC
  have HC : Hid (r = cutC 10 r ↔ r.p = 0 ∧ no = 0 ∧ nn = 0 ∧ r.nm.size = 0 ∧ r.org = 0 ∧ r.tb = tb0) := HC
  have HK : Hid (∀ W, Tch (fun _ => False) (w.alloc (.cells #[.int .i64 r.k, .int .i64 r.x, .int .i64 r.p, .int .i64 r.t, .slice s.oo no s.oc, .slice s.no nn s.nc, .string r.nm, .int .i64 r.org, .int .i64 r.tb.id, .int .i64 r.tb.ver, .string r.tb.nm, .slice s.co r.tb.cols.length s.cc, .int .i64 r.tb.key, .slice s.to nt s.tc] 37)) W → W.heap[w.heap.size]? = some (.cells #[.int .i64 r.k, .int .i64 r.x, .int .i64 r.p, .int .i64 r.t, .slice s.oo no s.oc, .slice s.no nn s.nc, .string r.nm, .int .i64 r.org, .int .i64 r.tb.id, .int .i64 r.tb.ver, .string r.tb.nm, .slice s.co r.tb.cols.length s.cc, .int .i64 r.tb.key, .slice s.to nt s.tc] 37 (0, 0))) := fun W t => (t.block _ (by simp) (fun h => h)).trans (heap_new w _)
  clear hwd he eno enn ent
  go_enter Tryz.func46, Tryz.ntmps46
  go_wp2_with fail
  refine (Hx.out _).mono ?_
  rintro x w1 ⟨rfl, hw1⟩
  obtain rfl := hw1.symm
  clear hw1 Hx
  go_wp2_with fail
  refine (Hn.out _).mono ?_
  rintro x w1 ⟨rfl, hw1⟩
  obtain rfl := hw1.symm
  clear hw1 Hn
  go_wp2_with fail
  refine (Hp.out _).mono ?_
  rintro x w1 ⟨rfl, hw1⟩
  obtain rfl := hw1.symm
  clear hw1 Hp
  go_wp2_with fail
  refine (Ht.out _).mono ?_
  rintro x w1 ⟨rfl, hw1⟩
  obtain rfl := hw1.symm
  clear hw1 Ht
  go_wp2_with fail
  refine (Hu.out _).mono ?_
  rintro x w1 ⟨rfl, hw1⟩
  obtain rfl := hw1.symm
  clear hw1 Hu
  go_wp2_with fail
  refine (Ho.out _).mono ?_
  rintro x w1 ⟨rfl, hw1⟩
  obtain rfl := hw1.symm
  clear hw1 Ho
  go_wp2_with fail
  refine (Hw.out _).mono ?_
  rintro x w1 ⟨rfl, hw1⟩
  obtain rfl := hw1.symm
  clear hw1 Hw
  go_wp2_with fail
  refine (Hc.out _).mono ?_
  rintro x w1 ⟨rfl, hw1⟩
  obtain rfl := hw1.symm
  clear hw1 Hc
  go_wp2_with fail
  refine (Hm.out _).mono ?_
  rintro x w1 ⟨rfl, hw1⟩
  obtain rfl := hw1.symm
  clear hw1 Hm
  go_wp2_with fail
  refine (Ha.out _).mono ?_
  rintro x w1 ⟨rfl, hw1⟩
  obtain rfl := hw1.symm
  clear hw1 Ha
  go_wp2_with fail
  refine (Hl.out _).mono ?_
  rintro x w1 ⟨rfl, hw1⟩
  obtain rfl := hw1.symm
  clear hw1 Hl
  go_wp2_with fail
  refine (HB.out _).mono ?_
  rintro x w1 ⟨bt, rfl, hbt, t1⟩
  have HBT : Hid (bt = true ↔ r.tb = tb0) := hbt
  have T1 : Tch (fun _ => False) w w1 := (Tch.alloc _ _ _).trans' t1
  have HT1 : Hid (Tch (fun _ => False) w w1) := T1
  have b1 := HK.out w1 t1
  have y1 := blk_cell b1 1
  have y2 := blk_cell b1 2
  have y3 := blk_cell b1 3
  have y4 := blk_cell b1 4
  have y5 := blk_cell b1 5
  have y6 := blk_cell b1 6
  have y7 := blk_cell b1 7
  have y13 := blk_cell b1 13
  simp only [List.getElem?_toArray, List.getElem?_cons_succ, List.getElem?_cons_zero] at y1 y2 y3 y4 y5 y6 y7 y13
  clear b1 hbt t1 T1 HB HK
  go_simp
  iterate 8 (first | go_values | go_skip | go_guarded | go_step | go_upon | go_in | go_back)
  dsimp only [List.append]
  by_cases hp : r.p = 0
  rotate_left
  · have ep : (r.p != 0) = true := by simpa using hp
    have HN : Hid (¬ r.p = 0) := hp
    clear hp
    go_wp2
    go_ret
    exact ⟨true, rfl, ⟨fun _ => fun h => HN.out (HC.out.1 h).1, fun _ => rfl⟩, HT1.out⟩
  have ep : (r.p != 0) = false := by rw [hp]; rfl
  have Zp : Hid (r.p = 0) := hp
  clear hp
  by_cases ho : no = 0
  rotate_left
  · have eo : 0 < no := by omega
    have eo2 : (0 : Int) < (no : Int) := by omega
    have HN : Hid (¬ no = 0) := ho
    clear ho
    go_wp2
    go_ret
    exact ⟨true, rfl, ⟨fun _ => fun h => HN.out (HC.out.1 h).2.1, fun _ => rfl⟩, HT1.out⟩
  subst ho
  by_cases hw : nn = 0
  rotate_left
  · have ew : 0 < nn := by omega
    have ew2 : (0 : Int) < (nn : Int) := by omega
    have HN : Hid (¬ nn = 0) := hw
    clear hw
    go_wp2
    go_ret
    exact ⟨true, rfl, ⟨fun _ => fun h => HN.out (HC.out.1 h).2.2.1, fun _ => rfl⟩, HT1.out⟩
  subst hw
  by_cases hn : r.nm.size = 0
  rotate_left
  · have en : r.nm.toList.isEmpty = false := nonempty_of_size (r := r.nm) (by omega)
    have HN : Hid (¬ r.nm.size = 0) := hn
    clear hn
    go_wp2
    go_ret
    exact ⟨true, rfl, ⟨fun _ => fun h => HN.out (HC.out.1 h).2.2.2.1, fun _ => rfl⟩, HT1.out⟩
  have en : r.nm.toList.isEmpty = true := empty_of_size hn
  have Zn : Hid (r.nm.size = 0) := hn
  clear hn
  by_cases hg : r.org = 0
  rotate_left
  · have eg : (r.org != 0) = true := by simpa using hg
    have HN : Hid (¬ r.org = 0) := hg
    clear hg
    go_wp2
    go_ret
    exact ⟨true, rfl, ⟨fun _ => fun h => HN.out (HC.out.1 h).2.2.2.2.1, fun _ => rfl⟩, HT1.out⟩
  have eg : (r.org != 0) = false := by rw [hg]; rfl
  have Zg : Hid (r.org = 0) := hg
  clear hg
  cases bt
  · have HN : Hid (¬ r.tb = tb0) := fun h => by have := HBT.out.2 h; simp at this
    clear HBT
    go_wp2
    go_ret
    exact ⟨true, rfl, ⟨fun _ => fun h => HN.out (HC.out.1 h).2.2.2.2.2, fun _ => rfl⟩, HT1.out⟩
  have Za : Hid (r.tb = tb0) := HBT.out.1 (by first | rfl | trivial)
  clear HBT
  go_wp2
  go_ret
  exact ⟨false, rfl, ⟨fun h => by simp at h, fun h => absurd (HC.out.2 ⟨Zp.out, by first | rfl | trivial, by first | rfl | trivial, Zn.out, Zg.out, Za.out⟩) h⟩, HT1.out⟩
end Go.Proofs.YtjiblajnfnmjnaaGreatDoor.C
namespace Go.Proofs.YtjiblajnfnmjnaaGreatDoor.C
open Go.RowKit Go Go.Sort
structure RI (r : Rc) : Prop where
  x : -9223372036854775808 ≤ r.x ∧ r.x ≤ 9223372036854775807
  p : -9223372036854775808 ≤ r.p ∧ r.p ≤ 9223372036854775807
  t : -9223372036854775808 ≤ r.t ∧ r.t ≤ 9223372036854775807
  nm : r.nm.size ≤ 140737488351232
theorem spare_any (c : Nat) (h1 : 1 ≤ c) (h2 : c ≤ 10) (r : Rc) (s : Sk) (w : World) (he : s.P.map Prod.fst = r.tbs) : Calls Tryz.prog 46 #[rV r s, .string (wordC c)] w fun x w' => EqT (¬ r = cutC c r) w x w' := by
  have hc0 : c = 1 ∨ c = 2 ∨ c = 3 ∨ c = 4 ∨ c = 5 ∨ c = 6 ∨ c = 7 ∨ c = 8 ∨ c = 9 ∨ c = 10 := by omega
  rcases hc0 with rfl | rfl | rfl | rfl | rfl | rfl | rfl | rfl | rfl | rfl
  · exact spare_1 r s w he
  · exact spare_2 r s w he
  · exact spare_3 r s w he
  · exact spare_4 r s w he
  · exact spare_5 r s w he
  · exact spare_6 r s w he
  · exact spare_7 r s w he
  · exact spare_8 r s w he
  · exact spare_9 r s w he
  · exact spare_10 r s w he
theorem field_l (r : Rc) (s : Sk) (F : Nat → Prop) (w : World) (h : RW w F r s) (d : Bool) (hd : d = true ↔ okF r 108) : Calls Tryz.prog 47 #[rV r s, .int .u8 108] w fun x w' => x = .returned (.tuple #[.string (fldB r 108), .bool d]) ∧ Tch (fun _ => False) w w' := by
  have HQ1 : Hid (∀ W, Tch (fun _ => False) w W → Calls Tryz.prog 84 #[.slice s.to s.P.length s.tc, .int .i64 r.t] W fun x w' => x = .returned (.tuple #[.string (fldB r 108), .bool d]) ∧ Tch (fun _ => False) W w') := fun W t => by
    have := rtables6 s.P s.to s.tc F r.t W (h.tbs.no t) d (by rw [h.eq]; exact hd)
    rw [h.eq] at this
    exact this
  obtain ⟨b, hb⟩ : ∃ b, b = fldB r 108 := ⟨_, rfl⟩
  rw [← hb] at HQ1 ⊢
  clear hd h hb
  go_enter Tryz.func47, Tryz.ntmps47
  go_wp2_with fail
  refine (HQ1.out _ (Tch.alloc _ _ _)).mono ?_
  rintro x w1 ⟨rfl, t1⟩
  go_wp2_with fail
  go_ret2
  exact ⟨rfl, (Tch.alloc _ _ _).trans' t1⟩
theorem field_any (r : Rc) (s : Sk) (F : Nat → Prop) (w : World) (hi : RI r) (h : RW w F r s) (c : Nat) (h1 : 1 ≤ c) (h2 : c ≤ 10) (x : Nat) (hx : x ∈ wordN c) (d : Bool) (hd : d = true ↔ okF r x) : Calls Tryz.prog 47 #[rV r s, .int .u8 (x : Int)] w fun y w' => y = .returned (.tuple #[.string (fldB r x), .bool d]) ∧ Tch (fun _ => False) w w' := by
  have hl : x = 120 ∨ x = 110 ∨ x = 112 ∨ x = 116 ∨ x = 117 ∨ x = 111 ∨ x = 119 ∨ x = 99 ∨ x = 109 ∨ x = 97 ∨ x = 108 := by
    have hc0 : c = 1 ∨ c = 2 ∨ c = 3 ∨ c = 4 ∨ c = 5 ∨ c = 6 ∨ c = 7 ∨ c = 8 ∨ c = 9 ∨ c = 10 := by omega
    rcases hc0 with rfl | rfl | rfl | rfl | rfl | rfl | rfl | rfl | rfl | rfl
    all_goals
      simp [wordN, wordC, bl] at hx
      omega
  rcases hl with rfl | rfl | rfl | rfl | rfl | rfl | rfl | rfl | rfl | rfl | rfl
  · exact field_x r s w hi.x d hd
  · exact field_n r s w hi.x d hd
  · exact field_p r s w hi.p d hd
  · exact field_t r s w hi.t d hd
  · exact field_u r s w hi.t d hd
  · exact field_o r s F w h d hd
  · exact field_w r s F w h d hd
  · exact field_c r s w d hd
  · exact field_m r s w hi.nm d hd
  · exact field_a r s F w h d hd
  · exact field_l r s F w h d hd
theorem renc_0 (r : Rc) (s : Sk) (w : World) (hk : cls r.k = 0) : Calls Tryz.prog 18 #[rV r s] w fun x w' => x = .returned (.tuple #[.string ⟨#[]⟩, .int .i64 60]) ∧ Tch (fun _ => False) w w' := by
  have q := fun W => rfields_any r.k W
  rw [hk] at q
  have HQ : Hid (∀ W, Calls Tryz.prog 44 #[.int .i64 r.k] W fun x w' => x = .returned (.string ⟨#[]⟩) ∧ w' = W) := q
  clear q hk
  go_enter Tryz.func18, Tryz.ntmps18
  go_wp2_with fail
  refine (HQ.out _).mono ?_
  rintro x w1 ⟨rfl, hw1⟩
  obtain rfl := hw1.symm
  clear hw1
  go_wp2_with fail
  go_ret2
  exact ⟨rfl, Tch.alloc _ _ _⟩
theorem renc_c (r : Rc) (s : Sk) (F : Nat → Prop) (w : World) (hi : RI r) (h : RW w F r s) (c : Nat) (hcc : cls r.k = c) (h1 : 1 ≤ c) (h2 : c ≤ 10) (B : ByteArray) (E : Int) (hy : RR r → B = bB (recL r) ∧ E = 0) (hn : ¬ RR r → B = ⟨#[]⟩ ∧ E = 61) : Calls Tryz.prog 18 #[rV r s] w fun x w' => x = .returned (.tuple #[.string B, .int .i64 E]) ∧ Tch (fun _ => False) w w' := by
  classical
  have hk15 : 1 ≤ r.k ∧ r.k ≤ 15 := by
    rcases cls_rng r.k with h0 | h0
    · omega
    · exact ⟨h0.1, h0.2.1⟩
  have q1 := fun W => rfields_any r.k W
  rw [hcc] at q1
  have HQ2 : Hid (∀ W, Calls Tryz.prog 45 #[.int .i64 r.k] W fun x w' => x = .returned (.string (bB (bytesL [r.k]))) ∧ Tch (fun _ => False) W w') := fun W => rnum_ok r.k (by omega) (by omega) W
  have HQ3 : Hid (∀ W, Calls Tryz.prog 46 #[rV r s, .string (wordC c)] W fun x w' => EqT (¬ r = cutC c r) W x w') := fun W => spare_any c h1 h2 r s W h.eq
  have HQ4 : Hid (∀ W, Tch (fun _ => False) w W → ∀ x ∈ wordN c, Calls Tryz.prog 47 #[rV r s, .int .u8 (x : Int)] W fun y w' => y = .returned (.tuple #[.string (fldB r x), .bool (decide (okF r x))]) ∧ Tch (fun _ => False) W w') := fun W t x hx => field_any r s F W hi (h.no t) c h1 h2 x hx _ decide_eq_true_iff
  have HRR : Hid (RR r ↔ (∀ x ∈ wordN c, okF r x) ∧ r = cutC c r) := by
    show RR r ↔ _
    unfold RR
    rw [hcc, right_word r c h1 h2]
  have HRL : Hid (recL r = bytesL [r.k] ++ (wordN c).flatMap (fldL r)) := by
    show _ = _
    rw [body_word r c h1 h2]; unfold recL; rw [hcc]; rfl
  obtain ⟨wd, hwd⟩ : ∃ wd, wd = wordC c := ⟨_, rfl⟩
  have hws : 1 ≤ wd.size ∧ wd.size ≤ 4 := by
    rw [hwd]
    have hc0 : c = 1 ∨ c = 2 ∨ c = 3 ∨ c = 4 ∨ c = 5 ∨ c = 6 ∨ c = 7 ∨ c = 8 ∨ c = 9 ∨ c = 10 := by omega
    rcases hc0 with rfl | rfl | rfl | rfl | rfl | rfl | rfl | rfl | rfl | rfl <;> exact ⟨by decide, by decide⟩
  have hwe : wd.toList.isEmpty = false := nonempty_of_size (r := wd) (by omega)
  have HWN : Hid (∀ k (hk : k < wd.size), ∃ hk' : k < (wordN c).length, (wordN c)[k] = wd[k].toNat) := fun k hk => by
    have hl : (wordN c).length = wd.size := by unfold wordN; rw [List.length_map, bl_size, hwd]
    refine ⟨by omega, ?_⟩
    unfold wordN
    rw [List.getElem_map]
    subst hwd
    rfl
  have HWL : Hid ((wordN c).length = wd.size) := by show _ = _; unfold wordN; rw [List.length_map, bl_size, hwd]
  rw [← hwd] at q1 HQ3
  have HY : Hid _ := hy
  have HNO : Hid _ := hn
  have HK15 : Hid (1 ≤ r.k ∧ r.k ≤ 15) := hk15
  have HQ1 : Hid _ := q1
  obtain ⟨w0, hw0⟩ : ∃ w0, w0 = w.alloc (.cells #[.int .i64 r.k, .int .i64 r.x, .int .i64 r.p, .int .i64 r.t, .slice s.oo r.o.length s.oc, .slice s.no r.n.length s.nc, .string r.nm, .int .i64 r.org, .int .i64 r.tb.id, .int .i64 r.tb.ver, .string r.tb.nm, .slice s.co r.tb.cols.length s.cc, .int .i64 r.tb.key, .slice s.to s.P.length s.tc] 37) := ⟨_, rfl⟩
  have b0 : w0.heap[w.heap.size]? = some (.cells #[.int .i64 r.k, .int .i64 r.x, .int .i64 r.p, .int .i64 r.t, .slice s.oo r.o.length s.oc, .slice s.no r.n.length s.nc, .string r.nm, .int .i64 r.org, .int .i64 r.tb.id, .int .i64 r.tb.ver, .string r.tb.nm, .slice s.co r.tb.cols.length s.cc, .int .i64 r.tb.key, .slice s.to s.P.length s.tc] 37 (0, 0)) := by rw [hw0]; exact heap_new w _
  have HT0 : Hid (Tch (fun _ => False) w w0) := by show Tch _ _ _; rw [hw0]; exact Tch.alloc _ _ _
  have HK : Hid (∀ W, Tch (fun _ => False) w0 W → W.heap[w.heap.size]? = some (.cells #[.int .i64 r.k, .int .i64 r.x, .int .i64 r.p, .int .i64 r.t, .slice s.oo r.o.length s.oc, .slice s.no r.n.length s.nc, .string r.nm, .int .i64 r.org, .int .i64 r.tb.id, .int .i64 r.tb.ver, .string r.tb.nm, .slice s.co r.tb.cols.length s.cc, .int .i64 r.tb.key, .slice s.to s.P.length s.tc] 37 (0, 0))) := fun W t => (t.block _ (blk_lt b0) (fun h => h)).trans b0
  have HW0 : Hid (w0 = w.alloc (.cells #[.int .i64 r.k, .int .i64 r.x, .int .i64 r.p, .int .i64 r.t, .slice s.oo r.o.length s.oc, .slice s.no r.n.length s.nc, .string r.nm, .int .i64 r.org, .int .i64 r.tb.id, .int .i64 r.tb.ver, .string r.tb.nm, .slice s.co r.tb.cols.length s.cc, .int .i64 r.tb.key, .slice s.to s.P.length s.tc] 37)) := hw0
  have q1 := HQ1.out w0
  rw [hw0] at q1
  clear hy hn hk15 hwd b0 hw0 hcc h hi HQ1 h1 h2
  go_enter Tryz.func18, Tryz.ntmps18
  go_wp2_with fail
  refine q1.mono ?_
  rintro x w1 ⟨rfl, hw1⟩
  obtain rfl := hw1.symm
  clear hw1 q1
  go_wp2_with fail
  rw [← HW0.out]
  refine (HQ2.out _).mono ?_
  rintro x w2 ⟨rfl, t2⟩
  obtain ⟨NM, hNM⟩ : ∃ NM, NM = bB (bytesL [r.k]) := ⟨_, rfl⟩
  rw [← hNM]
  have HNM : Hid (bl NM = bytesL [r.k] ∧ NM.size = 1) := ⟨by rw [hNM, bl_bB], by rw [hNM, size_bB]; rfl⟩
  have b2 := HK.out w2 t2
  have y0 := blk_cell b2 0
  have y1 := blk_cell b2 1
  have y2 := blk_cell b2 2
  have y3 := blk_cell b2 3
  have y4 := blk_cell b2 4
  have y5 := blk_cell b2 5
  have y6 := blk_cell b2 6
  have y7 := blk_cell b2 7
  have y8 := blk_cell b2 8
  have y9 := blk_cell b2 9
  have y10 := blk_cell b2 10
  have y11 := blk_cell b2 11
  have y12 := blk_cell b2 12
  have y13 := blk_cell b2 13
  simp only [List.getElem?_toArray, List.getElem?_cons_succ, List.getElem?_cons_zero] at y0 y1 y2 y3 y4 y5 y6 y7 y8 y9 y10 y11 y12 y13
  clear b2 hNM HQ2
  go_wp2_with fail
  refine (HQ3.out _).mono ?_
  rintro x w3 ⟨bad, rfl, hbad, t3⟩
  have HBAD : Hid (bad = true ↔ ¬ r = cutC c r) := hbad
  have HT3 : Hid (Tch (fun _ => False) w0 w3) := t2.trans' t3
  clear y0 y1 y2 y3 y4 y5 y6 y7 y8 y9 y10 y11 y12 y13 hbad t2 t3 HQ3
  cases bad
  · have HCUT : Hid (r = cutC c r) := Classical.byContradiction fun h => by have := HBAD.out.2 h; simp at this
    clear HBAD
    go_wp2_with fail
    go_loopw [5, 7] (fun v i wr => ∃ (S : ByteArray) (k : Nat), v = .string S ∧ i = .int .i64 k ∧ k ≤ wd.size ∧ Hid (bl S = bytesL [r.k] ++ ((wordN c).take k).flatMap (fldL r)) ∧ S.size ≤ 1 + 10000 * k ∧ Hid (∀ y ∈ (wordN c).take k, okF r y) ∧ Hid (Tch (fun _ => False) w0 wr)) (fun _ i _ => wd.size - (intOf i).toNat)
    case atStart => exact ⟨NM, 0, rfl, rfl, Nat.zero_le _, by show bl NM = _; rw [HNM.out.1]; simp, by rw [HNM.out.2]; omega, fun y hy => by simp at hy, HT3⟩
    case round =>
      obtain ⟨S, k, rfl, rfl, hk, HS, hsz, HOK, HT⟩ := hrel
      clear HNM HT3
      by_cases hlt : k < wd.size
      · have hlt' : (k : Int) < wd.size := by omega
        obtain ⟨hkn, hkw⟩ := HWN.out k hlt
        obtain ⟨lt, hlet⟩ : ∃ lt, lt = (wordN c)[k] := ⟨_, rfl⟩
        have HMEM : Hid (lt ∈ wordN c) := by show lt ∈ _; rw [hlet]; exact List.getElem_mem hkn
        have HTK : Hid ((wordN c).take (k + 1) = (wordN c).take k ++ [lt]) := by show _ = _; rw [hlet]; exact (List.take_append_getElem hkn).symm
        rw [← hlet] at hkw
        have q4 := fun W (t : Tch (fun _ => False) wr W) => HQ4.out W ((HT0.out.trans' HT.out).trans' t) lt HMEM.out
        obtain ⟨ok, hok⟩ : ∃ ok, ok = decide (okF r lt) := ⟨_, rfl⟩
        obtain ⟨fb, hfb⟩ : ∃ fb, fb = fldB r lt := ⟨_, rfl⟩
        rw [← hok, ← hfb] at q4
        rw [hkw] at q4
        have HF : Hid (ok = true → fb = bB (fldL r lt) ∧ okF r lt ∧ fb.size ≤ 10000) := fun h => by
          rw [hok, decide_eq_true_iff] at h
          rw [hfb, fldB_ok h, size_bB]
          exact ⟨rfl, h, fldL_len h⟩
        have HFN : Hid (ok = false → ¬ okF r lt) := fun h => by
          rw [hok, decide_eq_false_iff_not] at h
          exact h
        have b2 := HK.out wr HT.out
        have y0 := blk_cell b2 0
        have y1 := blk_cell b2 1
        have y2 := blk_cell b2 2
        have y3 := blk_cell b2 3
        have y4 := blk_cell b2 4
        have y5 := blk_cell b2 5
        have y6 := blk_cell b2 6
        have y7 := blk_cell b2 7
        have y8 := blk_cell b2 8
        have y9 := blk_cell b2 9
        have y10 := blk_cell b2 10
        have y11 := blk_cell b2 11
        have y12 := blk_cell b2 12
        have y13 := blk_cell b2 13
        simp only [List.getElem?_toArray, List.getElem?_cons_succ, List.getElem?_cons_zero] at y0 y1 y2 y3 y4 y5 y6 y7 y8 y9 y10 y11 y12 y13
        have k0 := cell_regrown y0
        have k1 := cell_regrown y1
        have k2 := cell_regrown y2
        have k3 := cell_regrown y3
        have k4 := cell_regrown y4
        have k5 := cell_regrown y5
        have k6 := cell_regrown y6
        have k7 := cell_regrown y7
        have k8 := cell_regrown y8
        have k9 := cell_regrown y9
        have k10 := cell_regrown y10
        have k11 := cell_regrown y11
        have k12 := cell_regrown y12
        have k13 := cell_regrown y13
        have c1 := fun (dd : Nat) (os : Array Obj) => regrown_calls (w := wr) (fun W t => q4 W t) dd os
        clear b2 q4 hok hfb hkw hlet
        go_wp2_with fail
        refine wp_region_quiet_below (by kernel_rfl) (by kernel_rfl) ?_
        repeat (quiet_step ((go_at_call 47; exact c1 _ _)))
        refine wpQuiet_nil ?_
        rintro w4 ⟨p, rfl⟩
        have HT4 : Hid (Tch (fun _ => False) w0 (grow (redrawn wr p.d) p.os)) := HT.out.trans' (Tch.regrown wr p.d p.os)
        obtain ⟨W4, hW4⟩ : ∃ W4, W4 = grow (redrawn wr p.d) p.os := ⟨_, rfl⟩
        rw [← hW4] at HT4 ⊢
        clear hW4 y0 y1 y2 y3 y4 y5 y6 y7 y8 y9 y10 y11 y12 y13 k0 k1 k2 k3 k4 k5 k6 k7 k8 k9 k10 k11 k12 k13 c1
        cases ok
        · obtain ⟨rfl, rfl⟩ := HNO.out (fun hr => HFN.out rfl ((HRR.out.1 hr).1 _ HMEM.out))
          clear HNO HY HF HFN
          go_wp2_with fail
          go_ret2
          exact ⟨rfl, HT0.out.trans' HT4.out⟩
        · obtain ⟨f1, f2, f3⟩ := HF.out rfl
          have HF1 : Hid (fb = bB (fldL r lt)) := f1
          have HF2 : Hid (okF r lt) := f2
          have HSB : Hid (bl (S ++ fb) = bytesL [r.k] ++ ((wordN c).take (k + 1)).flatMap (fldL r)) := by
            show bl _ = _
            rw [bl_app, HS.out, HF1.out, bl_bB, HTK.out, List.flatMap_append, List.append_assoc]
            simp
          have HOK2 : Hid (∀ y ∈ (wordN c).take (k + 1), okF r y) := fun y hy => by
            rw [HTK.out] at hy
            rcases List.mem_append.1 hy with hy | hy
            · exact HOK.out y hy
            · rw [List.mem_singleton.1 hy]; exact HF2.out
          clear f1 f2 HF HFN HS HOK HF1 HF2
          go_wp2_with fail
          go_roundw
          case rel => exact ⟨_, k + 1, rfl, by go_num, by omega, HSB, by rw [size_app]; omega, HOK2, HT4⟩
          case measure => simp [intOf]; omega
      · have hlt' : ¬ (k : Int) < wd.size := by omega
        have HR : Hid (RR r) := HRR.out.2 ⟨fun x hx => by
          refine HOK.out x ?_
          rw [List.take_of_length_le (by have := HWL.out; omega)]
          exact hx, HCUT.out⟩
        obtain ⟨HB, rfl⟩ := HY.out HR.out
        have HSB : Hid (S = B) := by
          show S = B
          rw [HB, HRL.out]
          apply bB_of
          rw [HS.out, List.take_of_length_le]
          have := HWL.out; omega
        clear HB HS HOK HNO HY
        go_wp2_with fail
        go_ret2
        exact ⟨by rw [← HSB.out]; rfl, HT0.out.trans' HT.out⟩
  · obtain ⟨rfl, rfl⟩ := HNO.out (fun hr => HBAD.out.1 rfl (HRR.out.1 hr).2)
    clear HNO HY
    go_wp2_with fail
    go_ret2
    exact ⟨rfl, HT0.out.trans' HT3.out⟩
theorem renc_ok (r : Rc) (s : Sk) (F : Nat → Prop) (w : World) (hi : RI r) (h : RW w F r s) (hr : RR r) : Calls Tryz.prog 18 #[rV r s] w fun x w' => x = .returned (.tuple #[.string (bB (recL r)), .int .i64 0]) ∧ Tch (fun _ => False) w w' := by
  rcases cls_rng r.k with h0 | ⟨_, _, h1, h2⟩
  · have := hr.1; rw [h0] at this; exact this.elim
  · exact renc_c r s F w hi h _ rfl h1 h2 _ _ (fun _ => ⟨rfl, rfl⟩) (fun hn => absurd hr hn)
theorem renc_no (r : Rc) (s : Sk) (F : Nat → Prop) (w : World) (hi : RI r) (h : RW w F r s) (hr : ¬ RR r) : Calls Tryz.prog 18 #[rV r s] w fun x w' => x = .returned (.tuple #[.string ⟨#[]⟩, .int .i64 (errR r)]) ∧ Tch (fun _ => False) w w' := by
  unfold errR
  rcases cls_rng r.k with h0 | ⟨_, _, h1, h2⟩
  · rw [if_pos h0]; exact renc_0 r s w h0
  · rw [if_neg (by omega)]
    exact renc_c r s F w hi h _ rfl h1 h2 _ _ (fun hn => absurd hn hr) (fun _ => ⟨rfl, rfl⟩)
end Go.Proofs.YtjiblajnfnmjnaaGreatDoor.C
