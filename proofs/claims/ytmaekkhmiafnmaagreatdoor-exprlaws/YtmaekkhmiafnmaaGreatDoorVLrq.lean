import Derived.Test.YtmaekkhmiafnmaaGreatDoorVLgI
import Derived.Test.YtmaekkhmiafnmaaGreatDoorVRights
import Derived.Test.YtmaekkhmiafnmaaGreatDoorOrdv
set_option maxHeartbeats 4000000
set_option maxRecDepth 100000
namespace Go.Proofs.YtmaekkhmiafnmaaGreatDoor
open Go.RowKit Go
theorem guess_empty (s : ByteArray) (hs : s.size ≤ 1048576) (hne : noW s) (h0 : s.size = 0) (w : World) (hw : HWd w) (hv : HV w) :
    Calls Tryz.prog 150 #[.string s] w fun x w' => (∃ n, x = .returned (vA 1 n ⟨#[]⟩) ∧ i64v n ∧ ∀ m, Lib.atoiAll s.data.toList = .ok m → n = m) ∧ Tch (fun _ => False) w w' := by
  have HFin : Hid (∀ W, Tch (fun _ => False) (w.alloc (.cells #[.int .i64 0, .int .i64 0, .string ⟨#[]⟩] 29)) W → ∀ (k n : Int) (s : ByteArray) (W2 : World), Tch (fun _ => False) (((W.setCell ⟨w.heap.size, 0, none⟩ (.int .i64 k)).setCell ⟨w.heap.size, 1, none⟩ (.int .i64 n)).setCell ⟨w.heap.size, 2, none⟩ (.string s)) W2 →
      (∀ tmps : Array Value, tmps[2]?.getD undef = .pointer (some ⟨w.heap.size, 0, none⟩) → (results Tryz.f150 tmps).run Tryz.prog W2 = .ok (vA k n s) W2) ∧ Tch (fun _ => False) w W2) := fun W t k n s W2 t2 => by
    obtain ⟨c0, c1, c2⟩ := box_tch t
    obtain ⟨d0, d1, d2⟩ := box_set W w.heap.size _ _ _ (.int .i64 k) (.int .i64 n) (.string s) c0 c1 c2
    have tw : Tch (fun _ => False) w (((W.setCell ⟨w.heap.size, 0, none⟩ (.int .i64 k)).setCell ⟨w.heap.size, 1, none⟩ (.int .i64 n)).setCell ⟨w.heap.size, 2, none⟩ (.string s)) := (((Tch.alloc (fun _ => False) w _).trans' t).trans (box_set_tch W w.heap.size _ _ _) (fun i hi he => by omega))
    have key : ∀ (p : Addr) v, (((W.setCell ⟨w.heap.size, 0, none⟩ (.int .i64 k)).setCell ⟨w.heap.size, 1, none⟩ (.int .i64 n)).setCell ⟨w.heap.size, 2, none⟩ (.string s)).cell? p = some v → W2.cell? p = some v := fun p v h => (t2.cell (p := p) (cell_lt h) (fun h => h)).trans h
    exact ⟨fun tmps h2 => guess_res tmps _ w.heap.size k n s (key _ _ d0) (key _ _ d1) (key _ _ d2) h2, tw.trans' t2⟩
  have HBx : Hid (∀ W, Tch (fun _ => False) (w.alloc (.cells #[.int .i64 0, .int .i64 0, .string ⟨#[]⟩] 29)) W → (W.cell? ⟨w.heap.size, 0, none⟩ = some (.int .i64 0) ∧ W.cell? ⟨w.heap.size, 1, none⟩ = some (.int .i64 0) ∧ W.cell? ⟨w.heap.size, 2, none⟩ = some (.string ⟨#[]⟩)) ∧ W.frozen? ⟨w.heap.size, 0, none⟩ = false ∧ W.frozen? ⟨w.heap.size, 1, none⟩ = false ∧ W.frozen? ⟨w.heap.size, 2, none⟩ = false) := fun W t =>
    ⟨box_tch t, (t.frozen (p := ⟨_, _, none⟩) (by simp) (fun h => h)).trans (by simp), (t.frozen (p := ⟨_, _, none⟩) (by simp) (fun h => h)).trans (by simp), (t.frozen (p := ⟨_, _, none⟩) (by simp) (fun h => h)).trans (by simp)⟩
  have hl := hw.lt
  have w0 := hw 0 _ rfl; have w1 := hw 1 _ rfl; have w2 := hw 2 _ rfl; have w3 := hw 3 _ rfl; have w4 := hw 4 _ rfl; have w5 := hw 5 _ rfl
  have w6 := hw 6 _ rfl; have w7 := hw 7 _ rfl; have w8 := hw 8 _ rfl; have w9 := hw 9 _ rfl; have w10 := hw 10 _ rfl; have w11 := hw 11 _ rfl
  have n0 : (s.toList == [110, 117, 108, 108]) = false := by
    have h := str_ne hne.1
    rw [ByteArray.toList_eq ⟨#[110, 117, 108, 108]⟩] at h
    exact h
  have n1 : (s.toList == [102, 97, 108, 115, 101]) = false := by
    have h := str_ne hne.2.1
    rw [ByteArray.toList_eq ⟨#[102, 97, 108, 115, 101]⟩] at h
    exact h
  have n2 : (s.toList == [116, 114, 117, 101]) = false := by
    have h := str_ne hne.2.2
    rw [ByteArray.toList_eq ⟨#[116, 114, 117, 101]⟩] at h
    exact h
  have hem := empty_of_size h0
  clear h0
  have HQ : Hid (∀ W, Tch (fun _ => False) w W → Calls Tryz.prog 176 #[.string s] W fun x w' => (∃ n ev, x = .returned (.tuple #[.int .i64 n, ev]) ∧ (ev = .nilIface ∨ ∃ t N, ev = .iface t (.pointer (some ⟨N, 0, none⟩))) ∧ i64v n ∧ ∀ m, Lib.atoiAll s.data.toList = .ok m → n = m) ∧ Tch (fun _ => False) W w') := fun W t => atoi_any s hs W (hv.no t)
  clear hw
  go_enter Tryz.func150, Tryz.ntmps150
  go_wp2_with fail
  clear w0 w1 w2 w3 w4 w5 w6 w7 w8 w9 w10 w11
  go_loopw [8] (fun i wr => ∃ k : Nat, i = .int .i64 k ∧ k ≤ 3 ∧ Tch (fun _ => False) (w.alloc (.cells #[.int .i64 0, .int .i64 0, .string ⟨#[]⟩] 29)) wr) (fun i _ => 3 - (RowKit.intOf i).toNat)
  case atStart => exact ⟨0, rfl, by omega, Tch.refl _ _⟩
  case round =>
    obtain ⟨k, rfl, hk, hT⟩ := hrel
    have hz := hT.size
    have hwz : w.heap.size < wr.heap.size := by simp at hz; omega
    clear hz
    have i0 := word_0; have i1 := word_1; have i2 := word_2
    rcases (by omega : k = 0 ∨ k = 1 ∨ k = 2 ∨ k = 3) with rfl | rfl | rfl | rfl
    · go_wp2_with fail
      go_roundw
      case rel => exact ⟨1, rfl, by omega, hT.allocR _⟩
      case measure => simp [RowKit.intOf]
    · go_wp2_with fail
      go_roundw
      case rel => exact ⟨2, rfl, by omega, hT.allocR _⟩
      case measure => simp [RowKit.intOf]
    · go_wp2_with fail
      go_roundw
      case rel => exact ⟨3, rfl, by omega, hT.allocR _⟩
      case measure => simp [RowKit.intOf]
    · go_wp2_with fail
      refine (HQ.out _ ((Tch.alloc _ _ _).trans' hT)).mono ?_
      rintro y w1 ⟨⟨n, ev, rfl, hev, hn1, hn2⟩, t1⟩
      have Hn : Hid (i64v n ∧ ∀ m, Lib.atoiAll s.data.toList = .ok m → n = m) := ⟨hn1, hn2⟩
      clear hn1 hn2
      obtain ⟨⟨z0, z1, z2⟩, f0, f1, f2⟩ := HBx.out w1 (hT.trans' t1)
      rcases hev with rfl | ⟨et, eN, rfl⟩
      all_goals
        go_wp2_with fail
        refine bodyPost_ret ((HFin.out w1 (hT.trans' t1) 1 n ⟨#[]⟩ _ (Tch.refl _ _)).1 _ ?_) rfl ⟨⟨n, rfl, Hn.out⟩, (HFin.out w1 (hT.trans' t1) 1 n ⟨#[]⟩ _ (Tch.refl _ _)).2⟩
        rfl
end Go.Proofs.YtmaekkhmiafnmaaGreatDoor
namespace Go.Proofs.YtmaekkhmiafnmaaGreatDoor
open Go.RowKit Go Go.Lib
def PS (s : ByteArray) (v : Val) (e : Int) : Prop :=
  (s = ⟨#[110, 117, 108, 108]⟩ ∧ v = ⟨0, 0, ⟨#[]⟩⟩ ∧ e = 0) ∨ (s = ⟨#[102, 97, 108, 115, 101]⟩ ∧ v = ⟨3, 0, ⟨#[]⟩⟩ ∧ e = 0) ∨ (s = ⟨#[116, 114, 117, 101]⟩ ∧ v = ⟨3, 1, ⟨#[]⟩⟩ ∧ e = 0) ∨
  (noW s ∧ ((∃ t, qt t = s.data.toList ∧ ((t.length ≤ 200 ∧ v = ⟨2, 0, ⟨t.toArray⟩⟩ ∧ e = 0) ∨ (200 < t.length ∧ v = ⟨0, 0, ⟨#[]⟩⟩ ∧ e = 42))) ∨ (∃ n, i64v n ∧ itoa n = s.data.toList ∧ v = ⟨1, n, ⟨#[]⟩⟩ ∧ e = 0) ∨ ((∀ t, qt t ≠ s.data.toList) ∧ (∀ n, i64v n → itoa n ≠ s.data.toList) ∧ v = ⟨0, 0, ⟨#[]⟩⟩ ∧ e = 43)))
theorem qt_inj {t u : List UInt8} (h : qt t = qt u) : t = u := by
  have h1 := unqC_qt h
  have h2 := unqC_qt (rfl : qt u = qt u)
  rw [← h1, h2]
theorem qt_itoa {t : List UInt8} {n : Int} : qt t ≠ itoa n := by
  intro h
  obtain ⟨c, r, e, hc⟩ := itoa_head n
  rw [e] at h
  have : (39 : UInt8) = c := by injection h
  subst this
  revert hc; decide
theorem PS.one {s : ByteArray} {v u : Val} {e f : Int} (h1 : PS s v e) (h2 : PS s u f) : v = u ∧ e = f := by
  have d1 : (⟨#[110, 117, 108, 108]⟩ : ByteArray) ≠ ⟨#[102, 97, 108, 115, 101]⟩ := by decide
  have d2 : (⟨#[110, 117, 108, 108]⟩ : ByteArray) ≠ ⟨#[116, 114, 117, 101]⟩ := by decide
  have d3 : (⟨#[102, 97, 108, 115, 101]⟩ : ByteArray) ≠ ⟨#[116, 114, 117, 101]⟩ := by decide
  rcases h1 with ⟨rfl, rfl, rfl⟩ | ⟨rfl, rfl, rfl⟩ | ⟨rfl, rfl, rfl⟩ | ⟨hw, h1⟩
  · rcases h2 with ⟨_, rfl, rfl⟩ | ⟨h, _⟩ | ⟨h, _⟩ | ⟨h, _⟩
    · exact ⟨rfl, rfl⟩
    · exact absurd h d1
    · exact absurd h d2
    · exact absurd rfl h.1
  · rcases h2 with ⟨h, _⟩ | ⟨_, rfl, rfl⟩ | ⟨h, _⟩ | ⟨h, _⟩
    · exact absurd h.symm d1
    · exact ⟨rfl, rfl⟩
    · exact absurd h d3
    · exact absurd rfl h.2.1
  · rcases h2 with ⟨h, _⟩ | ⟨h, _⟩ | ⟨_, rfl, rfl⟩ | ⟨h, _⟩
    · exact absurd h.symm d2
    · exact absurd h.symm d3
    · exact ⟨rfl, rfl⟩
    · exact absurd rfl h.2.2
  · rcases h2 with ⟨h, _⟩ | ⟨h, _⟩ | ⟨h, _⟩ | ⟨_, h2⟩
    · exact absurd h hw.1
    · exact absurd h hw.2.1
    · exact absurd h hw.2.2
    · rcases h1 with ⟨t, ht, h1⟩ | ⟨n, hn, ht, rfl, rfl⟩ | ⟨a1, a2, rfl, rfl⟩
      · rcases h2 with ⟨t', ht', h2⟩ | ⟨n, hn, ht', rfl, rfl⟩ | ⟨b1, b2, rfl, rfl⟩
        · have e := qt_inj (ht.trans ht'.symm)
          subst e
          rcases h1 with ⟨_, rfl, rfl⟩ | ⟨_, rfl, rfl⟩
          · rcases h2 with ⟨_, rfl, rfl⟩ | ⟨_, rfl, rfl⟩
            · exact ⟨rfl, rfl⟩
            · omega
          · rcases h2 with ⟨_, rfl, rfl⟩ | ⟨_, rfl, rfl⟩
            · omega
            · exact ⟨rfl, rfl⟩
        · exact absurd (ht.trans ht'.symm) qt_itoa
        · exact absurd ht (b1 t)
      · rcases h2 with ⟨t', ht', h2⟩ | ⟨m, hm, ht', rfl, rfl⟩ | ⟨b1, b2, rfl, rfl⟩
        · exact absurd (ht'.trans ht.symm) qt_itoa
        · have e := itoa_inj hn.1 hn.2 hm.1 hm.2 (ht.trans ht'.symm)
          subst e; exact ⟨rfl, rfl⟩
        · exact absurd ht (b2 n hn)
      · rcases h2 with ⟨t', ht', h2⟩ | ⟨m, hm, ht', rfl, rfl⟩ | ⟨b1, b2, rfl, rfl⟩
        · exact absurd ht' (a1 t')
        · exact absurd ht' (a2 m hm)
        · exact ⟨rfl, rfl⟩
theorem parse_res (tmps : Array Value) (W : World) (p : Nat) (k n : Int) (s : ByteArray) (e : Int) (c0 : W.cell? ⟨p, 0, none⟩ = some (.int .i64 k)) (c1 : W.cell? ⟨p, 1, none⟩ = some (.int .i64 n)) (c2 : W.cell? ⟨p, 2, none⟩ = some (.string s)) (h2 : tmps[2]?.getD undef = .pointer (some ⟨p, 0, none⟩)) (h3 : tmps[3]?.getD undef = .int .i64 e) :
    (results Tryz.f120 tmps).run Tryz.prog W = .ok (.tuple #[vA k n s, .int .i64 e]) W := by
  have hrs : Tryz.f120.results = #[.cell 2 29, .tmp 3] := by kernel_rfl
  simp only [results, hrs]
  go_simp
def litOK (K NN : Int) (T s : ByteArray) (l : ByteArray) (v : Val) (e : Int) : Prop := (l ≠ s ∧ v = ⟨0, 0, ⟨#[]⟩⟩ ∧ e = 43) ∨ (l = s ∧ 200 < T.size ∧ v = ⟨0, 0, ⟨#[]⟩⟩ ∧ e = 42) ∨ (l = s ∧ T.size ≤ 200 ∧ v = ⟨K, NN, T⟩ ∧ e = 0)
theorem parse_by (s : ByteArray) (R : Int → Int → ByteArray → Prop) (w : World)
    (hg : ∀ W, Tch (fun _ => False) w W → Calls Tryz.prog 150 #[.string s] W fun x w' => (∃ K NN T, x = .returned (vA K NN T) ∧ R K NN T) ∧ Tch (fun _ => False) W w')
    (hl : ∀ K NN T, R K NN T → T.size ≤ 1048576 ∧ ∃ l v e, litOK K NN T s l v e ∧ PS s v e ∧ ∀ W, Tch (fun _ => False) w W → Calls Tryz.prog 55 #[vA K NN T] W fun x w' => x = .returned (.string l) ∧ Tch (fun _ => False) W w') :
    Calls Tryz.prog 120 #[.string s] w fun x w' => (∃ v e, x = .returned (.tuple #[vA v.k v.n v.s, .int .i64 e]) ∧ PS s v e) ∧ Tch (fun _ => False) w w' := by
  have HFin : Hid (∀ W, Tch (fun _ => False) (w.alloc (.cells #[.int .i64 0, .int .i64 0, .string ⟨#[]⟩] 29)) W → ∀ (k n : Int) (s : ByteArray) (e : Int) (tmps : Array Value), tmps[2]?.getD undef = .pointer (some ⟨w.heap.size, 0, none⟩) → tmps[3]?.getD undef = .int .i64 e →
      (results Tryz.f120 tmps).run Tryz.prog (((W.setCell ⟨w.heap.size, 0, none⟩ (.int .i64 k)).setCell ⟨w.heap.size, 1, none⟩ (.int .i64 n)).setCell ⟨w.heap.size, 2, none⟩ (.string s)) = .ok (.tuple #[vA k n s, .int .i64 e]) (((W.setCell ⟨w.heap.size, 0, none⟩ (.int .i64 k)).setCell ⟨w.heap.size, 1, none⟩ (.int .i64 n)).setCell ⟨w.heap.size, 2, none⟩ (.string s)) ∧ Tch (fun _ => False) w (((W.setCell ⟨w.heap.size, 0, none⟩ (.int .i64 k)).setCell ⟨w.heap.size, 1, none⟩ (.int .i64 n)).setCell ⟨w.heap.size, 2, none⟩ (.string s))) := fun W t k n s e tmps h2 h3 => by
    obtain ⟨c0, c1, c2⟩ := box_tch t
    obtain ⟨d0, d1, d2⟩ := box_set W w.heap.size _ _ _ (.int .i64 k) (.int .i64 n) (.string s) c0 c1 c2
    refine ⟨parse_res tmps _ w.heap.size k n s e d0 d1 d2 h2 h3, ?_⟩
    exact (((Tch.alloc (fun _ => False) w _).trans' t).trans (box_set_tch W w.heap.size _ _ _) (fun i hi he => by omega))
  have HBx : Hid (∀ W, Tch (fun _ => False) (w.alloc (.cells #[.int .i64 0, .int .i64 0, .string ⟨#[]⟩] 29)) W → (W.cell? ⟨w.heap.size, 0, none⟩ = some (.int .i64 0) ∧ W.cell? ⟨w.heap.size, 1, none⟩ = some (.int .i64 0) ∧ W.cell? ⟨w.heap.size, 2, none⟩ = some (.string ⟨#[]⟩)) ∧ W.frozen? ⟨w.heap.size, 0, none⟩ = false ∧ W.frozen? ⟨w.heap.size, 1, none⟩ = false ∧ W.frozen? ⟨w.heap.size, 2, none⟩ = false) := fun W t =>
    ⟨box_tch t, (t.frozen (p := ⟨_, _, none⟩) (by simp) (fun h => h)).trans (by simp), (t.frozen (p := ⟨_, _, none⟩) (by simp) (fun h => h)).trans (by simp), (t.frozen (p := ⟨_, _, none⟩) (by simp) (fun h => h)).trans (by simp)⟩
  have q1 := hg _ (Tch.alloc _ w (.cells #[.int .i64 0, .int .i64 0, .string ⟨#[]⟩] 29))
  have Hl : Hid _ := hl
  clear hg hl
  go_enter Tryz.func120, Tryz.ntmps120
  go_wp2_with fail
  refine q1.mono ?_
  rintro y w1 ⟨⟨K, NN, T, rfl, hR⟩, t1⟩
  clear q1
  obtain ⟨hT, l, v, e, hlit, hps, hl⟩ := Hl.out K NN T hR
  have HPS : Hid (PS s v e) := hps
  clear hR Hl hps
  obtain ⟨N1, hN1⟩ : ∃ N1, N1 = w1.heap.size := ⟨_, rfl⟩
  obtain ⟨w2, hw2⟩ : ∃ w2, w2 = w1.alloc (.cells #[.int .i64 K, .int .i64 NN, .string T] 29) := ⟨_, rfl⟩
  have t2 : Tch (fun _ => False) (w.alloc (.cells #[.int .i64 0, .int .i64 0, .string ⟨#[]⟩] 29)) w2 := by rw [hw2]; exact t1.allocR _
  have hT2 : Tch (fun _ => False) w w2 := (Tch.alloc _ _ _).trans' t2
  have q2 := hl w2 hT2
  clear hl
  have Hb2 : Hid (∀ W, Tch (fun _ => False) w2 W → W.cell? ⟨N1, 0, none⟩ = some (.int .i64 K) ∧ W.cell? ⟨N1, 1, none⟩ = some (.int .i64 NN) ∧ W.cell? ⟨N1, 2, none⟩ = some (.string T)) := fun W t => by rw [hw2] at t; rw [hN1]; exact box_tch t
  have Hw2 : Hid _ := hw2
  have Ht2 : Hid _ := t2
  obtain ⟨b0, b1, b2⟩ := Hb2.out w2 (Tch.refl _ _)
  rw [hw2, hN1] at b0 b1 b2
  have HN1 : Hid (N1 = w1.heap.size) := hN1
  clear hw2 hT2 t1 t2 hN1
  go_wp2_with fail
  have hw2 := Hw2.out
  rw [← hw2, ← HN1.out]
  clear hw2 b0 b1 b2
  refine q2.mono ?_
  rintro y w3 ⟨rfl, t3⟩
  clear q2
  have T3 := Ht2.out.trans' t3
  obtain ⟨⟨z0, z1, z2⟩, f0, f1, f2⟩ := HBx.out w3 T3
  obtain ⟨b0, b1, b2⟩ := Hb2.out w3 t3
  have HT3 : Hid _ := T3
  clear T3 t3
  rcases hlit with ⟨hne, rfl, rfl⟩ | ⟨rfl, h200, rfl, rfl⟩ | ⟨rfl, h200, rfl, rfl⟩
  · have hn := str_ne hne
    clear hne
    go_wp2_with fail
    refine bodyPost_ret (HFin.out w3 HT3.out 0 0 ⟨#[]⟩ 43 _ ?_ ?_).1 rfl ⟨⟨_, _, rfl, HPS.out⟩, (HFin.out w3 HT3.out 0 0 ⟨#[]⟩ 43 #[undef, undef, .pointer (some ⟨w.heap.size, 0, none⟩), .int .i64 43] rfl rfl).2⟩ <;> rfl
  · have h2I : (200 : Int) < T.size := by omega
    go_wp2_with fail
    refine bodyPost_ret (HFin.out w3 HT3.out 0 0 ⟨#[]⟩ 42 _ ?_ ?_).1 rfl ⟨⟨_, _, rfl, HPS.out⟩, (HFin.out w3 HT3.out 0 0 ⟨#[]⟩ 42 #[undef, undef, .pointer (some ⟨w.heap.size, 0, none⟩), .int .i64 42] rfl rfl).2⟩ <;> rfl
  · have h2I : ¬ (200 : Int) < T.size := by omega
    go_wp2_with fail
    refine bodyPost_ret (HFin.out w3 HT3.out K NN T 0 _ ?_ ?_).1 rfl ⟨⟨_, _, rfl, HPS.out⟩, (HFin.out w3 HT3.out K NN T 0 #[undef, undef, .pointer (some ⟨w.heap.size, 0, none⟩), .int .i64 0] rfl rfl).2⟩ <;> rfl
theorem uq_size (s : ByteArray) : (uq s).length ≤ s.size := by
  have key : ∀ (n : Nat) (l : List UInt8), l.length ≤ n → (unqC l).length ≤ l.length := by
    intro n
    induction n with
    | zero => intro l h; obtain rfl := List.length_eq_zero_iff.1 (by omega : l.length = 0); simp [unqC]
    | succ n ih =>
      intro l h
      rcases l with _ | ⟨b, _ | ⟨c, _ | ⟨d, r⟩⟩⟩
      · simp [unqC]
      · simp [unqC]
      · unfold unqC; split
        · simp
        · simp [unqC]
      · unfold unqC
        simp only [List.length_cons] at h ⊢
        split
        · have := ih (d :: r) (by simp; omega)
          simp only [List.length_cons] at this ⊢; omega
        · split
          · have := ih r (by omega)
            simp only [List.length_cons]; omega
          · have := ih (c :: d :: r) (by simp; omega)
            simp only [List.length_cons] at this ⊢; omega
  have := key _ (s.data.toList.drop 1) (Nat.le_refl _)
  unfold uq
  rw [List.length_drop, llen] at this
  omega
theorem bs_size (t : List UInt8) : (⟨t.toArray⟩ : ByteArray).size = t.length := by simp [ByteArray.size]
theorem parse_any (s : ByteArray) (hs : s.size ≤ 1048576) (w : World) (hw : HWd w) (hv : HV w) :
    Calls Tryz.prog 120 #[.string s] w fun x w' => (∃ v e, x = .returned (.tuple #[vA v.k v.n v.s, .int .i64 e]) ∧ PS s v e) ∧ Tch (fun _ => False) w w' := by
  by_cases h1 : s = ⟨#[110, 117, 108, 108]⟩
  · subst h1
    exact parse_by _ (fun K NN T => K = 0 ∧ NN = 0 ∧ T = ⟨#[]⟩) w (fun W t => (guess_null W (hw.no t)).mono (fun x w' ⟨h, t'⟩ => ⟨⟨_, _, _, h, rfl, rfl, rfl⟩, t'⟩)) (fun K NN T ⟨h1, h2, h3⟩ => by
      subst h1 h2 h3
      exact ⟨by decide, _, ⟨0, 0, ⟨#[]⟩⟩, 0, Or.inr (Or.inr ⟨rfl, by decide, rfl, rfl⟩), Or.inl ⟨rfl, rfl, rfl⟩, fun W t => literal_null W (hw.no t)⟩)
  by_cases h2 : s = ⟨#[102, 97, 108, 115, 101]⟩
  · subst h2
    exact parse_by _ (fun K NN T => K = 3 ∧ NN = 0 ∧ T = ⟨#[]⟩) w (fun W t => (guess_false W (hw.no t)).mono (fun x w' ⟨h, t'⟩ => ⟨⟨_, _, _, h, rfl, rfl, rfl⟩, t'⟩)) (fun K NN T ⟨h1, h2, h3⟩ => by
      subst h1 h2 h3
      exact ⟨by decide, _, ⟨3, 0, ⟨#[]⟩⟩, 0, Or.inr (Or.inr ⟨rfl, by decide, rfl, rfl⟩), Or.inr (Or.inl ⟨rfl, rfl, rfl⟩), fun W t => literal_false W (hw.no t)⟩)
  by_cases h3 : s = ⟨#[116, 114, 117, 101]⟩
  · subst h3
    exact parse_by _ (fun K NN T => K = 3 ∧ NN = 1 ∧ T = ⟨#[]⟩) w (fun W t => (guess_true W (hw.no t)).mono (fun x w' ⟨h, t'⟩ => ⟨⟨_, _, _, h, rfl, rfl, rfl⟩, t'⟩)) (fun K NN T ⟨h1, h2, h3⟩ => by
      subst h1 h2 h3
      exact ⟨by decide, _, ⟨3, 1, ⟨#[]⟩⟩, 0, Or.inr (Or.inr ⟨rfl, by decide, rfl, rfl⟩), Or.inr (Or.inr (Or.inl ⟨rfl, rfl, rfl⟩)), fun W t => literal_true W (hw.no t)⟩)
  have hne : noW s := ⟨h1, h2, h3⟩
  have hint : ∀ n : Int, i64v n → (∀ m, atoiAll s.data.toList = .ok m → n = m) → (∀ t, qt t ≠ s.data.toList) → ∃ l v e, litOK 1 n ⟨#[]⟩ s l v e ∧ PS s v e ∧ ∀ W, Tch (fun _ => False) w W → Calls Tryz.prog 55 #[vA 1 n ⟨#[]⟩] W fun x w' => x = .returned (.string l) ∧ Tch (fun _ => False) W w' := fun n hn hm hq => by
    by_cases he : itoa n = s.data.toList
    · exact ⟨⟨(itoa n).toArray⟩, ⟨1, n, ⟨#[]⟩⟩, 0, Or.inr (Or.inr ⟨str_of.2 he, by decide, rfl, rfl⟩), Or.inr (Or.inr (Or.inr ⟨hne, Or.inr (Or.inl ⟨n, hn, he, rfl, rfl⟩)⟩)), fun W t => literal_int n hn W (hw.no t) (hv.no t)⟩
    · refine ⟨⟨(itoa n).toArray⟩, ⟨0, 0, ⟨#[]⟩⟩, 43, Or.inl ⟨fun e => he (str_of.1 e), rfl, rfl⟩, Or.inr (Or.inr (Or.inr ⟨hne, Or.inr (Or.inr ⟨hq, fun m hm' e => he ?_, rfl, rfl⟩)⟩)), fun W t => literal_int n hn W (hw.no t) (hv.no t)⟩
      have := atoi_itoa m hm'.1 hm'.2
      rw [e] at this
      rw [hm m this]; exact e
  by_cases h0 : s.size = 0
  · have hq : ∀ t, qt t ≠ s.data.toList := fun t e => by
      have := congrArg List.length e
      rw [llen, h0] at this
      simp [qt] at this
    exact parse_by _ (fun K NN T => K = 1 ∧ T = ⟨#[]⟩ ∧ i64v NN ∧ ∀ m, atoiAll s.data.toList = .ok m → NN = m) w (fun W t => (guess_empty s hs hne h0 W (hw.no t) (hv.no t)).mono (fun x w' ⟨⟨n, h, hn, hm⟩, t'⟩ => ⟨⟨_, _, _, h, rfl, rfl, hn, hm⟩, t'⟩)) (fun K NN T ⟨h1, h2, h3, h4⟩ => by
      subst h1 h2
      exact ⟨by decide, hint NN h3 h4 hq⟩)
  have hp : 0 < s.size := by omega
  by_cases h39 : s[0].toNat = 39
  · exact parse_by _ (fun K NN T => K = 2 ∧ NN = 0 ∧ T = ⟨(uq s).toArray⟩) w (fun W t => (guess_text s hs hne hp h39 W (hw.no t)).mono (fun x w' ⟨h, t'⟩ => ⟨⟨_, _, _, h, rfl, rfl, rfl⟩, t'⟩)) (fun K NN T ⟨h1, h2, h3⟩ => by
      subst h1 h2 h3
      have hu := uq_size s
      have hsz := bs_size (uq s)
      refine ⟨by omega, ⟨(qtd ⟨(uq s).toArray⟩).toArray⟩, ?_⟩
      have hqd : qtd ⟨(uq s).toArray⟩ = qt (uq s) := by rw [qtd_qt]
      rw [hqd]
      have hlit : ∀ W, Tch (fun _ => False) w W → Calls Tryz.prog 55 #[vA 2 0 ⟨(uq s).toArray⟩] W fun x w' => x = .returned (.string ⟨(qt (uq s)).toArray⟩) ∧ Tch (fun _ => False) W w' := fun W t => literal_text _ W (hw.no t) _ (fun W' => by have h := quoted_any ⟨(uq s).toArray⟩ W' (by omega); rw [hqd] at h; exact h)
      by_cases he : qt (uq s) = s.data.toList
      · by_cases h200 : (uq s).length ≤ 200
        · exact ⟨⟨2, 0, ⟨(uq s).toArray⟩⟩, 0, Or.inr (Or.inr ⟨str_of.2 he, by omega, rfl, rfl⟩), Or.inr (Or.inr (Or.inr ⟨hne, Or.inl ⟨uq s, he, Or.inl ⟨h200, rfl, rfl⟩⟩⟩)), hlit⟩
        · exact ⟨⟨0, 0, ⟨#[]⟩⟩, 42, Or.inr (Or.inl ⟨str_of.2 he, by omega, rfl, rfl⟩), Or.inr (Or.inr (Or.inr ⟨hne, Or.inl ⟨uq s, he, Or.inr ⟨by omega, rfl, rfl⟩⟩⟩)), hlit⟩
      · refine ⟨⟨0, 0, ⟨#[]⟩⟩, 43, Or.inl ⟨fun e => he (str_of.1 e), rfl, rfl⟩, Or.inr (Or.inr (Or.inr ⟨hne, Or.inr (Or.inr ⟨fun t e => he ?_, fun n hn e => ?_, rfl, rfl⟩)⟩)), hlit⟩
        · have : uq s = t := unqC_qt e
          rw [this]; exact e
        · obtain ⟨c, r, e2, hc⟩ := itoa_head n
          rw [e] at e2
          have h5 := getl s 0 hp
          rw [e2] at h5
          injection h5 with h5
          rw [h5, h39] at hc
          omega)
  · have hq : ∀ t, qt t ≠ s.data.toList := fun t e => by
      have h5 := getl s 0 hp
      rw [← e] at h5
      injection h5 with h5
      rw [← h5] at h39
      exact h39 (by decide)
    exact parse_by _ (fun K NN T => K = 1 ∧ T = ⟨#[]⟩ ∧ i64v NN ∧ ∀ m, atoiAll s.data.toList = .ok m → NN = m) w (fun W t => (guess_int s hs hne hp h39 W (hw.no t) (hv.no t)).mono (fun x w' ⟨⟨n, h, hn, hm⟩, t'⟩ => ⟨⟨_, _, _, h, rfl, rfl, hn, hm⟩, t'⟩)) (fun K NN T ⟨h1, h2, h3, h4⟩ => by
      subst h1 h2
      exact ⟨by decide, hint NN h3 h4 hq⟩)
end Go.Proofs.YtmaekkhmiafnmaaGreatDoor
namespace Go.Proofs.YtmaekkhmiafnmaaGreatDoor
open Go.RowKit
end Go.Proofs.YtmaekkhmiafnmaaGreatDoor
