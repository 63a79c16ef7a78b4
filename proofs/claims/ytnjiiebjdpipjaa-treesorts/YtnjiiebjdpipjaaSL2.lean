import Derived.Test.YtnjiiebjdpipjaaSLr
/- TreeSorts: loop 2: At and Rank are one another's. -/
namespace Go.Proofs.Ytnjiiebjdpipjaa.S
open Go.RowKit Go

set_option maxHeartbeats 4000000 in
set_option maxRecDepth 100000 in
theorem loop2 (w W : World) (b : Nat) (l : List It) (ht : Nat) (F : List Nat) (ub D : Nat) (HZ : Hid (UZ w b l ht F ub D W)) (Hlk : Hid (l.length ≤ 2000 ∧ ∀ e ∈ l, e.2 = e.1 ∧ e.1.size < 1000000000000000000)) {T : Array Value} {g kp r i7 i20 c : Value}
    (hf : Fz T g kp r (pv b) i7 (pv ub) (.int .i64 0) i20 c) (Q0 : Exit → Act → World → Prop)
    (Hexit : Hid (∀ (T' : Array Value) (i16' : Value) (W' : World), Fz T' g kp r (pv b) i7 (pv ub) i16' i20 c → UZ w b l ht F ub D W' → Q0 (.exit 4) ⟨T', [mkD D]⟩ W')) :
    Code.wp Try.prog (Code.loop sBody2) Q0 ⟨T, [mkD D]⟩ W := by
  refine hf.use (P := fun T => Code.wp Try.prog (Code.loop sBody2) Q0 ⟨T, [mkD D]⟩ W) ?_
  clear hf T
  intro u
  obtain ⟨n, hn⟩ : ∃ n, n = l.length := ⟨_, rfl⟩
  have Hn : Hid (n = l.length) := hn
  have hnI : (n : Int) ≤ 2000 := by have := Hlk.out.1; omega
  clear hn
  conv => arg 2; arg 1; whnf
  go_loopw [16] (fun s16 wr => ∃ (W : World) (i : Nat), W = wr ∧ s16 = .int .i64 i ∧ i ≤ n ∧ Hid (UZ w b l ht F ub D W)) (fun s16 _ => n - (intOf s16).toNat)
  case atStart => exact ⟨_, 0, rfl, rfl, by omega, HZ⟩
  case round =>
    obtain ⟨wr, i, rfl, rfl, hin, HF⟩ := hrel
    clear HZ
    obtain ⟨ao, cp, h1, h2⟩ := HF.out.ux
    rw [← Hn.out] at h1
    have y0 : wr.cell? ⟨ub, 0, none⟩ = some (.slice ao n cp) := by rw [blk_cell h1]; rfl
    by_cases hlt : (i : Int) < n
    · obtain ⟨it, hit⟩ : ∃ it, l[i]? = some it := ⟨l[i]'(by have := Hn.out; omega), List.getElem?_eq_getElem _⟩
      have hie := (Hlk.out.2 it (List.mem_of_getElem? hit)).1
      have hsz := (Hlk.out.2 it (List.mem_of_getElem? hit)).2
      obtain ⟨k, v⟩ := it
      have hie' : v = k := hie
      subst hie'
      have hvs : ¬ 9223372036854775807 < ByteArray.size v + 1 := by
        have h9 : ByteArray.size v < 1000000000000000000 := hsz
        omega
      clear hsz
      obtain ⟨gg, oo, e, hc⟩ := h2 i v (by rw [List.getElem?_map, hit]; rfl)
      subst e
      have HC : Hid (∀ W, Tch (fun _ => False) wr W → W.cell? ⟨ub, 0, none⟩ = some (.slice (some ⟨gg, oo, none⟩) n cp) ∧ W.cell? ⟨gg, oo + i, none⟩ = some (.string v)) := fun W t => ⟨(t.cell (blk_lt h1) (fun h => h)).trans y0, (t.cell (cell_lt hc) (fun h => h)).trans hc⟩
      have hbl : l.length ≤ 1000000000000000000 := by have := Hlk.out.1; omega
      have HA : Hid (∀ W, Tch (fun _ => False) wr W → Calls Try.prog 21 #[pv b, .int .i64 i] W fun x w' => x = .returned (.tuple #[.string v, ev v, .bool true]) ∧ Tch (fun _ => False) wr w') := fun W t => by
        refine (at_in W b l ht F i (HF.out.tw.tch t (fun _ _ h => h)) hbl (List.getElem?_eq_some_iff.1 hit).1).mono ?_
        rintro x w' ⟨⟨it, h3, rfl⟩, t2⟩
        rw [hit] at h3
        injection h3 with h3
        subst h3
        exact ⟨rfl, t.trans' t2⟩
      have HR : Hid (∀ W, Tch (fun _ => False) wr W → Calls Try.prog 22 #[pv b, .string v] W fun x w' => x = .returned (.int .i64 i) ∧ Tch (fun _ => False) wr w') := fun W t => by
        refine (rank_t W b l ht F v (HF.out.tw.tch t (fun _ _ h => h)) hbl).mono ?_
        rintro x w' ⟨⟨r', rfl, hr⟩, t2⟩
        have := rank_at HF.out.tw.so hit hr
        subst this
        exact ⟨rfl, t.trans' t2⟩
      have HR2 : Hid (∀ W, Tch (fun _ => False) wr W → Calls Try.prog 22 #[pv b, .string (up0 v)] W fun x w' => x = .returned (.int .i64 ((i : Int) + 1)) ∧ Tch (fun _ => False) wr w') := fun W t => by
        refine (rank_t W b l ht F (up0 v) (HF.out.tw.tch t (fun _ _ h => h)) hbl).mono ?_
        rintro x w' ⟨⟨r', rfl, hr⟩, t2⟩
        have := rank_above HF.out.tw.so hit hr
        subst this
        exact ⟨by rw [show (((i + 1 : Nat) : Int)) = (i : Int) + 1 by omega], t.trans' t2⟩
      have q := HA.out wr (Tch.refl _ _)
      clear h1 h2 hie hc hit y0
      obtain ⟨y0, hc⟩ := HC.out wr (Tch.refl _ _)
      go_wp2_with fail
      refine q.mono ?_
      clear q y0 hc
      rintro x w1 ⟨rfl, t1⟩
      obtain ⟨y0, hc⟩ := HC.out w1 t1
      have q := HR.out w1 t1
      go_wp2_with fail
      refine q.mono ?_
      clear q
      rintro x w2 ⟨rfl, t2⟩
      have q := HR2.out w2 t2
      go_wp2_with fail
      refine q.mono ?_
      clear q hvs
      rintro x w3 ⟨rfl, t3⟩
      have H3 : Hid (UZ w b l ht F ub D w3) := HF.out.no t3
      clear t1 t2 t3 y0 hc
      go_wp2_with fail
      go_roundw
      case measure => simp [intOf]; omega
      case rel => exact ⟨_, i + 1, rfl, by go_num, by omega, H3⟩
    · obtain rfl : i = n := by omega
      have HX := Hexit
      clear Hexit h2 h1
      go_wp2_with fail
      exact HX.out _ _ _ ⟨rfl, rfl, rfl, rfl, rfl, rfl, rfl, rfl, rfl, rfl⟩ HF.out
end Go.Proofs.Ytnjiiebjdpipjaa.S
