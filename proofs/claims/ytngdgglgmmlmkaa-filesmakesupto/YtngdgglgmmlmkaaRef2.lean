/- The document's disk in the world: New, find, Free. -/
import Derived.Test.YtngdgglgmmlmkaaRef
namespace Go.Proofs.Ytngdgglgmmlmkaa
open Go.RowKit Go.ChangeMaps Go.Sort

structure RW (w : World) (rb : Nat) (d : Dsk) (v : Value) (acts : Int) : Prop where
  blk : w.heap[rb]? = some (.cells #[.int .i64 d.cap, v, .int .i64 d.die, .int .i64 d.fail, .bool d.dead, .int .i64 acts] 95 (0, 0))
  own : w.ownsRow 0 97 3 v d.m.length (rcells d.m)
  up : Up d.m
section
variable {w : World} {rb : Nat} {d : Dsk} {v : Value} {acts : Int}
theorem RW.lt (h : RW w rb d v acts) : rb < w.heap.size := blk_lt h.blk
theorem RW.c0 (h : RW w rb d v acts) : w.cell? ⟨rb, 0, none⟩ = some (.int .i64 d.cap) := by rw [blk_cell h.blk]; rfl
theorem RW.c1 (h : RW w rb d v acts) : w.cell? ⟨rb, 1, none⟩ = some v := by rw [blk_cell h.blk]; rfl
theorem RW.tch {S : Nat → Prop} {w' : World} (h : RW w rb d v acts) (t : Tch S w w') (h1 : ¬ S rb) (h2 : ∀ g, v.ownBlock = some g → ¬ S g) : RW w' rb d v acts :=
  ⟨(t.block rb h.lt h1).trans h.blk, rowN_tch h.own t h2, h.up⟩
theorem RW.no {w' : World} (h : RW w rb d v acts) (t : Tch (fun _ => False) w w') : RW w' rb d v acts := h.tch t (fun h => h) (fun _ _ h => h)
theorem RW.drewN (h : RW w rb d v acts) (n : Nat) : RW (w.drewN n) rb d v acts := h.no ((Tch.refl _ w).drewN n)
theorem RW.row {ao : Option Addr} {cp : Nat} (h : RW w rb d (.slice ao d.m.length cp) acts) (i : Nat) (hi : i < d.m.length) : ∃ g, ao = some ⟨g, 0, none⟩ ∧ w.cell? ⟨g, i * 3, none⟩ = some (.string ⟨d.m[i].1.toArray⟩) ∧ w.cell? ⟨g, i * 3 + 1, none⟩ = some (.string ⟨d.m[i].2.bs.toArray⟩) ∧ w.cell? ⟨g, i * 3 + 2, none⟩ = some (.int .i64 d.m[i].2.la) := by
  obtain ⟨g, rfl⟩ : ∃ g, ao = some ⟨g, 0, none⟩ := by
    rcases h.own.2 with ⟨_, h2⟩ | ⟨g, _, _, h1, _⟩
    · omega
    · simp only [Value.slice.injEq] at h1
      exact ⟨g, h1.1⟩
  obtain ⟨e1, e2, e3⟩ := rcells_get d.m i hi
  have h1 := h.own.cells (g := g) rfl _ _ e1
  have h2 := h.own.cells (g := g) rfl _ _ e2
  have h3 := h.own.cells (g := g) rfl _ _ e3
  refine ⟨g, rfl, ?_, ?_, ?_⟩
  · simpa [Addr.add_lit] using h1
  · simpa [Addr.add_lit] using h2
  · simpa [Addr.add_lit] using h3
end

set_option maxHeartbeats 2000000 in
set_option maxRecDepth 100000 in
theorem rfind_any (rb : Nat) (d : Dsk) (v : Value) (acts : Int) (name : ByteArray) (w : World) (h : RW w rb d v acts) (hl : d.m.length ≤ 9223372036854775807) :
    Calls Try.prog 60 #[.pointer (some ⟨rb, 0, none⟩), .string name] w fun x w' => x = .returned (.tuple #[.int .i64 (posL name.data.toList d.m), .bool (getL name.data.toList d.m).isSome]) ∧ ∃ n, w' = w.drewN n := by
  obtain ⟨ao, cp, rfl⟩ := rowN_of h.own
  have c1 := h.c1
  have HR : Hid (∀ i (hi : i < d.m.length), ∃ g, ao = some ⟨g, 0, none⟩ ∧ w.cell? ⟨g, i * 3, none⟩ = some (.string ⟨d.m[i].1.toArray⟩)) := fun i hi => by
    obtain ⟨g, h1, h2, _⟩ := h.row i hi
    exact ⟨g, h1, h2⟩
  obtain ⟨pos, hpos⟩ : ∃ pos, pos = posL name.data.toList d.m := ⟨_, rfl⟩
  obtain ⟨th, hth⟩ : ∃ th, th = (getL name.data.toList d.m).isSome := ⟨_, rfl⟩
  have HL : Hid (∀ i (h' : i < d.m.length), i < pos → bytesBefore d.m[i].1 name.data.toList = true) := fun i h' hi => posL_lt _ _ i (by omega) h'
  have HA : Hid (∀ (h' : pos < d.m.length), bytesBefore (d.m[pos]).1 name.data.toList = false) := by subst hpos; exact fun h' => posL_at _ _ h'
  have HT' : Hid (th = decide (∃ h : pos < d.m.length, (d.m[pos]).1 = name.data.toList)) := by subst hpos; rw [hth]; exact posL_there h.up
  have hple := posL_le name.data.toList d.m
  rw [← hth, ← hpos]
  rw [← hpos] at hple
  obtain ⟨n, hn⟩ : ∃ n, n = d.m.length := ⟨_, rfl⟩
  rw [← hn] at c1 hl hple
  clear h hpos hth
  go_enter Try.func60, Try.ntmps60
  go_wp2_with fail
  go_loopw [6] (fun i wr => ∃ k : Nat, i = .int .i64 k ∧ k ≤ pos ∧ wr = w) (fun i _ => pos - (intOf i).toNat)
  case atStart => exact ⟨0, rfl, by omega, rfl⟩
  case round =>
    obtain ⟨k, rfl, hk, rfl⟩ := hrel
    by_cases hlt : (k : Int) < n
    · obtain ⟨g, hg, hc⟩ := HR.out k (by omega)
      subst hg
      obtain ⟨x, hx⟩ : ∃ x : ByteArray, x = ⟨(d.m[k]'(by omega)).1.toArray⟩ := ⟨_, rfl⟩
      have hxl : x.data.toList = (d.m[k]'(by omega)).1 := by rw [hx]
      rw [← hx] at hc
      have hls := less_b x name
      rw [hxl] at hls
      by_cases hkp : k < pos
      · rw [HL.out k (by omega) hkp] at hls
        clear hx hxl
        go_wp2
        go_roundw
        case rel => exact ⟨k + 1, by go_num, by omega, trivial⟩
        case measure => simp [intOf]; omega
      · obtain rfl : k = pos := by omega
        rw [HA.out (by omega)] at hls
        by_cases hth : th = true
        · have he : x = name := by
            have h1 := HT'.out
            rw [hth] at h1
            obtain ⟨_, h3⟩ := of_decide_eq_true h1.symm
            rw [← hxl] at h3
            exact ByteArray.ext (Array.ext' h3)
          subst he
          subst hth
          clear hx hxl
          go_wp2_with fail
          go_quiet (fail)
          go_wp2
          go_ret2
          exact ⟨rfl, _, rfl⟩
        · obtain rfl : th = false := by simpa using hth
          have hne : ¬ x = name := fun e => by
            have h2 := of_decide_eq_false HT'.out.symm
            exact h2 ⟨by omega, by rw [← hxl, e]⟩
          have hneb : (x.toList == name.toList) = false := by
            rw [Lib.toList_data, Lib.toList_data, beq_eq_false_iff_ne]
            exact fun e => hne (ByteArray.ext (Array.ext' e))
          clear hx hxl hth
          go_wp2_with fail
          go_quiet (fail)
          go_wp2
          go_ret2
          exact ⟨rfl, _, rfl⟩
    · obtain rfl : n = k := by omega
      have hpn : pos = n := by omega
      have hth : th = false := by
        rw [HT'.out]
        exact decide_eq_false (fun ⟨h, _⟩ => by omega)
      subst hth
      have HP : Hid (pos = d.m.length) := hpn.trans hn
      clear hpn
      go_wp2_with fail
      go_quiet (fail)
      go_wp2
      go_ret2
      exact ⟨by rw [HP.out]; rfl, _, rfl⟩

theorem rnew_any (c : Nat) (w : World) (h1 : 1 ≤ c) (h2 : c ≤ 1000000000) :
    Calls Try.prog 27 #[.int .i64 c] w fun x w' => ∃ b, x = .returned (.tuple #[.pointer (some ⟨b, 0, none⟩), .int .i64 0]) ∧ RW w' b (newD c) (.slice none 0 0) 0 ∧ w.heap.size ≤ b ∧ Tch (fun _ => False) w w' := by
  have h1' : ¬ (c : Int) < 1 := by omega
  have h2' : ¬ (1000000000 : Int) < c := by omega
  go_enter Try.func27, Try.ntmps27
  go_wp2
  go_ret2
  exact ⟨_, rfl, ⟨box_one w _, World.ownsRow_nil _ _ _ _, List.Pairwise.nil⟩, Nat.le_refl _, Tch.alloc _ _ _⟩
theorem rnew_arg (c : Int) (w : World) (h : c < 1 ∨ 1000000000 < c) :
    Calls Try.prog 27 #[.int .i64 c] w fun x w' => x = .returned (.tuple #[.pointer none, .int .i64 1]) ∧ w' = w := by
  by_cases h1 : c < 1
  · go_enter Try.func27, Try.ntmps27
    go_wp2
    go_ret2
    exact ⟨rfl, rfl⟩
  · have h2 : 1000000000 < c := by omega
    clear h
    go_enter Try.func27, Try.ntmps27
    go_wp2
    go_ret2
    exact ⟨rfl, rfl⟩

/-- The sum of the first k sizes. -/
def sumTo (m : List (Nm × Fl)) (k : Nat) : Nat := sumL lenF (m.take k)
theorem sumTo_succ (m : List (Nm × Fl)) {k : Nat} (h : k < m.length) : sumTo m (k + 1) = sumTo m k + m[k].2.bs.length := by
  unfold sumTo sumL
  rw [List.take_succ_eq_append_getElem h, List.map_append, List.sum_append]
  simp only [List.map_cons, List.map_nil, List.sum_cons, List.sum_nil, Nat.add_zero, lenF]
theorem sumTo_le (m : List (Nm × Fl)) (k : Nat) : sumTo m k ≤ sumL lenF m := by
  unfold sumTo sumL
  conv => rhs; rw [← List.take_append_drop k m, List.map_append, List.sum_append]
  omega
set_option maxHeartbeats 2000000 in
set_option maxRecDepth 100000 in
theorem rfree_any (rb : Nat) (d : Dsk) (v : Value) (acts : Int) (w : World) (h : RW w rb d v acts) (hl : d.m.length ≤ 9223372036854775807) (hu : d.used ≤ 4611686018427387904) (hc : d.cap ≤ 1000000000) :
    Calls Try.prog 32 #[.pointer (some ⟨rb, 0, none⟩)] w fun x w' => x = .returned (.int .i64 ((d.cap : Int) - d.used)) ∧ w' = w := by
  obtain ⟨ao, cp, rfl⟩ := rowN_of h.own
  have c0 := h.c0
  have c1 := h.c1
  have HR : Hid (∀ i (hi : i < d.m.length), ∃ g, ao = some ⟨g, 0, none⟩ ∧ w.cell? ⟨g, i * 3 + 1, none⟩ = some (.string ⟨d.m[i].2.bs.toArray⟩)) := fun i hi => by
    obtain ⟨g, h1, _, h2, _⟩ := h.row i hi
    exact ⟨g, h1, h2⟩
  have HS : Hid (∀ k (hk : k < d.m.length), sumTo d.m (k + 1) = sumTo d.m k + d.m[k].2.bs.length ∧ sumTo d.m (k + 1) ≤ d.used) := fun k hk => ⟨sumTo_succ d.m hk, sumTo_le d.m _⟩
  have HE : Hid (sumTo d.m d.m.length = d.used) := by show _ = _; unfold sumTo; rw [List.take_length]; rfl
  obtain ⟨n, hn⟩ : ∃ n, n = d.m.length := ⟨_, rfl⟩
  rw [← hn] at c1 hl
  clear h
  go_enter Try.func32, Try.ntmps32
  go_wp2_with fail
  go_loopw [3, 4] (fun f i wr => ∃ k : Nat, i = .int .i64 k ∧ k ≤ n ∧ f = .int .i64 ((d.cap : Int) - sumTo d.m k) ∧ sumTo d.m k ≤ d.used ∧ wr = w) (fun _ i _ => n - (intOf i).toNat)
  case atStart => exact ⟨0, rfl, by omega, congrArg (Value.int .i64) (by rw [show sumTo d.m 0 = 0 from rfl]; omega), Nat.zero_le _, rfl⟩
  case round =>
    obtain ⟨k, rfl, hk, rfl, hs, rfl⟩ := hrel
    by_cases hlt : (k : Int) < n
    · obtain ⟨g, hg, hc⟩ := HR.out k (by omega)
      subst hg
      obtain ⟨hs1, hs2⟩ := HS.out k (by omega)
      obtain ⟨x, hx⟩ : ∃ x : ByteArray, x = ⟨(d.m[k]'(by omega)).2.bs.toArray⟩ := ⟨_, rfl⟩
      have hxl : x.size = (d.m[k]'(by omega)).2.bs.length := by rw [hx]; exact List.size_toArray
      rw [← hx] at hc
      rw [← hxl] at hs1
      clear hx hxl
      have HS1 : Hid (sumTo d.m (k + 1) = sumTo d.m k + x.size) := hs1
      have hxb : sumTo d.m k + x.size ≤ 4611686018427387904 := by omega
      have HS3 : Hid (sumTo d.m k + x.size ≤ d.used) := by show _ ≤ _; omega
      clear hs1
      go_wp2
      go_roundw
      case rel => exact ⟨k + 1, by go_num, by omega, by rw [HS1.out]; go_num, by rw [HS1.out]; exact HS3.out, trivial⟩
      case measure => simp only [intOf]; omega
    · obtain rfl : n = k := by omega
      have HE2 : Hid ((d.cap : Int) - sumTo d.m d.m.length = (d.cap : Int) - d.used) := by show _ = _; rw [HE.out]
      go_wp2
      go_ret
      exact ⟨ret_int HE2.out, rfl⟩
end Go.Proofs.Ytngdgglgmmlmkaa
