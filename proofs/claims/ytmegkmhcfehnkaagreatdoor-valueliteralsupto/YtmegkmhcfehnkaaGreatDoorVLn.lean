import Derived.Test.YtmegkmhcfehnkaaGreatDoorVLd
/- Numbers, by the document: number. -/
namespace Go.Proofs.YtmegkmhcfehnkaaGreatDoor
open Go.RowKit Go Go.Lib

def w64 (n : Int) : Int := IntKind.i64.wrap n
/-- What the document's loop comes to. -/
def accW (l : List UInt8) : Int := l.foldl (fun n c => w64 (w64 (10 * n) - ((c.toNat : Int) - 48))) 0
theorem accW_snoc (l : List UInt8) (c : UInt8) : accW (l ++ [c]) = w64 (w64 (10 * accW l) - ((c.toNat : Int) - 48)) := by simp [accW]
theorem accW_dec (u : Nat) (h : u ≤ 9223372036854775808) : accW (decDigits u) = -(u : Int) := by
  induction u using Nat.strongRecOn with
  | ind u ih =>
    by_cases h10 : u < 10
    · rw [decDigits_one h10]
      show w64 (w64 (10 * 0) - _) = _
      rw [dig_nat u h10]
      unfold w64
      rw [wrap_of (n := 10 * 0) (by omega) (by omega), wrap_of (by omega) (by omega)]; omega
    · rw [dd_rec h10, accW_snoc, ih (u / 10) (by omega) (by omega), dig_nat (u % 10) (by omega)]
      unfold w64
      rw [wrap_of (n := 10 * -((u / 10 : Nat) : Int)) (by omega) (by omega), wrap_of (by omega) (by omega)]; omega
theorem dec_len19 (k : Nat) : ∀ u, u < 10 ^ (k + 1) → (decDigits u).length ≤ k + 1 := by
  induction k with
  | zero => intro u h; rw [decDigits_one (by omega)]; simp
  | succ k ih =>
    intro u h
    by_cases h10 : u < 10
    · rw [decDigits_one h10]; simp
    · rw [dd_rec h10, List.length_append]
      have := ih (u / 10) (by rw [Nat.pow_succ] at h; omega)
      simp; omega
/-- Where the digits begin. -/
def sgI (l : List UInt8) : Nat := if l.head?.map (·.toNat) = some 45 then 1 else 0
theorem itoa_form {m : Int} {l : List UInt8} (hm : i64v m) (h : itoa m = l) : ∃ u, l.drop (sgI l) = decDigits u ∧ u ≤ 9223372036854775808 ∧ l.length ≤ 20 ∧ sgI l < l.length ∧ ((sgI l = 0 ∧ m = u ∧ u ≤ 9223372036854775807) ∨ (sgI l = 1 ∧ m = -(u : Int))) := by
  obtain ⟨h1, h2⟩ := hm
  subst h
  unfold itoa
  split
  · have hl := dec_len19 18 m.natAbs (by omega)
    obtain ⟨c, r, e, _⟩ := dec_head m.natAbs
    have hp : 1 ≤ (decDigits m.natAbs).length := by rw [e]; simp
    have hs : sgI (45 :: decDigits m.natAbs) = 1 := by simp [sgI]
    exact ⟨m.natAbs, by rw [hs]; rfl, by omega, by rw [List.length_cons]; omega, by rw [hs, List.length_cons]; omega, Or.inr ⟨hs, by omega⟩⟩
  · have hl := dec_len19 18 m.toNat (by omega)
    obtain ⟨c, r, e, h3, h4⟩ := dec_head m.toNat
    have hs : sgI (decDigits m.toNat) = 0 := by
      rw [e]; unfold sgI
      rw [if_neg]
      intro h
      have : c.toNat = 45 := by simpa using h
      omega
    exact ⟨m.toNat, by rw [hs]; rfl, by omega, by omega, by rw [hs, e]; simp, Or.inl ⟨hs, by omega, by omega⟩⟩
/-- What number tells. -/
def NumOut (s : ByteArray) (x : Ending) : Prop := ∃ N ok, x = .returned (.tuple #[.int .i64 N, .bool ok]) ∧ (ok = true → i64v N ∧ itoa N = s.data.toList) ∧ (∀ m, i64v m → itoa m = s.data.toList → ok = true)
theorem str_of {l : List UInt8} {s : ByteArray} : (⟨l.toArray⟩ : ByteArray) = s ↔ l = s.data.toList := by
  constructor
  · rintro rfl; rfl
  · intro h; rw [h]
theorem str_ne {x y : ByteArray} (h : x ≠ y) : (x.toList == y.toList) = false := by
  rw [beq_eq_false_iff_ne, ne_eq]
  rw [ByteArray.toList_eq, ByteArray.toList_eq]
  exact fun h' => h (ByteArray.ext (Array.ext' h'))
theorem w64_i64 (n : Int) : i64v (w64 n) := by
  unfold w64 i64v
  simp [IntKind.wrap, IntKind.signed, IntKind.bits]; omega

theorem none_out {s : ByteArray} (h : ∀ m, i64v m → itoa m = s.data.toList → False) : NumOut s (.returned (.tuple #[.int .i64 0, .bool false])) := ⟨0, false, rfl, (fun h => by cases h), fun m h1 h2 => (h m h1 h2).elim⟩
theorem getl (s : ByteArray) (k : Nat) (hk : k < s.size) : s.data.toList[k]? = some s[k] := by
  rw [Array.getElem?_toList, Array.getElem?_eq_getElem hk]; rfl
theorem sgI_eq (s : ByteArray) (h : 0 < s.size) : sgI s.data.toList = if (s[0]).toNat = 45 then 1 else 0 := by
  unfold sgI
  rw [List.head?_eq_getElem?, getl s 0 h]
  simp
theorem llen (s : ByteArray) : s.data.toList.length = s.size := by rw [Array.length_toList]; rfl
theorem digit_of {s : ByteArray} {i k : Nat} {m : Int} (hm : i64v m) (h : itoa m = s.data.toList) (hi : sgI s.data.toList = i) (hik : i ≤ k) (hk : k < s.size) : 48 ≤ s[k].toNat ∧ s[k].toNat ≤ 57 := by
  obtain ⟨u, e, _⟩ := itoa_form hm h
  rw [hi] at e
  apply dec_all u
  rw [← e, List.mem_iff_getElem?]
  refine ⟨k - i, ?_⟩
  rw [List.getElem?_drop, show i + (k - i) = k by omega, getl s k hk]
/-- The end: what was reckoned, held against the text. -/
theorem num_end {s : ByteArray} {i : Nat} {a N : Int} (hi : sgI s.data.toList = i) (ha : a = accW (s.data.toList.drop i)) (hN : N = if i = 0 then w64 (-a) else a) {m : Int} (hm : i64v m) (h : itoa m = s.data.toList) : N = m := by
  obtain ⟨u, e, hu, _, _, hc⟩ := itoa_form hm h
  rw [hi] at e hc
  rw [e, accW_dec u hu] at ha
  rcases hc with ⟨h0, h1, h2⟩ | ⟨h0, h1⟩
  · rw [hN, if_pos h0, ha]
    unfold w64
    rw [wrap_of (by omega) (by omega)]; omega
  · rw [hN, if_neg (by omega), ha]; omega

set_option maxHeartbeats 4000000 in
set_option maxRecDepth 100000 in
theorem rnum_any (s : ByteArray) (hs : s.size ≤ 1048576) (w : World) :
    Calls Tryz.prog 16 #[.string s] w fun x w' => NumOut s x ∧ w' = w := by
  have Hno : Hid (∀ m, i64v m → itoa m = s.data.toList → s.size ≤ 20 ∧ sgI s.data.toList < s.size) := fun m hm h => by
    obtain ⟨u, _, _, h1, h2, _⟩ := itoa_form hm h
    rw [llen] at h1 h2
    exact ⟨h1, h2⟩
  by_cases h0 : s.size = 0
  · have Hz : Hid (NumOut s (.returned (.tuple #[.int .i64 0, .bool false]))) := none_out (fun m hm h => by have := (Hno.out m hm h).2; omega)
    have h0I : ¬ (0 : Int) < s.size := by omega
    have h0b : ((s.size : Int) == 0) = true := by rw [h0]; rfl
    go_enter Tryz.func16, Tryz.ntmps16
    go_wp2_with fail
    go_ret2
    exact ⟨Hz.out, rfl⟩
  · have hp : 0 < s.size := by omega
    have hpI : (0 : Int) < s.size := by omega
    have Hp : Hid (0 < s.size) := hp
    have hsi := sgI_eq s hp
    by_cases h45 : s[0].toNat = 45
    · have Hsi : Hid (sgI s.data.toList = 1) := by show _ = _; rw [hsi]; exact if_pos h45
      have h45I : (s[0].toNat : Int) = 45 := by omega
      have h45b : ((s[0].toNat : Int) == 45) = true := by simp; omega
      by_cases h1s : s.size = 1
      · have Hz : Hid (NumOut s (.returned (.tuple #[.int .i64 0, .bool false]))) := none_out (fun m hm h => by have h2 := (Hno.out m hm h).2; have h3 := Hsi.out; omega)
        have h0b : ((s.size : Int) == 1) = true := by rw [h1s]; rfl
        clear hsi h0 h1s
        go_enter Tryz.func16, Tryz.ntmps16
        go_wp2_with fail
        go_ret2
        exact ⟨Hz.out, rfl⟩
      have h0b : ((s.size : Int) == 1) = false := beq_eq_false_iff_ne.2 (by omega)
      by_cases h20 : (20 : Int) < s.size
      · have Hz : Hid (NumOut s (.returned (.tuple #[.int .i64 0, .bool false]))) := none_out (fun m hm h => by have := (Hno.out m hm h).1; omega)
        clear hsi h0
        go_enter Tryz.func16, Tryz.ntmps16
        go_wp2_with fail
        go_ret2
        exact ⟨Hz.out, rfl⟩
      · have hI : 1 ≤ s.size := by omega
        clear hsi h0
        go_enter Tryz.func16, Tryz.ntmps16
        go_wp2_with fail
        clear h45 h45I h45b h0b h20
        go_loopw [4, 6] (fun nv kv wr => ∃ (k : Nat) (a : Int), nv = .int .i64 a ∧ kv = .int .i64 k ∧ 1 ≤ k ∧ k ≤ s.size ∧ Hid (i64v a) ∧ Hid (a = accW ((s.data.toList.drop 1).take (k - 1))) ∧ wr = w) (fun _ kv _ => s.size - (RowKit.intOf kv).toNat)
        case atStart => exact ⟨1, 0, rfl, rfl, by omega, hI, by show i64v 0; unfold i64v; omega, by show _ = _; simp [accW], rfl⟩
        case round =>
          obtain ⟨k, a, rfl, rfl, hk0, hk, Ha, HA, hwr⟩ := hrel
          subst hwr
          by_cases hlt : (k : Int) < s.size
          · have hks : k < s.size := by omega
            have hb8 := s[k].toNat_lt
            obtain ⟨b, hb⟩ : ∃ b, b = s[k].toNat := ⟨_, rfl⟩
            by_cases hdig : 48 ≤ s[k].toNat ∧ s[k].toNat ≤ 57
            · have c1 : ¬ (s[k].toNat : Int) < 48 := by omega
              have c2 : ¬ 57 < (s[k].toNat : Int) := by omega
              obtain ⟨a1, ha1⟩ : ∃ a1, a1 = w64 (10 * a) := ⟨_, rfl⟩
              obtain ⟨a2, ha2⟩ : ∃ a2, a2 = w64 (a1 - ((s[k].toNat : Int) - 48)) := ⟨_, rfl⟩
              have e1 : IntKind.i64.wrap (10 * a) = a1 := ha1.symm
              have e0 : ((s[k].toNat : Int) - 48) % 256 = (s[k].toNat : Int) - 48 := by omega
              have e2 : IntKind.i64.wrap (a1 - ((s[k].toNat : Int) - 48)) = a2 := ha2.symm
              have HA2 : Hid (i64v a2 ∧ a2 = accW ((s.data.toList.drop 1).take (k + 1 - 1))) := by
                refine ⟨by rw [ha2]; exact w64_i64 _, ?_⟩
                rw [ha2, ha1, HA.out]
                have hl : k - 1 < (s.data.toList.drop 1).length := by rw [List.length_drop, llen]; omega
                have hg : (s.data.toList.drop 1)[k - 1]? = some s[k] := by rw [List.getElem?_drop, show 1 + (k - 1) = k by omega, getl s k hks] <;> rfl
                rw [List.getElem?_eq_getElem hl] at hg
                injection hg with hg
                rw [show k + 1 - 1 = (k - 1) + 1 by omega, List.take_succ_eq_append_getElem hl, accW_snoc, hg] <;> rfl
              clear ha1 ha2 hdig hb hb8
              have Hks : Hid (k < s.size) := hks
              go_wp2_with fail
              exact ⟨⟨k + 1, a2, rfl, by simp, by omega, Hks.out, HA2.out.1, HA2.out.2, trivial⟩, by have := Hks.out; simp [RowKit.intOf]; omega⟩
            · have Hz : Hid (NumOut s (.returned (.tuple #[.int .i64 0, .bool false]))) := none_out (fun m hm h => hdig (digit_of hm h Hsi.out hk0 hks))
              by_cases c1 : (s[k].toNat : Int) < 48
              · clear hdig hb hb8
                go_wp2_with fail
                go_ret2
                exact ⟨Hz.out, rfl⟩
              · have c2 : 57 < (s[k].toNat : Int) := by omega
                clear hdig hb hb8
                go_wp2_with fail
                go_ret2
                exact ⟨Hz.out, rfl⟩
          · have hkk : k = s.size := by omega
            have HAE : Hid (a = accW (s.data.toList.drop 1)) := by
              show _ = _
              rw [HA.out, List.take_of_length_le (by rw [List.length_drop, llen]; omega)]
            obtain ⟨N, hN⟩ : ∃ N, N = a := ⟨_, rfl⟩
            have hNi : i64v N := by rw [hN]; exact Ha.out
            have eN : a = N := hN.symm
            have HN : Hid (∀ m, i64v m → itoa m = s.data.toList → N = m) := fun m hm h => num_end Hsi.out HAE.out (by rw [hN]; rfl) hm h
            have q := rdig_any N hNi wr
            have HNi : Hid (i64v N) := hNi
            clear hN HA hkk hNi
            by_cases hEq : itoa N = s.data.toList
            · rw [str_of.2 hEq] at q
              have HO : Hid (NumOut s (.returned (.tuple #[.int .i64 N, .bool true]))) := ⟨N, true, rfl, fun _ => ⟨HNi.out, hEq⟩, fun _ _ _ => rfl⟩
              clear hEq
              go_wp2_with fail
              refine q.mono ?_
              rintro y w1 ⟨rfl, hw1⟩
              obtain rfl := hw1.symm
              clear hw1 q
              go_wp2_with fail
              go_ret2
              exact ⟨HO.out, rfl⟩
            · have HO : Hid (NumOut s (.returned (.tuple #[.int .i64 N, .bool false]))) := ⟨N, false, rfl, (fun h => by cases h), fun m hm h => (hEq (by rw [HN.out m hm h]; exact h)).elim⟩
              obtain ⟨d, hd⟩ : ∃ d : ByteArray, d = ⟨(itoa N).toArray⟩ := ⟨_, rfl⟩
              have hne := str_ne (x := d) (y := s) (by rw [hd]; exact fun e => hEq (str_of.1 e))
              rw [← hd] at q
              clear hEq hd
              go_wp2_with fail
              refine q.mono ?_
              rintro y w1 ⟨rfl, hw1⟩
              obtain rfl := hw1.symm
              clear hw1 q
              go_wp2_with fail
              go_ret2
              exact ⟨HO.out, rfl⟩
    · have Hsi : Hid (sgI s.data.toList = 0) := by show _ = _; rw [hsi]; exact if_neg h45
      have h45I : ¬ (s[0].toNat : Int) = 45 := by omega
      have h45b : ((s[0].toNat : Int) == 45) = false := beq_eq_false_iff_ne.2 (by omega)
      have h0b : ((s.size : Int) == 0) = false := beq_eq_false_iff_ne.2 (by omega)
      by_cases h20 : (20 : Int) < s.size
      · have Hz : Hid (NumOut s (.returned (.tuple #[.int .i64 0, .bool false]))) := none_out (fun m hm h => by have := (Hno.out m hm h).1; omega)
        clear hsi h0
        go_enter Tryz.func16, Tryz.ntmps16
        go_wp2_with fail
        go_ret2
        exact ⟨Hz.out, rfl⟩
      · have hI : 0 ≤ s.size := by omega
        clear hsi h0
        go_enter Tryz.func16, Tryz.ntmps16
        go_wp2_with fail
        clear h45 h45I h45b h0b h20
        go_loopw [4, 6] (fun nv kv wr => ∃ (k : Nat) (a : Int), nv = .int .i64 a ∧ kv = .int .i64 k ∧ 0 ≤ k ∧ k ≤ s.size ∧ Hid (i64v a) ∧ Hid (a = accW ((s.data.toList.drop 0).take (k - 0))) ∧ wr = w) (fun _ kv _ => s.size - (RowKit.intOf kv).toNat)
        case atStart => exact ⟨0, 0, rfl, rfl, by omega, hI, by show i64v 0; unfold i64v; omega, by show _ = _; simp [accW], rfl⟩
        case round =>
          obtain ⟨k, a, rfl, rfl, hk0, hk, Ha, HA, hwr⟩ := hrel
          subst hwr
          by_cases hlt : (k : Int) < s.size
          · have hks : k < s.size := by omega
            have hb8 := s[k].toNat_lt
            obtain ⟨b, hb⟩ : ∃ b, b = s[k].toNat := ⟨_, rfl⟩
            by_cases hdig : 48 ≤ s[k].toNat ∧ s[k].toNat ≤ 57
            · have c1 : ¬ (s[k].toNat : Int) < 48 := by omega
              have c2 : ¬ 57 < (s[k].toNat : Int) := by omega
              obtain ⟨a1, ha1⟩ : ∃ a1, a1 = w64 (10 * a) := ⟨_, rfl⟩
              obtain ⟨a2, ha2⟩ : ∃ a2, a2 = w64 (a1 - ((s[k].toNat : Int) - 48)) := ⟨_, rfl⟩
              have e1 : IntKind.i64.wrap (10 * a) = a1 := ha1.symm
              have e0 : ((s[k].toNat : Int) - 48) % 256 = (s[k].toNat : Int) - 48 := by omega
              have e2 : IntKind.i64.wrap (a1 - ((s[k].toNat : Int) - 48)) = a2 := ha2.symm
              have HA2 : Hid (i64v a2 ∧ a2 = accW ((s.data.toList.drop 0).take (k + 1 - 0))) := by
                refine ⟨by rw [ha2]; exact w64_i64 _, ?_⟩
                rw [ha2, ha1, HA.out]
                have hl : k - 0 < (s.data.toList.drop 0).length := by rw [List.length_drop, llen]; omega
                have hg : (s.data.toList.drop 0)[k - 0]? = some s[k] := by rw [List.getElem?_drop, show 0 + (k - 0) = k by omega, getl s k hks] <;> rfl
                rw [List.getElem?_eq_getElem hl] at hg
                injection hg with hg
                rw [show k + 1 - 0 = (k - 0) + 1 by omega, List.take_succ_eq_append_getElem hl, accW_snoc, hg] <;> rfl
              clear ha1 ha2 hdig hb hb8
              have Hks : Hid (k < s.size) := hks
              go_wp2_with fail
              exact ⟨⟨k + 1, a2, rfl, by simp, by omega, Hks.out, HA2.out.1, HA2.out.2, trivial⟩, by have := Hks.out; simp [RowKit.intOf]; omega⟩
            · have Hz : Hid (NumOut s (.returned (.tuple #[.int .i64 0, .bool false]))) := none_out (fun m hm h => hdig (digit_of hm h Hsi.out hk0 hks))
              by_cases c1 : (s[k].toNat : Int) < 48
              · clear hdig hb hb8
                go_wp2_with fail
                go_ret2
                exact ⟨Hz.out, rfl⟩
              · have c2 : 57 < (s[k].toNat : Int) := by omega
                clear hdig hb hb8
                go_wp2_with fail
                go_ret2
                exact ⟨Hz.out, rfl⟩
          · have hkk : k = s.size := by omega
            have HAE : Hid (a = accW (s.data.toList.drop 0)) := by
              show _ = _
              rw [HA.out, List.take_of_length_le (by rw [List.length_drop, llen]; omega)]
            obtain ⟨N, hN⟩ : ∃ N, N = w64 (-a) := ⟨_, rfl⟩
            have hNi : i64v N := by rw [hN]; exact w64_i64 _
            have eN : IntKind.i64.wrap (-a) = N := hN.symm
            have HN : Hid (∀ m, i64v m → itoa m = s.data.toList → N = m) := fun m hm h => num_end Hsi.out HAE.out (by rw [hN]; rfl) hm h
            have q := rdig_any N hNi wr
            have HNi : Hid (i64v N) := hNi
            clear hN HA hkk hNi
            by_cases hEq : itoa N = s.data.toList
            · rw [str_of.2 hEq] at q
              have HO : Hid (NumOut s (.returned (.tuple #[.int .i64 N, .bool true]))) := ⟨N, true, rfl, fun _ => ⟨HNi.out, hEq⟩, fun _ _ _ => rfl⟩
              clear hEq
              go_wp2_with fail
              refine q.mono ?_
              rintro y w1 ⟨rfl, hw1⟩
              obtain rfl := hw1.symm
              clear hw1 q
              go_wp2_with fail
              go_ret2
              exact ⟨HO.out, rfl⟩
            · have HO : Hid (NumOut s (.returned (.tuple #[.int .i64 N, .bool false]))) := ⟨N, false, rfl, (fun h => by cases h), fun m hm h => (hEq (by rw [HN.out m hm h]; exact h)).elim⟩
              obtain ⟨d, hd⟩ : ∃ d : ByteArray, d = ⟨(itoa N).toArray⟩ := ⟨_, rfl⟩
              have hne := str_ne (x := d) (y := s) (by rw [hd]; exact fun e => hEq (str_of.1 e))
              rw [← hd] at q
              clear hEq hd
              go_wp2_with fail
              refine q.mono ?_
              rintro y w1 ⟨rfl, hw1⟩
              obtain rfl := hw1.symm
              clear hw1 q
              go_wp2_with fail
              go_ret2
              exact ⟨HO.out, rfl⟩
end Go.Proofs.YtmegkmhcfehnkaaGreatDoor
