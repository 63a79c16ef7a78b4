import Derived.Test.YtehcpmiogpanpaaGKl
import Derived.Laws.MakeOwn
/- MergeKeeps: the law itself. -/
namespace Go.Proofs.Ytehcpmiogpanpaa
open Go.RowKit Go

/-- The argument, for reading. -/
structure SI (w : World) (so : Option Addr) (sn : Nat) (A : Nat → Option Addr) (Ln Cn : Nat → Nat) (Z : Nat → Nat → Int) : Prop where
  row : ∀ r, r < sn → ∃ g o, so = some ⟨g, o, none⟩ ∧ w.cell? ⟨g, o + r, none⟩ = some (.slice (A r) (Ln r) (Cn r))
  el : ∀ r, r < sn → ∀ c, c < Ln r → ∃ g o, A r = some ⟨g, o, none⟩ ∧ w.cell? ⟨g, o + c, none⟩ = some (.int .i64 (Z r c)) ∧ -9223372036854775808 ≤ Z r c ∧ Z r c ≤ 9223372036854775807
theorem SI.no {w w' : World} {so : Option Addr} {sn : Nat} {A : Nat → Option Addr} {Ln Cn : Nat → Nat} {Z : Nat → Nat → Int} (h : SI w so sn A Ln Cn Z) (t : Tch (fun _ => False) w w') : SI w' so sn A Ln Cn Z :=
  ⟨fun r hr => by
    obtain ⟨g, o, e, hc⟩ := h.row r hr
    exact ⟨g, o, e, (t.cell (p := ⟨g, o + r, none⟩) (cell_lt hc) (fun h => h)).trans hc⟩, fun r hr c hc => by
    obtain ⟨g, o, e, hc', hb⟩ := h.el r hr c hc
    exact ⟨g, o, e, (t.cell (p := ⟨g, o + c, none⟩) (cell_lt hc') (fun h => h)).trans hc', hb⟩⟩
theorem KL.lls {N : Nat} {w wr : World} {lo : Option Addr} {n lc : Nat} {ls : List (List Kc)} (h : KL N w wr (.slice lo n lc) ls) (h0 : 0 < ls.length) : ∃ hd, LLs wr.heap.size wr lo hd ls ∧ ls.length ≤ lc := by
  obtain ⟨hd, hown, hel⟩ := h.own
  have hl := hown.1
  rcases id hown.2 with ⟨_, e⟩ | ⟨g, cap, cur, e, _, hg, h1, _⟩
  · omega
  · simp only [Value.slice.injEq] at e
    obtain ⟨rfl, rfl, rfl⟩ := e
    refine ⟨hd, ⟨by omega, fun _ => ⟨g, 0, rfl, blk_lt hg, fun j u hu => ?_⟩, hel⟩, h1⟩
    have := hown.cells (g := g) rfl j u hu
    rw [add_plain] at this; exact this
theorem kcl_get (u : List Kc) : ∀ n c, u[n]? = some c → (kcl u)[n * 6]? = some (.int .i64 c.l) ∧ (kcl u)[n * 6 + 1]? = some (.int .i64 c.x) ∧ (kcl u)[n * 6 + 3]? = some (.int .i64 c.t) := by
  induction u with
  | nil => intro n c h; simp at h
  | cons a u ih =>
    intro n c h
    cases n with
    | zero => obtain rfl : a = c := by simpa using h
              exact ⟨rfl, rfl, rfl⟩
    | succ n =>
      have := ih n c (by simpa using h)
      have e : ∀ j, (kcl (a :: u))[(n + 1) * 6 + j]? = (kcl u)[n * 6 + j]? := fun j => by
        show (kc6 a ++ kcl u)[(n + 1) * 6 + j]? = _
        rw [List.getElem?_append_right (by show 6 ≤ _; omega)]
        congr 1; show _ - 6 = _; omega
      have e0 := e 0
      simp only [Nat.add_zero] at e0
      rw [e0, e 1, e 3]; exact this
theorem RL.nth {M : Nat} {w : World} {ao : Option Addr} {cp : Nat} {u : List Kc} (h : RL M w ao cp u) {n : Nat} {c : Kc} (hn : u[n]? = some c) : ∃ g o, ao = some ⟨g, o, none⟩ ∧ w.cell? ⟨g, o + n * 6, none⟩ = some (.int .i64 c.l) := by
  obtain ⟨g, o, cur, _, e, hg, hc⟩ := h.at' (fun e => by rw [e] at hn; simp at hn)
  exact ⟨g, o, e, by rw [blk_cell hg]; exact hc _ _ (kcl_get u n c hn).1⟩
theorem own_nth {base n : Nat} {w : World} {ao : Option Addr} {cp : Nat} {u : List Kc} (h : w.ownsRow base 27 6 (.slice ao n cp) u.length (kcl u)) {k : Nat} {c : Kc} (hk : u[k]? = some c) : ∃ g, ao = some ⟨g, 0, none⟩ ∧ w.cell? ⟨g, k * 6, none⟩ = some (.int .i64 c.l) ∧ w.cell? ⟨g, k * 6 + 1, none⟩ = some (.int .i64 c.x) ∧ w.cell? ⟨g, k * 6 + 3, none⟩ = some (.int .i64 c.t) := by
  obtain ⟨k0, k1, k3⟩ := kcl_get u k c hk
  rcases id h.2 with ⟨_, e⟩ | ⟨g, cap, cur, e, _, hg, _⟩
  · rw [List.length_eq_zero_iff.1 e] at hk; simp at hk
  · simp only [Value.slice.injEq] at e
    obtain ⟨rfl, rfl, rfl⟩ := e
    have hc := h.cells (g := g) rfl
    have a0 := hc _ _ k0
    have a1 := hc _ _ k1
    have a3 := hc _ _ k3
    rw [add_plain, Nat.zero_add] at a0 a1 a3
    exact ⟨g, rfl, a0, a1, a3⟩
def ncl (nx : List Nat) : List Value := nx.map (fun n => Value.int .i64 (n : Nat))
theorem info_int : (Try.prog.info? 3).map (fun i => (i.zero, i.size, i.bytes)) = some (some (.int .i64 0), 1, 8) := by kernel_rfl
theorem mk_ints (n : Nat) (hn : n ≤ 1000000) (w : World) : (Instr.makeSlice 29 (.int .i64 n) (.int .i64 n)).run Try.prog w = .ok (.slice (some ⟨w.heap.size, 0, none⟩) n n) (w.alloc (.cells (ncl (List.replicate n 0)).toArray 3)) := by
  obtain ⟨i0, hi, hz0, hz1, hz2⟩ := info_parts info_int
  have h := run_make (P := Try.prog) w 29 3 i0 (.int .i64 0) Try.underlying29 hi hz0 .i64 .i64 n n (by omega) (Int.le_refl _) (by rw [hz2]; omega) (by omega)
  rw [h, hz1]
  have e : madeCells (Value.int .i64 0).cells ((n : Int).toNat * 1) = (ncl (List.replicate n 0)).toArray := by
    have h1 := toList_madeCells_one (.int .i64 0) ((n : Int).toNat * 1)
    have h2 : (madeCells (Value.int .i64 0).cells ((n : Int).toNat * 1)).toList = ncl (List.replicate n 0) := by
      refine h1.trans ?_
      simp [ncl]
    rw [← h2]
  rw [e]; simp
theorem tot_mem {α : Type} {ls : List (List α)} {j : Nat} {r : List α} (h : ls[j]? = some r) : r.length ≤ tot ls := by
  induction ls generalizing j with
  | nil => simp at h
  | cons a ls ih =>
    cases j with
    | zero => obtain rfl : a = r := by simpa using h
              simp [tot]
    | succ j => have := ih (j := j) (by simpa using h); simp [tot] at *; omega
/-- The state of the law's last loop. -/
def K3 (w3 wz : World) (nb : Nat) (ls : List (List Kc)) (out : List Kc) (p : Nat) : Prop := ∃ rs nx, V3 ls rs nx out p ∧ wz.heap[nb]? = some (.cells (ncl nx).toArray 3 (0, 0)) ∧ Tch (fun i => i = nb) w3 wz
set_option maxHeartbeats 8000000 in
set_option maxRecDepth 1000000 in
theorem keeps_law (w : World) (so : Option Addr) (sn sc : Nat) (A : Nat → Option Addr) (Ln Cn : Nat → Nat) (Z : Nat → Nat → Int) (h : SI w so sn A Ln Cn Z) :
    Calls Try.prog 3 #[.slice so sn sc] w fun e w' => e = .returned (.bool true) ∧ Tch (fun _ => False) w w' := by
  obtain ⟨N, hN⟩ : ∃ N, N = w.heap.size := ⟨_, rfl⟩
  obtain ⟨wa, hwa⟩ : ∃ wa, wa = w.alloc (.cells #[.int .i64 1, .int .i64 0, .int .i64 0, .int .i64 0, .slice none 0 0, .slice none 0 0, .int .i64 3, .int .i64 0, .int .i64 0, .int .i64 1, .slice none 0 0, .slice none 0 0] 27) := ⟨_, rfl⟩
  obtain ⟨wb, hwb⟩ : ∃ wb, wb = wa.alloc (.cells #[.slice (some ⟨w.heap.size, 0, none⟩) 2 2] 28) := ⟨_, rfl⟩
  have hza : wa.heap.size = w.heap.size + 1 := by rw [hwa, World.size_alloc]
  have ta : Tch (fun _ => False) w wa := by rw [hwa]; exact Tch.alloc _ _ _
  have k0 : KL N w wa (.slice none 0 0) [] := ⟨⟨[], World.ownsRow_nil _ _ _ _, fun j r hj => by simp at hj⟩, fun j r hj => by simp at hj, ta⟩
  obtain ⟨v1, w1, hr1, h1⟩ := k0.more (k := 2) (r := [⟨1, 0, 0, 0⟩, ⟨3, 0, 0, 1⟩]) (ro := some ⟨w.heap.size, 0, none⟩) (rc := 2) (base := 0) (at' := 3) (wz := wb) (by omega) (by omega)
    ⟨rfl, .inr ⟨w.heap.size, 2, _, rfl, Nat.zero_le _, by rw [hwa]; exact alloc_new _ _, Nat.le_refl _, by decide, rfl, rfl⟩⟩ rfl ⟨fun k c hk => by
      match k, hk with
      | 0, hk => obtain rfl : (⟨1, 0, 0, 0⟩ : Kc) = c := by simpa using hk
                 exact ⟨rfl, rfl, by decide⟩
      | 1, hk => obtain rfl : (⟨3, 0, 0, 1⟩ : Kc) = c := by simpa using hk
                 exact ⟨rfl, rfl, by decide⟩
      | k + 2, hk => simp at hk, by simp⟩ hwb (by decide)
  rw [List.nil_append] at h1
  obtain ⟨hd1, hown1, -⟩ := h1.own
  obtain ⟨lo1, lc1, rfl⟩ := row_slice hown1
  simp only [List.length_singleton] at hr1
  rw [hza] at hr1
  have HS : Hid (SI w so sn A Ln Cn Z) := h
  have H1 : Hid _ := h1
  have HN : Hid (N = w.heap.size) := hN
  rw [hwb, hwa] at hr1
  clear h k0 hown1 h1 ta hwb hwa hza hN
  go_enter Try.func3, Try.ntmps3
  go_upto_region 4 with (at_builtin; refine wpList_app _ rfl _ _ 23 rfl rfl _ _ rfl rfl hr1 ?_)
  clear hr1
  go_wp2_with fail
  go_loopg [3, 4, 5] 40 (fun kx s3 s4 s5 wr => ∃ (i many : Nat) (lo : Option Addr) (lc : Nat) (ls : List (List Kc)), s3 = .slice lo (i + 1) lc ∧ s4 = .int .i64 many ∧ s5 = .int .i64 i ∧ 40 - i ≤ kx ∧ i ≤ 40 ∧ many ≤ 2 + 60 * i ∧ Hid (KL N w wr (.slice lo (i + 1) lc) ls ∧ ls.length = i + 1 ∧ many = tot ls))
  case atStart => exact ⟨0, 2, lo1, lc1, _, rfl, rfl, rfl, by omega, by omega, by omega, (⟨H1.out, rfl, rfl⟩ : KL N w w1 (.slice lo1 (0 + 1) lc1) [[⟨1, 0, 0, 0⟩, ⟨3, 0, 0, 1⟩]] ∧ _ ∧ _)⟩
  case round =>
    obtain ⟨i, many, lo, lc, ls, rfl, rfl, rfl, hk, hi40, hmany, I⟩ := hrel
    rename World => wr
    go_upto_region 5 with (fail)
    go_cut [26] from 19 to 26 (fun s wc => (∃ d : Bool, s = .bool d ∧ (d = true → i < sn ∧ i < 40)) ∧ wr = wc)
    case first =>
      by_cases h1 : i < sn
      · have h1' : (i : Int) < (sn : Int) := by omega
        by_cases h2 : i < 40
        · have h2' : (i : Int) < 40 := by omega
          go_wp2_with fail
          go_meet
          case rel => exact ⟨⟨true, rfl, fun _ => ⟨h1, h2⟩⟩, rfl⟩
        · have h2' : ¬ (i : Int) < 40 := by omega
          go_wp2_with fail
          go_meet
          case rel => exact ⟨⟨false, rfl, fun h => by cases h⟩, rfl⟩
      · have h1' : ¬ (i : Int) < (sn : Int) := by omega
        go_wp2_with fail
        go_meet
        case rel => exact ⟨⟨false, rfl, fun h => by cases h⟩, rfl⟩
    case rest =>
      obtain ⟨⟨d, rfl, hd⟩, rfl⟩ := hcut
      cases d with
      | true =>
        obtain ⟨h1, h2⟩ := hd rfl
        have h1' : (i : Int) < (sn : Int) := by omega
        have h2' : (i : Int) < 40 := by omega
        obtain ⟨gs, os, rfl, cs⟩ := (HS.out.no I.out.1.tch).row i h1
        obtain ⟨ln, hln⟩ : ∃ ln, ln = Ln i := ⟨_, rfl⟩
        rw [← hln] at cs
        have HLN : Hid (ln = Ln i) := hln
        rename World => wr0
        go_wp2_with fail
        go_loopg [4, 6, 7, 8] 60 (fun kx s4 s6 s7 s8 wx => ∃ (k mk at' : Nat) (ro : Option Addr) (rc : Nat) (r : List Kc), s4 = .int .i64 mk ∧ s6 = .int .i64 at' ∧ s7 = .slice ro k rc ∧ s8 = .int .i64 k ∧ 60 - k ≤ kx ∧ k ≤ 60 ∧ mk = many + k ∧ at' ≤ 3 * k ∧ Hid (wx.ownsRow wr0.heap.size 27 6 (.slice ro k rc) r.length (kcl r) ∧ r.length = k ∧ GR (ls.length : Nat) r at' ∧ Tch (fun i => wr0.heap.size ≤ i) wr0 wx))
        case atStart => exact ⟨0, many, 0, none, 0, [], rfl, rfl, rfl, rfl, by omega, by omega, by omega, by omega, (⟨World.ownsRow_nil _ _ _ _, rfl, GR.nil _ _, Tch.refl _ _⟩ : wr0.ownsRow wr0.heap.size 27 6 (.slice none 0 0) ([] : List Kc).length (kcl []) ∧ ([] : List Kc).length = 0 ∧ GR (ls.length : Nat) [] ((0 : Nat) : Int) ∧ Tch (fun i => wr0.heap.size ≤ i) wr0 wr0)⟩
        case round =>
          rename World => wx
          obtain ⟨k, mk, at', ro, rc, r, rfl, rfl, rfl, rfl, hk2, hk60, hmk, hat, J⟩ := hrel
          have HMK : Hid (mk = many + k) := hmk
          have hmkb : mk ≤ 5000 := by omega
          clear hmk
          have hsx : Hid (SI wx (some ⟨gs, os, none⟩) sn A Ln Cn Z) := HS.out.no (I.out.1.tch.trans J.out.2.2.2 (fun i hi e => by have := I.out.1.tch.size; omega))
          have cs2 : wx.cell? ⟨gs, os + i, none⟩ = some (.slice (A i) ln (Cn i)) := by
            obtain ⟨g, o, e, hc⟩ := hsx.out.row i h1
            simp only [Option.some.injEq, Addr.mk.injEq, and_true] at e
            obtain ⟨rfl, rfl⟩ := e
            rw [HLN.out]; exact hc
          by_cases hk3 : k < ln
          · have hk3' : (k : Int) < (ln : Int) := by omega
            by_cases hk4 : k < 60
            · have hk4' : (k : Int) < 60 := by omega
              obtain ⟨gk, ok, eA, ck, z1, z2⟩ := hsx.out.el i h1 k (by rw [← HLN.out]; exact hk3)
              rw [eA] at cs2
              obtain ⟨Zk, hZk⟩ : ∃ Zk, Zk = Z i k := ⟨_, rfl⟩
              rw [← hZk] at ck z1 z2
              have q := pick_any Zk z1 z2 wx
              clear hZk z1 z2
              go_wp2_with fail
              refine q.mono ?_
              rintro e w2 ⟨⟨m, rfl, hm⟩, rfl⟩
              clear q cs cs2 ck eA
              obtain ⟨i0, hi0, hz0, hz1, hz2⟩ := info_parts info_ch
              obtain ⟨c, hc⟩ : ∃ c : Kc, c = ⟨((at' + m : Nat) : Int), (ls.length : Nat), 0, r.length⟩ := ⟨_, rfl⟩
              obtain ⟨wy, hwy⟩ : ∃ wy, wy = w2.alloc (.cells #[.int .i64 c.l, .int .i64 c.x, .int .i64 c.k, .int .i64 c.t, .slice none 0 0, .slice none 0 0] 27) := ⟨_, rfl⟩
              have ty : Tch (fun _ => False) w2 wy := by rw [hwy]; exact Tch.alloc _ _ _
              have by' : wy.heap[w2.heap.size]? = some (.cells (kc6 c).toArray 27 (0, 0)) := by rw [hwy]; exact alloc_new _ _
              have howny := own_tch J.out.1 ty (fun _ _ h => h)
              have hrl := J.out.2.1
              obtain ⟨v1, w3, hr3, hown3, hgr3, _, _⟩ := run_append_own_at (P := Try.prog) wy wr0.heap.size 28 28 27 i0 _ 6 80 Try.underlying28 hi0 hz0 hz1 hz2 rfl (by decide) _ _ _ howny ⟨w2.heap.size, 0, none⟩ 1 1 (kc6 c) rfl (fun j u hu => by rw [add_plain, Nat.zero_add, blk_cell by', List.getElem?_toArray]; exact hu)
                (fun u hu => by simp only [kc6, List.mem_cons, List.not_mem_nil, or_false] at hu; rcases hu with rfl | rfl | rfl | rfl | rfl | rfl <;> rfl) (by unfold maxLen; omega) (by omega) (Nat.le_trans J.out.2.2.2.size ty.size)
              have t3 : Tch (fun i => (Value.slice ro k rc).ownBlock = some i) wy w3 := Tch.of_grown hgr3 (fun g e => e)
              obtain ⟨o1, c1, rfl⟩ := row_slice hown3
              have J3 : Hid (w3.ownsRow wr0.heap.size 27 6 (.slice o1 (k + 1) c1) (r ++ [c]).length (kcl (r ++ [c])) ∧ (r ++ [c]).length = k + 1 ∧ GR (ls.length : Nat) (r ++ [c]) ((at' + m : Nat) : Int) ∧ Tch (fun i => wr0.heap.size ≤ i) wr0 w3) := by
                refine ⟨?_, by rw [List.length_append, List.length_singleton, hrl], ?_, ?_⟩
                · rw [kcl_snoc, List.length_append, List.length_singleton, hrl]; rw [hrl] at hown3; exact hown3
                · rw [hc]; exact J.out.2.2.1.snoc (by omega)
                · exact (J.out.2.2.2.trans ty (fun _ _ h => h.elim)).trans t3 (fun i hi e => (howny.lt i e).1)
              rw [hrl] at hr3
              rw [hwy, hc] at hr3
              simp only [I.out.2.1, hrl] at hr3
              have hr4 : (Builtin.append_ #[28, 28] 28 #[.slice ro k rc, .slice (some ⟨w2.heap.size, 0, none⟩) 1 1]).run Try.prog (w2.alloc (.cells #[.int .i64 ((at' : Int) + (m : Int)), .int .i64 ((i : Int) + 1), .int .i64 0, .int .i64 (k : Int), .slice none 0 0, .slice none 0 0] 27)) = .ok (.slice o1 (k + 1) c1) w3 := hr3
              clear hc hwy ty by' howny hrl hown3 hgr3 t3 hr3 hi0 hz0 hz1 hz2
              go_wp2_with (at_builtin; refine wpList_app _ rfl _ _ 28 rfl rfl _ _ rfl rfl hr4 ?_)
              go_roundg (60 - (k + 1))
              case measure => omega
              case rel => exact ⟨k + 1, mk + 1, at' + m, o1, c1, r ++ [c], rfl, rfl, rfl, rfl, by omega, by omega, by have := HMK.out; omega, by omega, J3⟩
            · have hk4' : ¬ (k : Int) < 60 := by omega
              obtain ⟨wz, hwz⟩ : ∃ wz, wz = wx.alloc (.cells #[.slice ro k rc] 28) := ⟨_, rfl⟩
              obtain ⟨v', w3, hr3, h3⟩ := (I.out.1.later J.out.2.2.2).more (by have := HN.out; omega) (by have := HN.out; omega) J.out.1 J.out.2.1.symm J.out.2.2.1 hwz (by have := I.out.2.1; omega)
              obtain ⟨hd3, hown3, _⟩ := id h3.own
              obtain ⟨o3, c3, rfl⟩ := row_slice hown3
              have H3 : Hid (KL N w w3 (.slice o3 (i + 1 + 1) c3) (ls ++ [r]) ∧ (ls ++ [r]).length = i + 1 + 1 ∧ mk = tot (ls ++ [r])) := by
                rw [List.length_append, List.length_singleton, I.out.2.1] at h3 ⊢
                exact ⟨h3, rfl, by rw [tot_snoc, ← I.out.2.2, J.out.2.1]; exact HMK.out⟩
              rw [List.length_append, List.length_singleton, I.out.2.1, hwz] at hr3
              clear hwz hown3 h3
              go_wp2_with (at_builtin; refine wpList_app _ rfl _ _ 23 rfl rfl _ _ rfl rfl hr3 ?_)
              go_roundg (40 - (i + 1))
              case measure => omega
              case rel => exact ⟨i + 1, mk, o3, c3, _, rfl, rfl, rfl, by omega, by omega, by have := HMK.out; omega, H3⟩
          · have hk3' : ¬ (k : Int) < (ln : Int) := by omega
            obtain ⟨wz, hwz⟩ : ∃ wz, wz = wx.alloc (.cells #[.slice ro k rc] 28) := ⟨_, rfl⟩
            obtain ⟨v', w3, hr3, h3⟩ := (I.out.1.later J.out.2.2.2).more (by have := HN.out; omega) (by have := HN.out; omega) J.out.1 J.out.2.1.symm J.out.2.2.1 hwz (by have := I.out.2.1; omega)
            obtain ⟨hd3, hown3, _⟩ := id h3.own
            obtain ⟨o3, c3, rfl⟩ := row_slice hown3
            have H3 : Hid (KL N w w3 (.slice o3 (i + 1 + 1) c3) (ls ++ [r]) ∧ (ls ++ [r]).length = i + 1 + 1 ∧ mk = tot (ls ++ [r])) := by
              rw [List.length_append, List.length_singleton, I.out.2.1] at h3 ⊢
              exact ⟨h3, rfl, by rw [tot_snoc, ← I.out.2.2, J.out.2.1]; exact HMK.out⟩
            rw [List.length_append, List.length_singleton, I.out.2.1, hwz] at hr3
            clear hwz hown3 h3
            go_wp2_with (at_builtin; refine wpList_app _ rfl _ _ 23 rfl rfl _ _ rfl rfl hr3 ?_)
            go_roundg (40 - (i + 1))
            case measure => omega
            case rel => exact ⟨i + 1, mk, o3, c3, _, rfl, rfl, rfl, by omega, by omega, by have := HMK.out; omega, H3⟩
      | false =>
        have hlen := I.out.2.1
        obtain ⟨hd, hLL, hlc⟩ := I.out.1.lls (by omega)
        have q := lists_any wr lo lc hd ls hLL hlc (by omega) (by rw [← I.out.2.2]; omega)
        rw [hlen] at q
        have HLL : Hid _ := hLL
        clear hLL hlc hlen
        go_wp2_with fail
        refine q.mono ?_
        rintro e w2 ⟨v, out, rfl, hmg, hown, t2⟩
        obtain ⟨oo, oc, rfl⟩ := row_slice hown
        have hol : out.length = many := hmg.len.trans I.out.2.2.symm
        rw [hol]
        have hmk : ∀ W : World, (Instr.makeSlice 29 (.int .i64 ((i : Int) + 1)) (.int .i64 ((i : Int) + 1))).run Try.prog W = .ok (.slice (some ⟨W.heap.size, 0, none⟩) (i + 1) (i + 1)) (W.alloc (.cells (ncl (List.replicate (i + 1) 0)).toArray 3)) := fun W => mk_ints (i + 1) (by omega) W
        obtain ⟨nb, hnb⟩ : ∃ nb, nb = w2.heap.size := ⟨_, rfl⟩
        obtain ⟨w3, hw3⟩ : ∃ w3, w3 = w2.alloc (.cells (ncl (List.replicate (i + 1) 0)).toArray 3) := ⟨_, rfl⟩
        have t3 : Tch (fun _ => False) w2 w3 := by rw [hw3]; exact Tch.alloc _ _ _
        have H3 : Hid (K3 w3 w3 nb ls out 0) := ⟨ls, List.replicate (i + 1) 0, by rw [← I.out.2.1]; exact V3.begin hmg, by rw [hw3, hnb]; exact alloc_new _ _, Tch.refl _ _⟩
        have hownw : w3.ownsRow wr.heap.size 27 6 (.slice oo many oc) out.length (kcl out) := by rw [← hol]; exact own_tch hown t3 (fun _ _ h => h)
        have hL3 : LLs wr.heap.size w3 lo hd ls := (HLL.out.tch (t2.mono (fun _ _ h => h.elim))).tch (t3.mono (fun _ _ h => h.elim))
        have hT3 : Tch (fun _ => False) w w3 := (I.out.1.tch.trans' t2).trans' t3
        have HW : Hid (w3.ownsRow wr.heap.size 27 6 (.slice oo many oc) out.length (kcl out) ∧ LLs wr.heap.size w3 lo hd ls ∧ Tch (fun _ => False) w w3 ∧ out.length = many ∧ wr.heap.size ≤ nb ∧ w.heap.size ≤ nb) := ⟨hownw, hL3, hT3, hol, by rw [hnb]; exact t2.size, by rw [hnb]; exact Nat.le_trans I.out.1.tch.size t2.size⟩
        have HNB : Hid (nb = _) := hnb
        have HW3 : Hid (w3 = _) := hw3
        clear q hmg hown t2 hol hw3 t3 hownw hL3 hT3 hnb
        go_upto_region 20 with (fail)
        rw [← HW3.out, ← HNB.out]
        clear hmk
        go_wp2_with fail
        go_loopg [11] many (fun kx s11 wz => ∃ p : Nat, s11 = .int .i64 p ∧ many - p ≤ kx ∧ p ≤ many ∧ Hid (K3 w3 wz nb ls out p))
        case atStart => exact ⟨0, rfl, by omega, by omega, H3⟩
        case round =>
          rename World => wz
          obtain ⟨p, rfl, hkp, hpm, K⟩ := hrel
          by_cases hp : p < many
          · have hp' : (p : Int) < (many : Int) := by omega
            obtain ⟨rs, nx, hV, hN3, tz⟩ := K.out
            obtain ⟨hown3, hL3, hT3, hol, hrn, hwn⟩ := HW.out
            obtain ⟨jj, r, n, c, hoc, hlr, hnx, hnr, hrc, hcx, hct, hord, hV'⟩ := hV.step I.out.1.good (by omega)
            have hjl : jj < ls.length := (List.getElem?_eq_some_iff.1 hlr).1
            have hlen := I.out.2.1
            have hjn : jj < nx.length := (List.getElem?_eq_some_iff.1 hnx).1
            have hownz := own_tch hown3 tz (fun g e e2 => by
              rcases hown3.2 with ⟨e3, _⟩ | ⟨g2, _, _, e3, _, hg2, _⟩
              · rw [e3] at e; cases e
              · rw [e3] at e
                have : g2 = g := by simpa [Value.ownBlock] using e
                subst this
                have hg2z : g2 = nb := e2
                subst hg2z
                have hNw : (w3.heap[g2]?).isSome := by rw [hg2]; rfl
                have hb3 : w3.heap[g2]? = some (.cells (ncl (List.replicate (i + 1) 0)).toArray 3 (0, 0)) := by rw [HW3.out, HNB.out]; exact alloc_new _ _
                exact ne_ty hg2 hb3 (by decide) rfl)
            have hLz : LLs wr.heap.size wz lo hd ls := hL3.tch (tz.mono (fun i _ e => by omega))
            obtain ⟨go, hgo, a0, a1, a3⟩ := own_nth hownz hoc
            subst hgo
            obtain ⟨gl, ol, ao, cp, hlo, l0, hrl⟩ := hLz.get hjl
            subst hlo
            have hrr : ls[jj] = r := by rw [List.getElem?_eq_getElem hjl] at hlr; simpa using hlr
            rw [hrr] at l0 hrl
            obtain ⟨ge, oe, hao, r0⟩ := hrl.nth hrc
            subst hao
            have n0 : wz.cell? ⟨nb, jj, none⟩ = some (.int .i64 (n : Int)) := by
              rw [blk_cell hN3, List.getElem?_toArray]
              show (nx.map _)[jj]? = _
              rw [List.getElem?_map, hnx]; rfl
            have fn0 := blk_frozen hN3 jj
            have hrcp := hrl.len
            have hrcm := hrl.cap
            obtain ⟨cl, hcl⟩ : ∃ cl, cl = c.l := ⟨_, rfl⟩
            rw [← hcl] at a0 r0
            rw [hcx] at a1
            rw [hct] at a3
            obtain ⟨rl, hrl'⟩ : ∃ rl, rl = r.length := ⟨_, rfl⟩
            rw [← hrl'] at l0 hnr hrcp
            have HV : Hid _ := hV'
            have HO : Hid (∀ p', 0 < p → out[p - 1]? = some p' → p'.l < cl ∨ p'.l = cl ∧ p'.x ≤ (jj : Int)) := fun p' h0 h1 => by rw [hcl, ← hcx]; exact hord p' h0 h1
            have HZ : Hid _ := And.intro hN3 (And.intro tz hownz)
            have HC : Hid (out[p]? = some c ∧ cl = c.l ∧ c.x = (jj : Int)) := ⟨hoc, hcl, hcx⟩
            have HJ : Hid (jj < nx.length) := hjn
            have i1 : (jj : Int) < (i : Int) + 1 := by omega
            have i2 : (n : Int) < (rl : Int) := by omega
            have g1 : decide ((jj : Int) < 0) = false := decide_eq_false (by omega)
            have g2 : decide ((i : Int) + 1 ≤ (jj : Int)) = false := decide_eq_false (by omega)
            have g3 : decide ((rl : Int) ≤ (n : Int)) = false := decide_eq_false (by omega)
            have hn5 : n ≤ 100000 := by have := tot_mem hlr; have := I.out.2.2; omega
            clear hV hN3 tz hown3 hL3 hT3 hol hrn hwn hoc hlr hnx hrc hcx hct hord hV' hjl hlen hjn hownz hLz hrr hrl hrl' hcl
            go_wp2_with fail
            go_quiet (fail)
            obtain ⟨wq, hwq⟩ : ∃ wq, wq = wz.drewN nq := ⟨_, rfl⟩
            rw [← hwq]
            have tq : Tch (fun _ => False) wz wq := by rw [hwq]; exact (Tch.refl _ _).drewN nq
            obtain ⟨hN3, tz, hownz⟩ := HZ.out
            have hNq := (tq.block nb (blk_lt hN3) (fun h => h)).trans hN3
            have m0 := (tq.cell (p := ⟨nb, jj, none⟩) (cell_lt n0) (fun h => h)).trans n0
            have fm0 := blk_frozen hNq jj
            obtain ⟨W4, hW4⟩ : ∃ W4, W4 = wq.setCell ⟨nb, jj, none⟩ (.int .i64 ((n : Int) + 1)) := ⟨_, rfl⟩
            have tW : Tch (fun i => i = nb) wq W4 := by rw [hW4]; exact Tch.setCell (fun i => i = nb) _ _ _ rfl
            have hN4 : W4.heap[nb]? = some (.cells (ncl (nx.set jj (n + 1))).toArray 3 (0, 0)) := by
              rw [hW4, blk_set hNq]
              simp [ncl, List.map_set]
            have HK4 : Hid (∀ m, K3 w3 (W4.drewN m) nb ls out (p + 1)) := fun m => ⟨_, _, HV.out, ((Tch.refl (fun _ => False) W4).drewN m |>.block nb (blk_lt hN4) (fun h => h)).trans hN4, ((tz.trans tq (fun _ _ h => h.elim)).trans' tW).drewN m⟩
            have hown4 := own_tch (own_tch hownz tq (fun _ _ h => h)) tW (fun g e e2 => by
              rcases (own_tch hownz tq (fun _ _ h => h)).2 with ⟨e3, _⟩ | ⟨g2, _, _, e3, _, hg2, _⟩
              · rw [e3] at e; cases e
              · rw [e3] at e
                have : g2 = g := by simpa [Value.ownBlock] using e
                subst this
                subst e2
                exact ne_ty hg2 hNq (by decide) rfl)
            have HO4 : Hid _ := hown4
            have HW4 : Hid (W4 = _) := hW4
            clear hwq tq hN3 tz hownz hNq hW4 tW hN4 hown4 n0 fn0 a0 a1 a3 l0 r0 g1 g2 g3
            go_upto_region 27 with (fail)
            rw [← HW4.out]
            clear m0 fm0
            cases p with
            | zero =>
              go_quiet (fail)
              go_wp2
              go_roundg (many - 1)
              case measure => omega
              case rel => exact ⟨1, rfl, by omega, by omega, HK4.out _⟩
            | succ s =>
              obtain ⟨pv, hpv⟩ : ∃ pv, out[s]? = some pv := ⟨_, List.getElem?_eq_getElem (by have := (List.getElem?_eq_some_iff.1 HC.out.1).1; omega)⟩
              have hor := HO.out pv (Nat.succ_pos _) (by rw [Nat.add_sub_cancel]; exact hpv)
              obtain ⟨go', hgo', b0, b1, -⟩ := own_nth HO4.out hpv
              simp only [Option.some.injEq, Addr.mk.injEq, and_true] at hgo'
              subst hgo'
              obtain ⟨go', hgo', d0, d1, -⟩ := own_nth HO4.out HC.out.1
              simp only [Option.some.injEq, Addr.mk.injEq, and_true] at hgo'
              subst hgo'
              rw [← HC.out.2.1] at d0
              rw [HC.out.2.2] at d1
              obtain ⟨ql, hql⟩ : ∃ ql, ql = pv.l := ⟨_, rfl⟩
              obtain ⟨qx, hqx⟩ : ∃ qx, qx = pv.x := ⟨_, rfl⟩
              rw [← hql] at b0 hor
              rw [← hqx] at b1 hor
              clear hql hqx
              have g4 : decide (cl < ql) = false := decide_eq_false (by omega)
              have g6 : decide ((0 : Int) < (s : Int) + 1) = true := decide_eq_true (by omega)
              by_cases heq : cl = ql
              · subst heq
                have g5 : decide ((jj : Int) < qx) = false := decide_eq_false (by omega)
                clear hor
                go_quiet (fail)
                go_wp2
                go_roundg (many - (s + 1 + 1))
                case measure => omega
                case rel => exact ⟨s + 1 + 1, rfl, by omega, by omega, HK4.out _⟩
              · have g5 : (cl == ql) = false := by simpa using heq
                clear hor
                go_quiet (fail)
                go_wp2
                go_roundg (many - (s + 1 + 1))
                case measure => omega
                case rel => exact ⟨s + 1 + 1, rfl, by omega, by omega, HK4.out _⟩
          · have hp' : ¬ (p : Int) < (many : Int) := by omega
            go_wp2
            go_ret
            obtain ⟨rs, nx, hV, hN3, tz⟩ := K.out
            exact ⟨rfl, HW.out.2.2.1.trans tz (fun i hi e => by have := HW.out.2.2.2.2.2; omega)⟩
end Go.Proofs.Ytehcpmiogpanpaa
