/- FilesMakes, walked. -/
import Derived.Test.YtngdgglgmmlmkaaMakes2
import Derived.Test.YtngdgglgmmlmkaaBarv
namespace Go.Proofs.Ytngdgglgmmlmkaa
open Go.RowKit Go.ChangeMaps Go.Sort

theorem sumL_mem (g : Fl → Nat) {p : Nm × Fl} : ∀ {m : List (Nm × Fl)}, p ∈ m → g p.2 ≤ sumL g m
  | [], h => by cases h
  | z :: r, h => by
    simp only [sumL, List.map_cons, List.sum_cons]
    rcases List.mem_cons.1 h with rfl | h
    · omega
    · have := sumL_mem g h
      simp only [sumL] at this
      omega
theorem dk_used {w : World} {b : Nat} {d : Dsk} {σ : Nat → Option Nat} (h : DK w b d σ) : d.used ≤ 4611686018427387904 ∧ d.cap ≤ 1000000000 := by
  obtain ⟨mb, gm, h⟩ := h
  have h1 := h.room
  have h2 := h.cap
  exact ⟨by omega, h2⟩
theorem dk_la {w : World} {b : Nat} {d : Dsk} {σ : Nat → Option Nat} (h : DK w b d σ) : ∀ p ∈ d.m, p.2.la ≤ p.2.bs.length ∧ p.2.bs.length ≤ 9223372036854775807 := fun p hp => by
  have hu := dk_used h
  have hs := sumL_mem lenF hp
  obtain ⟨mb, gm, h⟩ := h
  have hs' : p.2.bs.length ≤ d.used := hs
  refine ⟨?_, by omega⟩
  rw [h.m] at hp
  obtain ⟨q, hq, rfl⟩ := List.mem_map.1 hp
  exact (h.fs q hq).le

set_option maxHeartbeats 4000000 in
set_option maxRecDepth 100000 in
theorem makes_any (c : Int) (ao : Option Addr) (n cap : Nat) (nm bs : Nat → ByteArray) (w : World) (hL : FLs w ao n nm bs) (hnil : ao = none → n = 0 ∧ cap = 0) (hn : (n + 2) * 40 ≤ 140737488355328) (hs : lens bs n ≤ 4611686018427387904) :
    Calls Try.prog 5 #[.int .i64 c, .slice ao n cap] w fun x w' => x = .returned (.bool true) ∧ Tch (fun _ => False) w w' := by
  have hld := loads_any c ao n cap nm bs w hL hnil hn hs
  go_enter Try.func5, Try.ntmps5
  go_wp2_with fail
  refine hld.mono ?_
  rintro x w1 ⟨dv, rv, rfl, ⟨e, hB⟩, t1⟩
  clear hld hL hnil
  by_cases hc : c < 1 ∨ 1000000000 < c
  · have hdr : dv = .pointer none ∧ rv = .pointer none := by
      rcases hB with ⟨h1, h2, _⟩ | ⟨_, k, hk, hok, _⟩
      · exact ⟨h1, h2⟩
      · exfalso
        have := hok.c1
        have := hok.c2
        omega
    obtain ⟨rfl, rfl⟩ := hdr
    clear hB
    have hnw := fun W => new_arg c W hc
    have hrw := fun W => rnew_arg c W hc
    clear hc
    obtain ⟨w2, hw2⟩ : ∃ w2, w2 = w1.alloc (.cells #[(.pointer none), (.pointer none), .int .i64 c] 53) := ⟨_, rfl⟩
    have t2 : Tch (fun _ => False) w1 w2 := by rw [hw2]; exact Tch.alloc _ _ _
    have pb : w2.heap[w1.heap.size]? = some (.cells #[(.pointer none), (.pointer none), .int .i64 c] 53 (0, 0)) := by rw [hw2]; exact box_one w1 _
    go_wp2_with fail
    rw [← hw2]
    clear hw2
    refine (hnw w2).mono ?_
    rintro x w3 ⟨rfl, hw3⟩
    have t3 : Tch (fun _ => False) w2 w3 := by rw [hw3]; exact Tch.refl _ _
    clear hw3
    go_wp2_with fail
    refine (hrw w3).mono ?_
    rintro x w4 ⟨rfl, hw4⟩
    have t4 : Tch (fun _ => False) w3 w4 := by rw [hw4]; exact Tch.refl _ _
    clear hw4
    clear hnw hrw
    go_wp2_with fail
    refine (own9 w4.heap.size _ (box_one w4 _)).mono ?_
    rintro x w5 ⟨b9, rfl, t5⟩
    have T5 := (t3.trans' t4).trans' ((Tch.alloc (fun _ => False) w4 _).trans' t5)
    clear t5 t3 t4
    go_wp2_with fail
    refine (own8 w5.heap.size _ (box_one w5 _)).mono ?_
    rintro x w6 ⟨rfl, t6⟩
    have T6 := T5.trans' ((Tch.alloc (fun _ => False) w5 _).trans' t6)
    clear t6 T5
    have pb6 := (T6.block _ (blk_lt pb) (fun h => h)).trans pb
    have p0 : w6.cell? ⟨w1.heap.size, 0, none⟩ = some (.pointer none) := by rw [blk_cell pb6]; rfl
    have p1 : w6.cell? ⟨w1.heap.size, 1, none⟩ = some (.pointer none) := by rw [blk_cell pb6]; rfl
    have TW : Tch (fun _ => False) w w6 := (t1.trans' t2).trans' T6
    clear pb pb6 T6 t1 t2
    go_wp2
    go_ret
    exact ⟨rfl, TW⟩
  · obtain ⟨k, hk⟩ : ∃ k : Nat, c = k := ⟨c.toNat, by omega⟩
    have hnw := fun W => new_any k W (by omega) (by omega)
    have hrw := fun W => rnew_any k W (by omega) (by omega)
    rw [← hk] at hnw hrw
    have HK : Hid (c = (k : Int)) := hk
    clear hk hc
    rcases hB with ⟨rfl, rfl, _⟩ | ⟨_, k', hk', hok, b, rb, v, rfl, rfl, hD, hR, _, _⟩
    · obtain ⟨w2, hw2⟩ : ∃ w2, w2 = w1.alloc (.cells #[(.pointer none), (.pointer none), .int .i64 c] 53) := ⟨_, rfl⟩
      have t2 : Tch (fun _ => False) w1 w2 := by rw [hw2]; exact Tch.alloc _ _ _
      have pb : w2.heap[w1.heap.size]? = some (.cells #[(.pointer none), (.pointer none), .int .i64 c] 53 (0, 0)) := by rw [hw2]; exact box_one w1 _
      go_wp2_with fail
      rw [← hw2]
      clear hw2
      refine (hnw w2).mono ?_
      rintro x w3 ⟨b1, rfl, _, t3⟩
      go_wp2_with fail
      refine (hrw w3).mono ?_
      rintro x w4 ⟨b2, rfl, _, _, t4⟩
      clear hnw hrw
      go_wp2_with fail
      refine (own9 w4.heap.size _ (box_one w4 _)).mono ?_
      rintro x w5 ⟨b9, rfl, t5⟩
      have T5 := (t3.trans' t4).trans' ((Tch.alloc (fun _ => False) w4 _).trans' t5)
      clear t5 t3 t4
      go_wp2_with fail
      refine (own8 w5.heap.size _ (box_one w5 _)).mono ?_
      rintro x w6 ⟨rfl, t6⟩
      have T6 := T5.trans' ((Tch.alloc (fun _ => False) w5 _).trans' t6)
      clear t6 T5
      have pb6 := (T6.block _ (blk_lt pb) (fun h => h)).trans pb
      have p0 : w6.cell? ⟨w1.heap.size, 0, none⟩ = some (.pointer none) := by rw [blk_cell pb6]; rfl
      have p1 : w6.cell? ⟨w1.heap.size, 1, none⟩ = some (.pointer none) := by rw [blk_cell pb6]; rfl
      have TW : Tch (fun _ => False) w w6 := (t1.trans' t2).trans' T6
      clear pb pb6 T6 t1 t2
      go_wp2
      go_ret
      exact ⟨rfl, TW⟩
    · have HK' : Hid (c = (k' : Int)) := hk'
      clear hk'
      obtain ⟨w2, hw2⟩ : ∃ w2, w2 = w1.alloc (.cells #[(.pointer (some ⟨b, 0, none⟩)), (.pointer (some ⟨rb, 0, none⟩)), .int .i64 c] 53) := ⟨_, rfl⟩
      have t2 : Tch (fun _ => False) w1 w2 := by rw [hw2]; exact Tch.alloc _ _ _
      have pb : w2.heap[w1.heap.size]? = some (.cells #[(.pointer (some ⟨b, 0, none⟩)), (.pointer (some ⟨rb, 0, none⟩)), .int .i64 c] 53 (0, 0)) := by rw [hw2]; exact box_one w1 _
      go_wp2_with fail
      rw [← hw2]
      clear hw2
      refine (hnw w2).mono ?_
      rintro x w3 ⟨b1, rfl, _, t3⟩
      go_wp2_with fail
      refine (hrw w3).mono ?_
      rintro x w4 ⟨b2, rfl, _, _, t4⟩
      clear hnw hrw
      go_wp2_with fail
      refine (own9 w4.heap.size _ (box_one w4 _)).mono ?_
      rintro x w5 ⟨b9, rfl, t5⟩
      have T5 := (t3.trans' t4).trans' ((Tch.alloc (fun _ => False) w4 _).trans' t5)
      clear t5 t3 t4
      go_wp2_with fail
      refine (own8 w5.heap.size _ (box_one w5 _)).mono ?_
      rintro x w6 ⟨rfl, t6⟩
      have T6 := T5.trans' ((Tch.alloc (fun _ => False) w5 _).trans' t6)
      clear t6 T5
      have pb6 := (T6.block _ (blk_lt pb) (fun h => h)).trans pb
      have p0 : w6.cell? ⟨w1.heap.size, 0, none⟩ = some (.pointer (some ⟨b, 0, none⟩)) := by rw [blk_cell pb6]; rfl
      have p1 : w6.cell? ⟨w1.heap.size, 1, none⟩ = some (.pointer (some ⟨rb, 0, none⟩)) := by rw [blk_cell pb6]; rfl
      have TW : Tch (fun _ => False) w w6 := (t1.trans' t2).trans' T6
      have T26 : Tch (fun _ => False) w1 w6 := t2.trans' T6
      have hD6 := hD.no T26
      have hR6 := hR.no T26
      clear hD hR pb pb6 T6 t1 t2 T26
      obtain ⟨σ, hK0, hF0⟩ := hD6
      have hml := length_mk3 nm bs n
      have hfi := files_any b _ σ w6 hK0 (by show (mk3 nm bs n n).length * 32 ≤ _; omega)
      have hla := dk_la hK0
      have hus := dk_used hK0
      have hDF : DF w6 b (mkD k' (mk3 nm bs n n)) (fun _ => False) := ⟨σ, hK0, fun i hi => hi.elim⟩
      have hlen : ((mkD k' (mk3 nm bs n n)).m.length + 1) * 40 ≤ 140737488355328 := by show ((mk3 nm bs n n).length + 1) * 40 ≤ _; omega
      clear hK0 hF0 hok hs hml
      generalize (mkD k' (mk3 nm bs n n)) = D at *
      go_wp2_with fail
      refine hfi.mono ?_
      rintro x w7 ⟨sb, rfl, hO, hsb, t7⟩
      clear hfi
      obtain ⟨C, hC⟩ : ∃ C : List Value → World → Prop, C = fun s W => Tch (fun _ => False) w7 W ∧ ∀ v, s.head? = some v → ∃ ao cp, v = .slice ao D.m.length cp ∧ FLs W ao D.m.length (rnm D.m) (rbs D.m) := ⟨_, rfl⟩
      have kp : ∀ s W W', C s W → Tch (fun _ => False) W W' → C s W' := fun s W W' h t => by
        rw [hC] at h ⊢
        refine ⟨h.1.trans' t, fun v hv => ?_⟩
        obtain ⟨ao, cp, e1, e2⟩ := h.2 v hv
        exact ⟨ao, cp, e1, e2.no t⟩
      have kt : ∀ s W, C s W → Tch (fun _ => False) w6 W := fun s W h => by
        rw [hC] at h
        exact t7.trans' h.1
      have hc : ∀ s W, C s W → W.cell? ⟨w1.heap.size, 0, none⟩ = some (.pointer (some ⟨b, 0, none⟩)) ∧ W.cell? ⟨w1.heap.size, 1, none⟩ = some (.pointer (some ⟨rb, 0, none⟩)) := fun s W h =>
        ⟨((kt s W h).cell (p := ⟨_, _, none⟩) (cell_lt p0) (fun h => h)).trans p0, ((kt s W h).cell (p := ⟨_, _, none⟩) (cell_lt p1) (fun h => h)).trans p1⟩
      have HF1 : ∀ W, C [] W → Calls Try.prog 31 #[.pointer (some ⟨rb, 0, none⟩)] W fun x w' => ∃ u, x = .returned u ∧ C [u] w' := fun W h => by
        refine (rfiles_any rb D v 0 W (hR6.no (kt _ _ h)) hlen hla).mono ?_
        rintro x w' ⟨ao, cp, rfl, hl, ht⟩
        refine ⟨_, rfl, ?_⟩
        rw [hC] at h ⊢
        exact ⟨h.1.trans' ht, fun u hu => by cases hu; exact ⟨ao, cp, rfl, hl⟩⟩
      have hcs : ∀ s W u, s.head? = some u → C s W → ∃ ao cp, u = .slice ao D.m.length cp := fun s W u hu h => by
        rw [hC] at h
        obtain ⟨ao, cp, e1, _⟩ := h.2 u hu
        exact ⟨ao, cp, e1⟩
      have HS : ∀ s W ao cp, s.head? = some (.slice ao D.m.length cp) → C s W → Calls Try.prog 30 #[.slice (some ⟨sb, 0, none⟩) D.m.length D.m.length, .slice ao D.m.length cp] W fun x w' => x = .returned (.bool true) ∧ C s w' := fun s W ao cp hu h => by
        have h' := h
        rw [hC] at h
        obtain ⟨ao', cp', e1, e2⟩ := h.2 _ hu
        simp only [Value.slice.injEq, true_and] at e1
        obtain ⟨rfl, rfl⟩ := e1
        have hO' := hO.tch h.1 (fun h => h)
        have hl1 : FLs W (some ⟨sb, 0, none⟩) D.m.length (rnm D.m) (rbs D.m) := fun i hi => ⟨sb, 0, rfl, by rw [Nat.zero_add]; exact (hO'.got i hi).1, by rw [Nat.zero_add]; exact (hO'.got i hi).2⟩
        refine (samef_any _ _ _ _ _ _ _ W hl1 e2 (by omega)).mono ?_
        rintro x w' ⟨rfl, m, rfl⟩
        exact ⟨rfl, kp _ _ _ h' ((Tch.refl _ _).drewN m)⟩
      have HA : ∀ s W, C s W → Calls Try.prog 24 #[.pointer (some ⟨b, 0, none⟩)] W fun x w' => x = .returned (.int .i64 ((D.cap : Int) - D.used)) ∧ C s w' := fun s W h => by
        refine (free_f b D _ W (hDF.no (kt _ _ h))).mono ?_
        rintro x w' ⟨rfl, m, rfl⟩
        exact ⟨rfl, kp _ _ _ h ((Tch.refl _ _).drewN m)⟩
      have HB : ∀ s W, C s W → Calls Try.prog 32 #[.pointer (some ⟨rb, 0, none⟩)] W fun x w' => x = .returned (.int .i64 ((D.cap : Int) - D.used)) ∧ C s w' := fun s W h => by
        refine (rfree_any rb D v 0 W (hR6.no (kt _ _ h)) (by omega) hus.1 hus.2).mono ?_
        rintro x w' ⟨rfl, rfl⟩
        exact ⟨rfl, h⟩
      have s0 : C [] w7.drew := by rw [hC]; exact ⟨(Tch.refl _ _).drew, fun v h => by cases h⟩
      have hend : ∀ s W, C s W → Tch (fun _ => False) w W := fun s W h => TW.trans' (kt s W h)
      clear kp kt hC hDF hR6 hO hla hus hlen p0 p1 TW t7 hsb
      generalize D.m.length = L at *
      generalize (D.cap : Int) - D.used = X at *
      go_wp2_with fail
      refine wp_region_barv [3] C (by kernel_rfl) (by kernel_rfl) (by kernel_rfl) s0 ?_
      clear s0
      iterate 3 (refine barv_read (by go_simp) (by rfl) ?_
                 apply Exists.intro
                 refine ⟨fun s' W hW b K Q hK => ?_, fun K hK => ?_⟩
                 obtain ⟨q0, q1⟩ := hc _ W hW
                 go_simp
                 exact hK W hW
                 go_simp
                 refine hK _ ?_
                 clear hK K)
      refine barv_turn (by go_simp) (by rfl) (fun W hW b K Q hK => ?_) (fun u hu K hK => ?_)
      · go_simp
        go_at_call 31
        refine (HF1 W hW).mono ?_
        rintro x w' ⟨u, rfl, h1⟩
        exact hK u w' h1
      obtain ⟨Wu, hWu⟩ := hu
      obtain ⟨ao', cp', rfl⟩ := hcs _ Wu u rfl hWu
      clear hWu
      go_simp
      refine hK _ ?_
      clear hK K
      refine barv_read (by go_simp) (by rfl) ?_
      apply Exists.intro
      refine ⟨fun s' W hW b K Q hK => ?_, fun K hK => ?_⟩
      go_simp
      go_at_call 30
      refine (HS _ W ao' cp' rfl hW).mono ?_
      rintro x w' ⟨rfl, h1⟩
      exact hK _ h1
      go_simp
      refine hK _ ?_
      clear hK K
      repeat (first
        | (refine barv_read (by go_simp) (by rfl) ?_
           apply Exists.intro
           refine ⟨fun s' W hW b K Q hK => ?_, fun K hK => ?_⟩
           obtain ⟨q0, q1⟩ := hc _ W hW
           go_simp
           first
             | exact hK W hW
             | (go_at_call 24; refine (HA _ W hW).mono ?_; rintro x w' ⟨rfl, h1⟩; exact hK _ h1)
             | (go_at_call 32; refine (HB _ W hW).mono ?_; rintro x w' ⟨rfl, h1⟩; exact hK _ h1)
           go_simp
           refine hK _ ?_
           clear hK K))
      refine barv_nil ?_
      intro w8 hw8
      have hT := hend _ _ hw8
      clear hw8 hend hc HF1 hcs HS HA HB
      go_wp2
      go_ret
      exact ⟨rfl, hT⟩
end Go.Proofs.Ytngdgglgmmlmkaa
