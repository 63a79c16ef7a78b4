import Derived.Test.YtmaekkhmiafnmaaGreatDoorET6
import Derived.Test.YtmaekkhmiafnmaaGreatDoorET1
import Derived.Deep.RegionHeld3
set_option maxHeartbeats 2000000
set_option maxRecDepth 100000
namespace Go.Proofs.YtmaekkhmiafnmaaGreatDoor
open Go.RowKit Go
def PB (w : World) (pb : Nat) (L : List Ct) : Prop :=
  ∃ ao c, w.cell? ⟨pb, 0, none⟩ = some (.slice ao L.length c) ∧ w.frozen? ⟨pb, 0, none⟩ = false ∧ L.length ≤ c ∧ (L ≠ [] → ∃ tb o, ao = some ⟨tb, o, none⟩ ∧ At w tb o (ctl L) ∧ tb < pb)
theorem PB.lt {w : World} {pb : Nat} {L : List Ct} (h : PB w pb L) : pb < w.heap.size := by
  obtain ⟨ao, c, h1, _⟩ := h
  exact cell_lt h1
theorem PB.no {w w' : World} {pb : Nat} {L : List Ct} (h : PB w pb L) (t : Tch (fun _ => False) w w') : PB w' pb L := by
  have hl := h.lt
  obtain ⟨ao, c, h1, h2, h3, h4⟩ := h
  refine ⟨ao, c, (t.cell (p := ⟨pb, 0, none⟩) hl (fun e => e)).trans h1, (t.frozen (p := ⟨pb, 0, none⟩) hl (fun e => e)).trans h2, h3, fun hne => ?_⟩
  obtain ⟨tb, o, e, ha, hd⟩ := h4 hne
  exact ⟨tb, o, e, ha.tch t (fun _ e => e), hd⟩
theorem PB.far {S : Nat → Prop} {w w' : World} {pb : Nat} {L : List Ct} (h : PB w pb L) (t : Tch S w w') (hS : ∀ i, S i → pb < i) : PB w' pb L := by
  have hl := h.lt
  obtain ⟨ao, c, h1, h2, h3, h4⟩ := h
  have hn : ¬ S pb := fun h => Nat.lt_irrefl _ (hS pb h)
  refine ⟨ao, c, (t.cell (p := ⟨pb, 0, none⟩) hl hn).trans h1, (t.frozen (p := ⟨pb, 0, none⟩) hl hn).trans h2, h3, fun hne => ?_⟩
  obtain ⟨tb, o, e, ha, hd⟩ := h4 hne
  exact ⟨tb, o, e, ha.tch t (fun _ h => by have := hS tb h; omega), hd⟩
abbrev tkV (c : Ct) : Value := .agg #[.int .i64 (c.k : Nat), .string c.b, .int .i64 (c.p : Nat)]
abbrev refV (why : Int) (p : Nat) : Value := .iface 57 (.agg #[.int .i64 why, .int .i64 (p : Nat)])
theorem PB.after {w : World} {pb : Nat} {L : List Ct} {v0 : Value} {ao' : Option Addr} {cp' : Nat} (a b d : Value) (ty : TypeId) (o2 : Obj) (h1 : w.cell? ⟨pb, 0, none⟩ = some v0) (h2 : w.frozen? ⟨pb, 0, none⟩ = false) (hc : L.length ≤ cp')
    (hm : L ≠ [] → ∃ tb o, ao' = some ⟨tb, o, none⟩ ∧ At w tb o (ctl L) ∧ tb < pb) :
    PB (((w.setCell ⟨pb, 0, none⟩ (.slice ao' L.length cp')).alloc (.cells #[a, b, d] ty)).alloc o2) pb L ∧ Tch (fun i => i = pb) w (((w.setCell ⟨pb, 0, none⟩ (.slice ao' L.length cp')).alloc (.cells #[a, b, d] ty)).alloc o2) ∧
    (((w.setCell ⟨pb, 0, none⟩ (.slice ao' L.length cp')).alloc (.cells #[a, b, d] ty)).alloc o2).cell? ⟨w.heap.size, 0, none⟩ = some a ∧ (((w.setCell ⟨pb, 0, none⟩ (.slice ao' L.length cp')).alloc (.cells #[a, b, d] ty)).alloc o2).cell? ⟨w.heap.size, 1, none⟩ = some b ∧ (((w.setCell ⟨pb, 0, none⟩ (.slice ao' L.length cp')).alloc (.cells #[a, b, d] ty)).alloc o2).cell? ⟨w.heap.size, 2, none⟩ = some d := by
  have e : (w.setCell ⟨pb, 0, none⟩ (.slice ao' L.length cp')).heap.size = w.heap.size := by simp
  have tA : Tch (fun _ => False) ((w.setCell ⟨pb, 0, none⟩ (.slice ao' L.length cp')).alloc (.cells #[a, b, d] ty)) (((w.setCell ⟨pb, 0, none⟩ (.slice ao' L.length cp')).alloc (.cells #[a, b, d] ty)).alloc o2) := Tch.alloc _ _ _
  have tB : Tch (fun _ => False) (w.setCell ⟨pb, 0, none⟩ (.slice ao' L.length cp')) (((w.setCell ⟨pb, 0, none⟩ (.slice ao' L.length cp')).alloc (.cells #[a, b, d] ty)).alloc o2) := (Tch.alloc _ _ _).trans' tA
  have tC : Tch (fun i => i = pb) w (((w.setCell ⟨pb, 0, none⟩ (.slice ao' L.length cp')).alloc (.cells #[a, b, d] ty)).alloc o2) := (Tch.setCell (fun i => i = pb) w ⟨pb, 0, none⟩ _ rfl).trans tB (fun _ _ h => h.elim)
  have hl : pb < (w.setCell ⟨pb, 0, none⟩ (.slice ao' L.length cp')).heap.size := by rw [e]; exact cell_lt h1
  have hx := box_tch tA
  rw [e] at hx
  refine ⟨⟨ao', cp', (tB.cell (p := ⟨pb, 0, none⟩) hl (fun h => h)).trans (World.cell?_setCell_same w _ _ h1), (tB.frozen (p := ⟨pb, 0, none⟩) hl (fun h => h)).trans (by simpa using h2), hc, fun hne => ?_⟩, tC, hx⟩
  obtain ⟨tb, o, h, ha, hd⟩ := hm hne
  exact ⟨tb, o, h, ha.tch tC (fun _ => Nat.ne_of_lt hd), hd⟩
theorem next_res (tmps : Array Value) (W : World) (p : Nat) (c : Ct) (c0 : W.cell? ⟨p, 0, none⟩ = some (.int .i64 (c.k : Nat))) (c1 : W.cell? ⟨p, 1, none⟩ = some (.string c.b)) (c2 : W.cell? ⟨p, 2, none⟩ = some (.int .i64 (c.p : Nat))) (h2 : tmps[2]?.getD undef = .pointer (some ⟨p, 0, none⟩)) :
    (results Tryz.f178 tmps).run Tryz.prog W = .ok (tkV c) W := by
  have hrs : Tryz.f178.results = #[.cell 2 111] := by kernel_rfl
  simp only [results, hrs]
  go_simp
theorem take_res (tmps : Array Value) (W : World) (p : Nat) (c : Ct) (c0 : W.cell? ⟨p, 0, none⟩ = some (.int .i64 (c.k : Nat))) (c1 : W.cell? ⟨p, 1, none⟩ = some (.string c.b)) (c2 : W.cell? ⟨p, 2, none⟩ = some (.int .i64 (c.p : Nat))) (h2 : tmps[2]?.getD undef = .pointer (some ⟨p, 0, none⟩)) :
    (results Tryz.f50 tmps).run Tryz.prog W = .ok (tkV c) W := by
  have hrs : Tryz.f50.results = #[.cell 2 111] := by kernel_rfl
  simp only [results, hrs]
  go_simp
theorem next_any (pb : Nat) (c : Ct) (L : List Ct) (w : World) (h : PB w pb (c :: L)) :
    Calls Tryz.prog 178 #[.pointer (some ⟨pb, 0, none⟩)] w fun x w' => x = .returned (tkV c) ∧ Tch (fun _ => False) w w' := by
  have hl := h.lt
  obtain ⟨ao, cp, h1, h2, h3, h4⟩ := h
  obtain ⟨tb, o, rfl, ha, hd⟩ := h4 (by simp)
  have a0 : w.cell? ⟨tb, o, none⟩ = some (.int .i64 (c.k : Nat)) := ha 0 _ rfl
  have a1 : w.cell? ⟨tb, o + 1, none⟩ = some (.string c.b) := ha 1 _ rfl
  have a2 : w.cell? ⟨tb, o + 2, none⟩ = some (.int .i64 (c.p : Nat)) := ha 2 _ rfl
  have htl : tb < w.heap.size := cell_lt a0
  rw [List.length_cons] at h1 h3
  clear h4 ha
  go_enter Tryz.func178, Tryz.ntmps178
  go_wp2
  obtain ⟨b0, b1, b2⟩ := box_cells w (.int .i64 (c.k : Nat)) (.string c.b) (.int .i64 (c.p : Nat)) 111
  refine bodyPost_ret (next_res _ _ w.heap.size c b0 b1 b2 ?_) rfl ⟨rfl, Tch.alloc _ _ _⟩
  rfl
theorem take_any (pb : Nat) (c : Ct) (L : List Ct) (w : World) (h : PB w pb (c :: L)) :
    Calls Tryz.prog 50 #[.pointer (some ⟨pb, 0, none⟩)] w fun x w' => x = .returned (tkV c) ∧ PB w' pb L ∧ Tch (fun i => i = pb) w w' := by
  have hl := h.lt
  obtain ⟨ao, cp, h1, h2, h3, h4⟩ := h
  obtain ⟨tb, o, rfl, ha, hd⟩ := h4 (by simp)
  have a0 : w.cell? ⟨tb, o, none⟩ = some (.int .i64 (c.k : Nat)) := ha 0 _ rfl
  have a1 : w.cell? ⟨tb, o + 1, none⟩ = some (.string c.b) := ha 1 _ rfl
  have a2 : w.cell? ⟨tb, o + 2, none⟩ = some (.int .i64 (c.p : Nat)) := ha 2 _ rfl
  have htl : tb < w.heap.size := cell_lt a0
  have Ha : Hid _ := ha
  rw [List.length_cons] at h1 h3
  clear h4 ha
  go_enter Tryz.func50, Tryz.ntmps50
  go_wp2
  · have hL : L = [] := List.eq_nil_of_length_eq_zero (by omega)
    subst hL
    obtain ⟨p1, p2, b0, b1, b2⟩ := PB.after (L := []) (ao' := some ⟨tb, o, none⟩) (cp' := 0) (.int .i64 (c.k : Nat)) (.string c.b) (.int .i64 (c.p : Nat)) 111 (.cells #[.int .i64 (c.k : Nat), .string c.b, .int .i64 (c.p : Nat)] 111) h1 h2 (Nat.le_refl _) (fun h => absurd rfl h)
    refine bodyPost_ret (take_res _ _ w.heap.size c b0 b1 b2 ?_) rfl ⟨rfl, p1, p2⟩
    rfl
  · obtain ⟨p1, p2, b0, b1, b2⟩ := PB.after (L := L) (ao' := some ⟨tb, o + 3, none⟩) (cp' := cp - 1) (.int .i64 (c.k : Nat)) (.string c.b) (.int .i64 (c.p : Nat)) 111 (.cells #[.int .i64 (c.k : Nat), .string c.b, .int .i64 (c.p : Nat)] 111) h1 h2 (by omega) (fun _ => ⟨tb, o + 3, rfl, fun j u hu => by
      have := Ha.out (3 + j) u (by rw [show ctl (c :: L) = ctc c ++ ctl L from rfl, List.getElem?_append_right (by simp [ctc])]; simpa [ctc] using hu)
      rw [← Nat.add_assoc] at this
      exact this, hd⟩)
    refine bodyPost_ret (take_res _ _ w.heap.size c b0 b1 b2 ?_) rfl ⟨rfl, p1, p2⟩
    rfl
end Go.Proofs.YtmaekkhmiafnmaaGreatDoor
namespace Go.Proofs.YtmaekkhmiafnmaaGreatDoor
open Go.RowKit Go
theorem tk_b (c : Ct) (W : World) : (Instr.field 111 (tkV c) 1).run Tryz.prog W = .ok (.string c.b) W := by kernel_rfl
theorem tk_k (c : Ct) (W : World) : (Instr.field 111 (tkV c) 0).run Tryz.prog W = .ok (.int .i64 (c.k : Nat)) W := by kernel_rfl
theorem box2 (w : World) (a b : Value) (t : TypeId) : (w.alloc (.cells #[a, b] t)).cell? ⟨w.heap.size, 0, none⟩ = some a ∧ (w.alloc (.cells #[a, b] t)).cell? ⟨w.heap.size, 1, none⟩ = some b := by
  have h := alloc_new w (.cells #[a, b] t)
  exact ⟨blk_cell h 0, blk_cell h 1⟩
theorem refused_any (c : Ct) (w : World) :
    Calls Tryz.prog 51 #[tkV c] w fun x w' => x = .returned (.agg #[.int .i64 110, .int .i64 (c.p : Nat)]) ∧ Tch (fun _ => False) w w' := by
  have hres : ∀ (tmps : Array Value) (W : World) (p : Nat), W.cell? ⟨p, 0, none⟩ = some (.int .i64 110) → W.cell? ⟨p, 1, none⟩ = some (.int .i64 (c.p : Nat)) → tmps[2]?.getD undef = .pointer (some ⟨p, 0, none⟩) →
      (results Tryz.f51 tmps).run Tryz.prog W = .ok (.agg #[.int .i64 110, .int .i64 (c.p : Nat)]) W := by
    intro tmps W p c0 c1 h2
    have hrs : Tryz.f51.results = #[.cell 2 57] := by kernel_rfl
    simp only [results, hrs]
    go_simp
  have Hres : Hid _ := hres
  clear hres
  go_enter Tryz.func51, Tryz.ntmps51
  go_wp2
  obtain ⟨b0, b1⟩ := box2 (w.alloc (.cells #[.int .i64 (c.k : Nat), .string c.b, .int .i64 (c.p : Nat)] 111)) (.int .i64 110) (.int .i64 (c.p : Nat)) 57
  rw [show (w.alloc (.cells #[.int .i64 (c.k : Nat), .string c.b, .int .i64 (c.p : Nat)] 111)).heap.size = w.heap.size + 1 by simp] at b0 b1
  refine bodyPost_ret (Hres.out _ _ (w.heap.size + 1) b0 b1 ?_) rfl ⟨rfl, (Tch.alloc _ _ _).allocR _⟩
  rfl
theorem takes_any (pb : Nat) (c : Ct) (L : List Ct) (a : ByteArray) (w : World) (h : PB w pb (c :: L)) :
    Calls Tryz.prog 152 #[.pointer (some ⟨pb, 0, none⟩), .string a] w fun x w' => x = .returned (.bool (decide (c.b = a))) ∧ (if c.b = a then PB w' pb L else PB w' pb (c :: L)) ∧ Tch (fun i => i = pb) w w' := by
  have q1 := next_any pb c L w h
  have hf : ∀ W : World, _ := fun W => tk_b c W
  by_cases ha : c.b = a
  · subst ha
    have Hq2 : Hid (∀ W, Tch (fun _ => False) w W → _) := fun W t => take_any pb c L W (h.no t)
    clear h
    go_enter Tryz.func152, Tryz.ntmps152
    go_wp2_with fail
    refine q1.mono ?_
    rintro y w1 ⟨rfl, t1⟩
    clear q1
    have q2 := Hq2.out w1 t1
    clear Hq2
    go_wp2_with fail
    refine q2.mono ?_
    rintro y w2 ⟨rfl, p2, t2⟩
    clear q2
    go_wp2_with fail
    go_ret
    exact ⟨vret_bool (by simp), p2, (t1.mono (fun _ _ h => h.elim)).trans' t2⟩
  · have Hp : Hid (∀ W, Tch (fun _ => False) w W → _) := fun W t => h.no t
    have hn := str_ne ha
    clear h
    go_enter Tryz.func152, Tryz.ntmps152
    go_wp2_with fail
    refine q1.mono ?_
    rintro y w1 ⟨rfl, t1⟩
    clear q1
    go_wp2_with fail
    go_ret
    exact ⟨vret_bool (by simp), Hp.out _ t1, t1.mono (fun _ _ h => h.elim)⟩
theorem want_any (pb : Nat) (c : Ct) (L : List Ct) (a : ByteArray) (w : World) (h : PB w pb (c :: L)) :
    Calls Tryz.prog 180 #[.pointer (some ⟨pb, 0, none⟩), .string a] w fun x w' => (if c.b = a then x = .returned (.tuple #[]) ∧ PB w' pb L else x = .panicked [{ v := refV 110 c.p, recovered := false }]) ∧ Tch (fun i => i = pb) w w' := by
  have q1 := takes_any pb c L a w h
  by_cases ha : c.b = a
  · rw [decide_eq_true ha] at q1
    simp only [if_pos ha] at q1 ⊢
    clear h ha
    go_enter Tryz.func180, Tryz.ntmps180
    go_wp2_with fail
    refine q1.mono ?_
    rintro y w1 ⟨rfl, p1, t1⟩
    clear q1
    go_wp2_with fail
    go_end0
    exact ⟨⟨rfl, p1⟩, t1⟩
  · rw [decide_eq_false ha] at q1
    simp only [if_neg ha] at q1 ⊢
    clear h ha
    go_enter Tryz.func180, Tryz.ntmps180
    go_wp2_with fail
    refine q1.mono ?_
    rintro y w1 ⟨rfl, p1, t1⟩
    clear q1
    have q2 := next_any pb c L w1 p1
    go_wp2_with fail
    refine q2.mono ?_
    rintro y w2 ⟨rfl, t2⟩
    clear q2
    have q3 := refused_any c w2
    go_wp2_with fail
    refine q3.mono ?_
    rintro y w3 ⟨rfl, t3⟩
    clear q3
    go_wp2_with fail
    exact ⟨rfl, rfl, (t1.trans' ((t2.trans' t3).mono (fun _ _ h => h.elim)))⟩
def shpR (x : ByteArray × Nat × Nat × Nat) : List Value := [.string x.1, .int .i64 (x.2.1 : Nat), .int .i64 (x.2.2.1 : Nat), .int .i64 (x.2.2.2 : Nat)]
def shpC : Array Value := (shp.flatMap shpR).toArray
def HSh (w : World) : Prop := ∃ t fr, w.heap[0]? = some (.cells shpC t fr)
theorem HSh.lt {w : World} (h : HSh w) : 0 < w.heap.size := by
  obtain ⟨t, fr, h⟩ := h
  exact blk_lt h
theorem HSh.tch {S : Nat → Prop} {w w' : World} (h : HSh w) (t : Tch S w w') (h0 : ¬ S 0) : HSh w' := by
  have hl := h.lt
  obtain ⟨ty, fr, h⟩ := h
  exact ⟨ty, fr, (t.block _ hl h0).trans h⟩
theorem flat4 {α β : Type} (f : α → List β) (hf : ∀ x, (f x).length = 4) : ∀ (l : List α) (o j : Nat), j < 4 → (l.flatMap f)[4 * o + j]? = (l[o]?).bind fun x => (f x)[j]?
  | [], o, j, _ => by simp
  | x :: l, 0, j, hj => by
    rw [List.flatMap_cons, List.getElem?_append_left (by rw [hf]; omega)]
    simp
  | x :: l, o + 1, j, hj => by
    rw [List.flatMap_cons, List.getElem?_append_right (by rw [hf]; omega), hf, show 4 * (o + 1) + j - 4 = 4 * o + j by omega, flat4 f hf l o j hj]
    simp
theorem shp_get {o : Nat} (ho : o < 32) : shp[o]? = some (wd o, lvl o, few o, mst o) := by
  have hl : o < shp.length := ho
  unfold wd lvl few mst
  rw [List.getD_eq_getElem?_getD, List.getElem?_eq_getElem hl]
  rfl
theorem HSh.at {w : World} (h : HSh w) {o : Nat} (ho : o < 32) (j : Nat) (hj : j < 4) : w.cell? ⟨0, 4 * o + j, none⟩ = (shpR (wd o, lvl o, few o, mst o))[j]? := by
  obtain ⟨ty, fr, h⟩ := h
  rw [blk_cell h]
  unfold shpC
  rw [List.getElem?_toArray, flat4 shpR (fun _ => rfl) shp o j hj, shp_get ho]
  rfl
theorem HSh.wd {w : World} (h : HSh w) {o : Nat} (ho : o < 32) : w.cell? ⟨0, 4 * o, none⟩ = some (.string (wd o)) := h.at ho 0 (by omega)
theorem HSh.lvl {w : World} (h : HSh w) {o : Nat} (ho : o < 32) : w.cell? ⟨0, 4 * o + 1, none⟩ = some (.int .i64 (lvl o : Nat)) := h.at ho 1 (by omega)
theorem HSh.few {w : World} (h : HSh w) {o : Nat} (ho : o < 32) : w.cell? ⟨0, 4 * o + 2, none⟩ = some (.int .i64 (few o : Nat)) := h.at ho 2 (by omega)
theorem HSh.mst {w : World} (h : HSh w) {o : Nat} (ho : o < 32) : w.cell? ⟨0, 4 * o + 3, none⟩ = some (.int .i64 (mst o : Nat)) := h.at ho 3 (by omega)
def opsC (l : List Nat) : List Value := l.map (fun o => .int .i64 (o : Nat))
def TkOut (pb : Nat) (c : Ct) (L : List Ct) (l : List Nat) (x : Ending) (w' : World) : Prop := match l.find? (fun o => decide (c.b = wd o)) with
  | some o => x = .returned (.tuple #[.int .i64 (o : Nat), .bool true]) ∧ PB w' pb L
  | none => x = .returned (.tuple #[.int .i64 0, .bool false]) ∧ PB w' pb (c :: L)
theorem takesOne_any (pb : Nat) (c : Ct) (L : List Ct) (l : List Nat) (gb go cp : Nat) (w : World) (h : PB w pb (c :: L)) (hsh : HSh w) (hl : ∀ o ∈ l, o < 32) (ha : At w gb go (opsC l)) (hp0 : pb ≠ 0) (hpg : pb ≠ gb) (hlen : l.length ≤ 100) :
    Calls Tryz.prog 122 #[.pointer (some ⟨pb, 0, none⟩), .slice (some ⟨gb, go, none⟩) l.length cp] w fun x w' => TkOut pb c L l x w' ∧ Tch (fun i => i = pb) w w' := by
  have Hin : Hid (PB w pb (c :: L) ∧ HSh w ∧ (∀ o ∈ l, o < 32) ∧ At w gb go (opsC l)) := ⟨h, hsh, hl, ha⟩
  clear h hsh hl ha
  go_enter Tryz.func122, Tryz.ntmps122
  go_wp2
  go_loopw [10] (fun iv wr => ∃ k : Nat, iv = .int .i64 k ∧ k ≤ l.length ∧ Hid (PB wr pb (c :: L) ∧ Tch (fun i => i = pb) w wr ∧ l.find? (fun o => decide (c.b = wd o)) = (l.drop k).find? (fun o => decide (c.b = wd o)))) (fun iv _ => l.length - (intOf iv).toNat)
  case atStart => exact ⟨0, rfl, Nat.zero_le _, Hin.out.1, Tch.refl _ _, rfl⟩
  case round =>
    obtain ⟨k, rfl, hk, HR⟩ := hrel
    by_cases hlt : k < l.length
    · have hltI : (k : Int) < (l.length : Int) := by omega
      obtain ⟨o, ho⟩ : ∃ o, o = l[k] := ⟨_, rfl⟩
      have hdk : l.drop k = o :: l.drop (k + 1) := by rw [ho]; exact List.drop_eq_getElem_cons hlt
      have ho32 : o < 32 := Hin.out.2.2.1 o (by rw [ho]; exact List.getElem_mem hlt)
      have c1 : wr.cell? ⟨gb, go + k, none⟩ = some (.int .i64 (o : Nat)) := by
        have h1 := Hin.out.2.2.2 k (.int .i64 (o : Nat)) (by unfold opsC; rw [List.getElem?_map, List.getElem?_eq_getElem hlt, ← ho]; rfl)
        exact (HR.out.2.1.cell (p := ⟨_, _, none⟩) (cell_lt h1) (fun e => hpg e.symm)).trans h1
      have c2 : wr.cell? ⟨0, o * 4, none⟩ = some (.string (wd o)) := by
        rw [Nat.mul_comm]; exact (Hin.out.2.1.tch HR.out.2.1 (fun e => hp0 e.symm)).wd ho32
      have q := takes_any pb c L (wd o) wr HR.out.1
      have Hdk : Hid _ := hdk
      clear ho hdk
      by_cases hb : c.b = wd o
      · rw [decide_eq_true hb] at q
        simp only [if_pos hb] at q
        have hfd : l.find? (fun o => decide (c.b = wd o)) = some o := by rw [HR.out.2.2, Hdk.out, List.find?_cons_of_pos (by simpa using hb)]
        have Hfd : Hid _ := hfd
        clear hfd hb
        go_wp2_with fail
        refine q.mono ?_
        rintro y w1 ⟨rfl, p1, t1⟩
        clear q
        go_wp2_with fail
        go_ret2
        refine ⟨?_, HR.out.2.1.trans' t1⟩
        unfold TkOut
        rw [Hfd.out]
        exact ⟨rfl, p1⟩
      · rw [decide_eq_false hb] at q
        simp only [if_neg hb] at q
        have hfd : l.find? (fun o => decide (c.b = wd o)) = (l.drop (k + 1)).find? (fun o => decide (c.b = wd o)) := by rw [HR.out.2.2, Hdk.out, List.find?_cons_of_neg (by simpa using hb)]
        have Hfd : Hid _ := hfd
        clear hfd hb
        go_wp2_with fail
        refine q.mono ?_
        rintro y w1 ⟨rfl, p1, t1⟩
        clear q
        have HR2 : Hid (PB w1 pb (c :: L) ∧ Tch (fun i => i = pb) w w1 ∧ l.find? (fun o => decide (c.b = wd o)) = (l.drop (k + 1)).find? (fun o => decide (c.b = wd o))) := ⟨p1, HR.out.2.1.trans' t1, Hfd.out⟩
        clear p1 t1
        go_wp2_with fail
        go_roundw
        case rel => exact ⟨k + 1, rfl, by omega, HR2⟩
        case measure => simp [intOf]; omega
    · have hltI : ¬ (k : Int) < (l.length : Int) := by omega
      go_wp2_with fail
      go_ret2
      refine ⟨?_, HR.out.2.1⟩
      have hfd := HR.out.2.2
      rw [List.drop_eq_nil_of_le (by omega)] at hfd
      unfold TkOut
      rw [hfd]
      exact ⟨rfl, HR.out.1⟩
end Go.Proofs.YtmaekkhmiafnmaaGreatDoor
namespace Go.Proofs.YtmaekkhmiafnmaaGreatDoor
open Go.RowKit Go
def TR (w : World) (F : Nat → Prop) : Ex → Nat → Prop
  | .mk o no v nm l, b => ¬ F b ∧ w.cell? ⟨b, 0, none⟩ = some (.int .i64 (o : Nat)) ∧ w.cell? ⟨b, 1, none⟩ = some (.bool no) ∧ w.cell? ⟨b, 2, none⟩ = some (.int .i64 v.k) ∧ w.cell? ⟨b, 3, none⟩ = some (.int .i64 v.n) ∧ w.cell? ⟨b, 4, none⟩ = some (.string v.s) ∧
      w.cell? ⟨b, 5, none⟩ = some (.string nm) ∧ ∃ ao c, w.cell? ⟨b, 6, none⟩ = some (.slice ao l.length c) ∧ l.length ≤ c ∧ (l ≠ [] → ∃ g i, ao = some ⟨g, i, none⟩ ∧ ¬ F g ∧ TRl l g i)
where TRl : List Ex → Nat → Nat → Prop
  | [], _, _ => True
  | e :: l, g, i => (∃ b, w.cell? ⟨g, i, none⟩ = some (.pointer (some ⟨b, 0, none⟩)) ∧ TR w F e b) ∧ TRl l g (i + 1)
abbrev TRl (w : World) (F : Nat → Prop) (l : List Ex) (g i : Nat) : Prop := TR.TRl w F l g i
mutual
theorem TR.tch {S F : Nat → Prop} {w w' : World} (t : Tch S w w') (hF : ∀ i, S i → F i) : ∀ {e : Ex} {b : Nat}, TR w F e b → TR w' F e b
  | .mk o no v nm l, b, h => by
    unfold TR at h ⊢
    obtain ⟨h0, c0, c1, c2, c3, c4, c5, ao, c, c6, hc, hl⟩ := h
    have hlt : b < w.heap.size := cell_lt c0
    have hn : ¬ S b := fun h => h0 (hF b h)
    refine ⟨h0, (t.cell (p := ⟨b, 0, none⟩) hlt hn).trans c0, (t.cell (p := ⟨b, 1, none⟩) hlt hn).trans c1, (t.cell (p := ⟨b, 2, none⟩) hlt hn).trans c2, (t.cell (p := ⟨b, 3, none⟩) hlt hn).trans c3, (t.cell (p := ⟨b, 4, none⟩) hlt hn).trans c4, (t.cell (p := ⟨b, 5, none⟩) hlt hn).trans c5, ao, c, (t.cell (p := ⟨b, 6, none⟩) hlt hn).trans c6, hc, fun hne => ?_⟩
    obtain ⟨g, i, e1, hg, hr⟩ := hl hne
    exact ⟨g, i, e1, hg, TRl.tch t hF hg hr⟩
theorem TRl.tch {S F : Nat → Prop} {w w' : World} (t : Tch S w w') (hF : ∀ i, S i → F i) : ∀ {l : List Ex} {g i : Nat}, ¬ F g → TRl w F l g i → TRl w' F l g i
  | [], _, _, _, _ => trivial
  | e :: l, g, i, hg, h => by
    unfold TRl TR.TRl at h ⊢
    obtain ⟨⟨b, c0, hb⟩, hr⟩ := h
    exact ⟨⟨b, (t.cell (p := ⟨g, i, none⟩) (cell_lt c0) (fun h => hg (hF g h))).trans c0, TR.tch t hF hb⟩, TRl.tch t hF hg hr⟩
end
def LE (w : World) (F : Nat → Prop) (l : List Ex) (ao : Option Addr) : Prop := l ≠ [] → ∃ g i, ao = some ⟨g, i, none⟩ ∧ ¬ F g ∧ TRl w F l g i
theorem LE.tch {S F : Nat → Prop} {w w' : World} {l : List Ex} {ao : Option Addr} (h : LE w F l ao) (t : Tch S w w') (hF : ∀ i, S i → F i) : LE w' F l ao := fun hne => by
  obtain ⟨g, i, e, hg, hr⟩ := h hne
  exact ⟨g, i, e, hg, TRl.tch t hF hg hr⟩
theorem TR.new {w : World} {F : Nat → Prop} (hF : ∀ i, F i → i < w.heap.size) (o : Nat) (no : Bool) (v : Val) (nm : ByteArray) (l : List Ex) (ao : Option Addr) (c : Nat) (hc : l.length ≤ c) (h : LE w F l ao) :
    TR (w.alloc (.cells #[.int .i64 (o : Nat), .bool no, .int .i64 v.k, .int .i64 v.n, .string v.s, .string nm, .slice ao l.length c] 67)) F (.mk o no v nm l) w.heap.size := by
  have hb := alloc_new w (.cells #[.int .i64 (o : Nat), .bool no, .int .i64 v.k, .int .i64 v.n, .string v.s, .string nm, .slice ao l.length c] 67)
  unfold TR
  refine ⟨fun h => Nat.lt_irrefl _ (hF _ h), blk_cell hb 0, blk_cell hb 1, blk_cell hb 2, blk_cell hb 3, blk_cell hb 4, blk_cell hb 5, ao, c, blk_cell hb 6, hc, fun hne => ?_⟩
  obtain ⟨g, i, e, hg, hr⟩ := h.tch (Tch.alloc (fun _ => False) w (.cells #[.int .i64 (o : Nat), .bool no, .int .i64 v.k, .int .i64 v.n, .string v.s, .string nm, .slice ao l.length c] 67)) (fun _ h => h.elim) hne
  exact ⟨g, i, e, hg, hr⟩
theorem held_any (F : Nat → Prop) (o : Nat) (l : List Ex) (ao : Option Addr) (c : Nat) (w : World) (hF : ∀ i, F i → i < w.heap.size) (hc : l.length ≤ c) (h : LE w F l ao) :
    Calls Tryz.prog 123 #[.int .i64 (o : Nat), .slice ao l.length c] w fun x w' => (∃ b, x = .returned (.pointer (some ⟨b, 0, none⟩)) ∧ TR w' F (heldE o l) b) ∧ Tch (fun _ => False) w w' := by
  have Hn : Hid _ := TR.new hF o false zV ⟨#[]⟩ l ao c hc h
  clear h hF hc
  go_enter Tryz.func123, Tryz.ntmps123
  go_wp2
  go_ret
  exact ⟨⟨w.heap.size, rfl, Hn.out⟩, Tch.alloc _ _ _⟩
end Go.Proofs.YtmaekkhmiafnmaaGreatDoor
namespace Go.Proofs.YtmaekkhmiafnmaaGreatDoor
open Go.RowKit Go Go.Lib
abbrev vV (v : Val) : Value := vA v.k v.n v.s
theorem res_v {fn : Func} {j : Nat} (hrs : fn.results = #[.cell j 29]) (tmps : Array Value) (W : World) (p : Nat) (v : Val) (h2 : tmps[j]?.getD undef = .pointer (some ⟨p, 0, none⟩)) (c0 : W.cell? ⟨p, 0, none⟩ = some (.int .i64 v.k)) (c1 : W.cell? ⟨p, 1, none⟩ = some (.int .i64 v.n)) (c2 : W.cell? ⟨p, 2, none⟩ = some (.string v.s)) :
    (results fn tmps).run Tryz.prog W = .ok (vV v) W := by
  simp only [results, hrs]
  go_simp
theorem res_ve {fn : Func} {j m : Nat} (hrs : fn.results = #[.cell j 29, .tmp m]) (tmps : Array Value) (W : World) (p : Nat) (v : Val) (e : Value) (h2 : tmps[j]?.getD undef = .pointer (some ⟨p, 0, none⟩)) (h3 : tmps[m]?.getD undef = e) (c0 : W.cell? ⟨p, 0, none⟩ = some (.int .i64 v.k)) (c1 : W.cell? ⟨p, 1, none⟩ = some (.int .i64 v.n)) (c2 : W.cell? ⟨p, 2, none⟩ = some (.string v.s)) :
    (results fn tmps).run Tryz.prog W = .ok (.tuple #[vV v, e]) W := by
  simp only [results, hrs]
  go_simp
theorem box_v (w : World) (v : Val) : (w.alloc (.cells #[.int .i64 v.k, .int .i64 v.n, .string v.s] 29)).cell? ⟨w.heap.size, 0, none⟩ = some (.int .i64 v.k) ∧ (w.alloc (.cells #[.int .i64 v.k, .int .i64 v.n, .string v.s] 29)).cell? ⟨w.heap.size, 1, none⟩ = some (.int .i64 v.n) ∧ (w.alloc (.cells #[.int .i64 v.k, .int .i64 v.n, .string v.s] 29)).cell? ⟨w.heap.size, 2, none⟩ = some (.string v.s) := box_cells w _ _ _ _
def TwoB (N : Nat) (v : Val) (W : World) : Prop := W.cell? ⟨N, 0, none⟩ = some (.int .i64 v.k) ∧ W.cell? ⟨N, 1, none⟩ = some (.int .i64 v.n) ∧ W.cell? ⟨N, 2, none⟩ = some (.string v.s) ∧ W.cell? ⟨N + 1, 0, none⟩ = some (.int .i64 0) ∧ W.cell? ⟨N + 1, 1, none⟩ = some (.int .i64 0) ∧ W.cell? ⟨N + 1, 2, none⟩ = some (.string ⟨#[]⟩) ∧ W.frozen? ⟨N + 1, 0, none⟩ = false ∧ W.frozen? ⟨N + 1, 1, none⟩ = false ∧ W.frozen? ⟨N + 1, 2, none⟩ = false
theorem twoB {w W : World} {v : Val} (t : Tch (fun _ => False) ((w.alloc (.cells #[.int .i64 v.k, .int .i64 v.n, .string v.s] 29)).alloc (.cells #[.int .i64 0, .int .i64 0, .string ⟨#[]⟩] 29)) W) : TwoB w.heap.size v W := by
  have b := box_tch ((Tch.alloc (fun _ => False) (w.alloc (.cells #[.int .i64 v.k, .int .i64 v.n, .string v.s] 29)) (.cells #[.int .i64 0, .int .i64 0, .string ⟨#[]⟩] 29)).trans' t)
  have d := box_tch t
  have e : (w.alloc (.cells #[.int .i64 v.k, .int .i64 v.n, .string v.s] 29)).heap.size = w.heap.size + 1 := by simp
  rw [e] at d
  have hl : w.heap.size + 1 < ((w.alloc (.cells #[.int .i64 v.k, .int .i64 v.n, .string v.s] 29)).alloc (.cells #[.int .i64 0, .int .i64 0, .string ⟨#[]⟩] 29)).heap.size := by simp
  exact ⟨b.1, b.2.1, b.2.2, d.1, d.2.1, d.2.2, (t.frozen (p := ⟨_, _, none⟩) hl (fun h => h)).trans (by simp), (t.frozen (p := ⟨_, _, none⟩) hl (fun h => h)).trans (by simp), (t.frozen (p := ⟨_, _, none⟩) hl (fun h => h)).trans (by simp)⟩
theorem eql_dec (a b : Val) (w : World) : (binOp .eql 29 (vV a) (vV b)).run Tryz.prog w = .ok (.bool (decide (a = b))) w := by
  obtain ⟨d, h1, h2⟩ := eql_val a b
  rw [h2]
  by_cases h : a = b
  · rw [decide_eq_true h, h1.2 h]
  · rw [decide_eq_false h]
    cases d with
    | true => exact absurd (h1.1 rfl) h
    | false => rfl
theorem eql_z (a : Val) (w : World) : (binOp .eql 29 (vV a) (.agg #[.int .i64 0, .int .i64 0, .string ⟨#[]⟩])).run Tryz.prog w = .ok (.bool (decide (a = zV))) w := eql_dec a zV w
theorem truth_any (b : Bool) (w : World) : Calls Tryz.prog 93 #[.bool b] w fun x w' => x = .returned (vV (tr b)) ∧ Tch (fun _ => False) w w' := by
  cases b with
  | true =>
    obtain ⟨b0, b1, b2⟩ := box_v w (tr true)
    have Hb : Hid _ := (⟨b0, b1, b2⟩ : _ ∧ _ ∧ _)
    clear b0 b1 b2
    go_enter Tryz.func93, Tryz.ntmps93
    go_wp2
    exact bodyPost_ret (res_v (j := 2) (by kernel_rfl) _ _ w.heap.size (tr true) rfl Hb.out.1 Hb.out.2.1 Hb.out.2.2) rfl ⟨rfl, Tch.alloc _ _ _⟩
  | false =>
    obtain ⟨b0, b1, b2⟩ := box_v w (tr false)
    have Hb : Hid _ := (⟨b0, b1, b2⟩ : _ ∧ _ ∧ _)
    clear b0 b1 b2
    go_enter Tryz.func93, Tryz.ntmps93
    go_wp2
    exact bodyPost_ret (res_v (j := 2) (by kernel_rfl) _ _ w.heap.size (tr false) rfl Hb.out.1 Hb.out.2.1 Hb.out.2.2) rfl ⟨rfl, Tch.alloc _ _ _⟩
theorem negated_any (v : Val) (w : World) : Calls Tryz.prog 65 #[vV v] w fun x w' => x = .returned (vV (ngV v)) ∧ Tch (fun _ => False) w w' := by
  have e1 := fun W => eql_z v W
  by_cases hz : v = zV
  · rw [decide_eq_true hz] at e1
    have Hz : Hid (ngV v = v) := (show ngV v = v from if_pos hz)
    obtain ⟨b0, b1, b2⟩ := box_v (w.alloc (.cells #[.int .i64 v.k, .int .i64 v.n, .string v.s] 29)) v
    have Hb : Hid _ := (⟨b0, b1, b2⟩ : _ ∧ _ ∧ _)
    clear b0 b1 b2 hz
    rw [Hz.out]
    go_enter Tryz.func65, Tryz.ntmps65
    go_wp2_with fail
    refine bodyPost_ret (res_v (j := 2) (by kernel_rfl) _ _ _ v ?_ Hb.out.1 Hb.out.2.1 Hb.out.2.2) rfl ⟨rfl, (Tch.alloc _ _ _).allocR _⟩
    simp
  · rw [decide_eq_false hz] at e1
    have Hz : Hid (ngV v = tr (decide (v = tr false))) := (show ngV v = _ from if_neg hz)
    have e2 := fun W => eql_dec v (tr false) W
    rw [Hz.out]
    clear hz
    obtain ⟨q, hq⟩ : ∃ q, q = decide (v = tr false) := ⟨_, rfl⟩
    rw [← hq] at e2 ⊢
    clear hq
    obtain ⟨tf, htf⟩ : ∃ tf, tf = tr false := ⟨_, rfl⟩
    have Hq1 : Hid _ := fun W => truth_any false W
    rw [← htf] at e2 Hq1
    clear htf
    have Hq2 : Hid _ := fun W => truth_any q W
    go_enter Tryz.func65, Tryz.ntmps65
    go_wp2_with fail
    obtain ⟨w0, hw0⟩ : ∃ w0, w0 = (w.alloc (.cells #[.int .i64 v.k, .int .i64 v.n, .string v.s] 29)).alloc (.cells #[.int .i64 0, .int .i64 0, .string ⟨#[]⟩] 29) := ⟨_, rfl⟩
    have HB : Hid (∀ W, Tch (fun _ => False) w0 W → TwoB w.heap.size v W ∧ Tch (fun _ => False) w W) := fun W t => by
      rw [hw0] at t
      exact ⟨twoB t, ((Tch.alloc _ _ _).allocR _).trans' t⟩
    rw [← hw0]
    clear hw0
    obtain ⟨⟨c0, c1, c2, d0, d1, d2, f0, f1, f2⟩, _⟩ := HB.out w0 (Tch.refl _ _)
    go_region_with (first
      | (go_at_call 93; refine (Hq1.out _).mono ?_; rintro y v1 ⟨rfl, t1⟩; have V1 := Tch.trans' ((Tch.refl (fun _ => False) w0).drew) t1; obtain ⟨⟨c0, c1, c2, d0, d1, d2, f0, f1, f2⟩, _⟩ := HB.out _ V1)
      | (go_at_call 93; refine (Hq2.out _).mono ?_; rintro y v2 ⟨rfl, t2⟩; have V2 := Tch.trans' V1 t2; obtain ⟨⟨c0, c1, c2, d0, d1, d2, f0, f1, f2⟩, _⟩ := HB.out _ V2))
    all_goals
      obtain ⟨k0, k1, k2⟩ := box_set v2 (w.heap.size + 1) _ _ _ (.int .i64 (tr q).k) (.int .i64 (tr q).n) (.string (tr q).s) d0 d1 d2
      have HK : Hid _ := (⟨k0, k1, k2⟩ : _ ∧ _ ∧ _)
      have HT : Hid _ := (HB.out _ V2).2.trans (box_set_tch v2 (w.heap.size + 1) (.int .i64 (tr q).k) (.int .i64 (tr q).n) (.string (tr q).s)) (fun i hi h => by omega)
      clear k0 k1 k2 c0 c1 c2 d0 d1 d2 f0 f1 f2 t1 t2 V1 V2
      go_wp2_with fail
      refine bodyPost_ret (res_v (j := 2) (by kernel_rfl) _ _ (w.heap.size + 1) (tr q) ?_ HK.out.1 HK.out.2.1 HK.out.2.2) rfl ⟨rfl, HT.out⟩
      rfl
end Go.Proofs.YtmaekkhmiafnmaaGreatDoor
