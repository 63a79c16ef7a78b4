import Derived.Test.YtmaekkhmiafnmaaGreatDoorEC2
import Derived.Test.YtmaekkhmiafnmaaGreatDoorEV0
import Derived.Test.YtmaekkhmiafnmaaGreatDoorEFu
set_option maxHeartbeats 2000000
set_option maxRecDepth 100000
namespace Go.Proofs.YtmaekkhmiafnmaaGreatDoor
open Go.RowKit Go Go.Lib
abbrev Col11 := ByteArray × Int × Bool
def colR (c : Col11) : List Value := [.string c.1, .int .i64 c.2.1, .bool c.2.2]
def colc (C : List Col11) : List Value := C.flatMap colR
abbrev csO (C : List Col11) : List (ByteArray × Int) := C.map fun c => (c.1, c.2.1)
theorem flat3 {α β : Type} (f : α → List β) (hf : ∀ x, (f x).length = 3) : ∀ (l : List α) (o j : Nat), j < 3 → (l.flatMap f)[o * 3 + j]? = (l[o]?).bind fun x => (f x)[j]?
  | [], o, j, _ => by simp
  | x :: l, 0, j, hj => by
    rw [List.flatMap_cons, List.getElem?_append_left (by rw [hf]; omega)]
    simp
  | x :: l, o + 1, j, hj => by
    rw [List.flatMap_cons, List.getElem?_append_right (by rw [hf]; omega), hf, show (o + 1) * 3 + j - 3 = o * 3 + j by omega, flat3 f hf l o j hj]
    simp
theorem colc_at {w : World} {ao : Option Addr} {C : List Col11} (h : SL w ao (colc C)) {k : Nat} (hk : k < C.length) : ∃ g o, ao = some ⟨g, o, none⟩ ∧ w.cell? ⟨g, o + k * 3, none⟩ = some (.string C[k].1) ∧ w.cell? ⟨g, o + k * 3 + 1, none⟩ = some (.int .i64 C[k].2.1) ∧ w.cell? ⟨g, o + k * 3 + 2, none⟩ = some (.bool C[k].2.2) := by
  have hne : colc C ≠ [] := by
    cases C with
    | nil => simp at hk
    | cons c C => intro e; simp [colc, colR] at e
  obtain ⟨g, o, e, ha⟩ := h hne
  refine ⟨g, o, e, ?_, ?_, ?_⟩
  · have := ha (k * 3 + 0) (.string C[k].1) (by rw [colc, flat3 colR (fun _ => rfl) C k 0 (by omega), List.getElem?_eq_getElem hk]; rfl)
    simpa using this
  · have := ha (k * 3 + 1) (.int .i64 C[k].2.1) (by rw [colc, flat3 colR (fun _ => rfl) C k 1 (by omega), List.getElem?_eq_getElem hk]; rfl)
    rw [← Nat.add_assoc] at this; exact this
  · have := ha (k * 3 + 2) (.bool C[k].2.2) (by rw [colc, flat3 colR (fun _ => rfl) C k 2 (by omega), List.getElem?_eq_getElem hk]; rfl)
    rw [← Nat.add_assoc] at this; exact this
def plcI (C : List Col11) (nm : ByteArray) : Int := match plc (csO C) nm with | some i => (i : Nat) | none => -1
theorem plc_some {C : List Col11} {nm : ByteArray} {k : Nat} (hk : k < C.length) (h : C[k].1 = nm) (hb : ∀ j (hj : j < C.length), j < k → ¬ C[j].1 = nm) : plc (csO C) nm = some k := by
  unfold plc
  rw [List.findIdx?_eq_some_iff_getElem]
  refine ⟨by simpa using hk, by simpa using h, fun j hj => ?_⟩
  have := hb j (by omega) hj
  simpa using this
theorem plc_none {C : List Col11} {nm : ByteArray} (hb : ∀ j (hj : j < C.length), ¬ C[j].1 = nm) : plc (csO C) nm = none := by
  unfold plc
  rw [List.findIdx?_eq_none_iff]
  intro x hx
  obtain ⟨c, hc, rfl⟩ := List.mem_map.1 hx
  obtain ⟨j, hj, rfl⟩ := List.getElem_of_mem hc
  simpa using hb j hj
theorem col1_any (B : Nat) (nm : ByteArray) (c : Col11) (w : World) (hB : w.cell? ⟨B, 0, none⟩ = some (.string nm)) :
    Calls Tryz.prog 86 #[.agg #[.string c.1, .int .i64 c.2.1, .bool c.2.2], .pointer (some ⟨B, 0, none⟩)] w fun x w' => x = .returned (.bool (decide (c.1 = nm))) ∧ Tch (fun _ => False) w w' := by
  have hlt := cell_lt hB
  have hB1 : ∀ o, (w.alloc o).cell? ⟨B, 0, none⟩ = some (.string nm) := fun o => by rw [World.cell?_alloc_lt _ _ _ hlt]; exact hB
  by_cases h : c.1 = nm
  · have hd : decide (c.1 = nm) = true := by simp [h]
    rw [hd]
    subst h
    go_enter Tryz.func86, Tryz.ntmps86
    go_wp2
    go_ret
    exact ⟨rfl, Tch.alloc _ _ _⟩
  · have hd : decide (c.1 = nm) = false := by simp [h]
    have hne := str_ne h
    rw [hd]
    clear h hd
    go_enter Tryz.func86, Tryz.ntmps86
    go_wp2
    go_ret
    exact ⟨rfl, Tch.alloc _ _ _⟩
theorem col2_any (B : Nat) (nm : ByteArray) (C : List Col11) (ao : Option Addr) (cp : Nat) (w : World) (hB : w.cell? ⟨B, 0, none⟩ = some (.string nm)) (hC : SL w ao (colc C)) (hl : C.length ≤ 1000000000) :
    Calls Tryz.prog 85 #[.slice ao C.length cp, .func (.func 86) #[] #[.pointer (some ⟨B, 0, none⟩)]] w fun x w' => x = .returned (.int .i64 (plcI C nm)) ∧ Tch (fun _ => False) w w' := by
  have HT : Hid (∀ W, Tch (fun _ => False) w W → SL W ao (colc C) ∧ W.cell? ⟨B, 0, none⟩ = some (.string nm)) := fun W tW => ⟨hC.no tW, (tW.cell (p := ⟨B, 0, none⟩) (cell_lt hB) (fun h => h)).trans hB⟩
  obtain ⟨r, hr⟩ : ∃ r, r = plcI C nm := ⟨_, rfl⟩
  have HR : Hid (r = plcI C nm) := hr
  rw [← hr]
  obtain ⟨n, hn⟩ : ∃ n, n = C.length := ⟨_, rfl⟩
  have Hn : Hid _ := hn
  rw [← hn] at hl ⊢
  clear hB hC hr hn
  go_enter Tryz.func85, Tryz.ntmps85
  go_wp2_with fail
  go_loopw [8] (fun i wr => ∃ k : Nat, i = .int .i64 k ∧ k ≤ n ∧ Tch (fun _ => False) w wr ∧ Hid (∀ j (hj : j < C.length), j < k → ¬ C[j].1 = nm)) (fun i _ => n - (RowKit.intOf i).toNat)
  case atStart => exact ⟨0, rfl, by omega, Tch.refl _ _, fun _ _ h => by omega⟩
  case round =>
    obtain ⟨k, rfl, hk, hT, HK⟩ := hrel
    by_cases hlt : k < n
    · have hltI : (k : Int) < (n : Int) := by omega
      have hkl : k < C.length := by rw [← Hn.out]; exact hlt
      obtain ⟨hSL, hBc⟩ := HT.out _ hT
      obtain ⟨g, o, rfl, c0, c1, c2⟩ := colc_at hSL hkl
      obtain ⟨p, hp⟩ : ∃ p, p = C[k] := ⟨_, rfl⟩
      rw [← hp] at c0 c1 c2
      have q := col1_any B nm p wr hBc
      have Hp : Hid (p = C[k]) := hp
      obtain ⟨d, hd⟩ : ∃ d, d = decide (p.1 = nm) := ⟨_, rfl⟩
      rw [← hd] at q
      have HD : Hid (d = decide (p.1 = nm)) := hd
      clear hSL hp hd
      cases d with
      | true =>
        have HE : Hid (r = k) := (show r = k from by
          have h : C[k].1 = nm := by rw [← Hp.out]; exact of_decide_eq_true HD.out.symm
          rw [HR.out]; unfold plcI; rw [plc_some hkl h HK.out])
        go_wp2_with (go_at_call 86; refine q.mono ?_; rintro y w1 ⟨rfl, t1⟩)
        go_ret
        exact ⟨by rw [HE.out]; rfl, hT.trans' t1⟩
      | false =>
        have HE : Hid (∀ j (hj : j < C.length), j < k + 1 → ¬ C[j].1 = nm) := fun j hj hjk => by
          rcases Nat.lt_or_ge j k with h1 | h1
          · exact HK.out j hj h1
          · obtain rfl : j = k := by omega
            rw [← Hp.out]; exact of_decide_eq_false HD.out.symm
        go_wp2_with (go_at_call 86; refine q.mono ?_; rintro y w1 ⟨rfl, t1⟩)
        go_roundw
        case rel => exact ⟨k + 1, by first | trivial | rfl, by omega, hT.trans' t1, HE⟩
        case measure => simp [RowKit.intOf]; omega
    · have hltI : ¬ (k : Int) < (n : Int) := by omega
      have HE : Hid (r = -1) := (show r = -1 from by
        rw [HR.out]; unfold plcI; rw [plc_none (fun j hj => HK.out j hj (by have := Hn.out; omega))])
      go_wp2_with fail
      go_ret
      exact ⟨by rw [HE.out]; rfl, hT⟩
theorem placeOf_any (nm : ByteArray) (C : List Col11) (ao : Option Addr) (cp : Nat) (w : World) (hC : SL w ao (colc C)) (hl : C.length ≤ 1000000000) :
    Calls Tryz.prog 59 #[.slice ao C.length cp, .string nm] w fun x w' => x = .returned (.int .i64 (plcI C nm)) ∧ Tch (fun _ => False) w w' := by
  have hmf : ∀ (fn : Fn) (first cap : Array Value) (w : World), (Instr.makeFunc fn first cap).run Tryz.prog w = .ok (.func fn first cap) w := fun _ _ _ _ => rfl
  have q := col2_any w.heap.size nm C ao cp (w.alloc (.cells #[.string nm] 9)) (by simp) (hC.no (Tch.alloc _ _ _)) hl
  clear hC
  go_enter Tryz.func59, Tryz.ntmps59
  go_wp2_with (go_at_call 85; refine q.mono ?_; rintro y w1 ⟨rfl, t1⟩)
  go_ret
  exact ⟨rfl, (Tch.alloc _ _ _).trans' t1⟩
theorem find_plc (C : List Col11) (nm : ByteArray) : (csO C).find? (fun c => decide (c.1 = nm)) = (plc (csO C) nm).bind fun i => (csO C)[i]? := by
  unfold plc
  induction (csO C) with
  | nil => rfl
  | cons c l ih =>
    by_cases h : c.1 = nm
    · rw [List.find?_cons_of_pos (by simpa using h), List.findIdx?_cons, if_pos (by simpa using h)]; rfl
    · rw [List.find?_cons_of_neg (by simpa using h), ih, List.findIdx?_cons, if_neg (by simpa using h)]
      cases List.findIdx? (fun c : ByteArray × Int => decide (c.1 = nm)) l <;> simp
theorem kindOf_any (nm : ByteArray) (C : List Col11) (ao : Option Addr) (cp : Nat) (w : World) (hC : SL w ao (colc C)) (hl : C.length ≤ 1000000000) :
    Calls Tryz.prog 29 #[.slice ao C.length cp, .string nm] w fun x w' => x = .returned (.tuple #[.int .i64 (kndOf (csO C) nm).1, .int .i64 (kndOf (csO C) nm).2]) ∧ Tch (fun _ => False) w w' := by
  have q := placeOf_any nm C ao cp w hC hl
  have HC : Hid (∀ W, Tch (fun _ => False) w W → SL W ao (colc C)) := fun W t => hC.no t
  obtain ⟨R, hR⟩ : ∃ R, R = kndOf (csO C) nm := ⟨_, rfl⟩
  rw [← hR]
  have hf := find_plc C nm
  unfold kndOf at hR
  cases hp : plc (csO C) nm with
  | none =>
    rw [hp] at hf
    rw [hf] at hR
    have HR : Hid (R = (0, 112)) := hR
    have e : plcI C nm = -1 := by unfold plcI; rw [hp]
    rw [e] at q
    clear hC hR hf hp e
    go_enter Tryz.func29, Tryz.ntmps29
    go_wp2_with fail
    refine q.mono ?_
    rintro y w1 ⟨rfl, t1⟩
    clear q
    go_wp2_with fail
    go_ret2
    exact ⟨by rw [HR.out]; rfl, t1⟩
  | some i =>
    have hi : i < C.length := by
      unfold plc at hp
      rw [List.findIdx?_eq_some_iff_getElem] at hp
      obtain ⟨h, _⟩ := hp
      simpa using h
    rw [hp] at hf
    have hg : (csO C)[i]? = some (C[i].1, C[i].2.1) := by rw [List.getElem?_map, List.getElem?_eq_getElem hi]; rfl
    rw [hf, Option.bind_some, hg] at hR
    have e : plcI C nm = (i : Nat) := by unfold plcI; rw [hp]
    rw [e] at q
    obtain ⟨g, o, rfl, _⟩ := colc_at hC hi
    obtain ⟨n, hn⟩ : ∃ n, n = C.length := ⟨_, rfl⟩
    obtain ⟨kd, hkd⟩ : ∃ k, k = C[i].2.1 := ⟨_, rfl⟩
    have HK : Hid (∀ W, Tch (fun _ => False) w W → W.cell? ⟨g, o + i * 3 + 1, none⟩ = some (.int .i64 kd)) := fun W t => by
      obtain ⟨g', o', e', _, c1, _⟩ := colc_at (HC.out W t) hi
      injection e' with e'
      injection e' with e1 e2
      subst e1; subst e2
      rw [hkd]; exact c1
    rw [← hkd] at hR
    rw [← hn] at q hi ⊢
    have hiI : (i : Int) < (n : Int) := by omega
    have HR : Hid (R = if kd = 1 ∨ kd = 2 ∨ kd = 3 then (kd, 0) else (0, 113)) := hR
    clear hC hR hf hp e hg hn hkd HC
    go_enter Tryz.func29, Tryz.ntmps29
    go_wp2_with fail
    refine q.mono ?_
    rintro y w1 ⟨rfl, t1⟩
    clear q
    have c1 := HK.out w1 t1
    by_cases h1 : kd = 1
    · have HR2 : Hid (R = (1, 0)) := (show R = _ from by rw [HR.out, h1]; rfl)
      subst h1
      clear HR
      go_wp2_with fail
      go_ret2
      exact ⟨by rw [HR2.out]; rfl, t1⟩
    · by_cases h2 : kd = 2
      · have HR2 : Hid (R = (2, 0)) := (show R = _ from by rw [HR.out, h2]; rfl)
        subst h2
        clear HR h1
        go_wp2_with fail
        go_ret2
        exact ⟨by rw [HR2.out]; rfl, t1⟩
      · by_cases h3 : kd = 3
        · have HR2 : Hid (R = (3, 0)) := (show R = _ from by rw [HR.out, h3]; rfl)
          subst h3
          clear HR h1 h2
          go_wp2_with fail
          go_ret2
          exact ⟨by rw [HR2.out]; rfl, t1⟩
        · have HR2 : Hid (R = (0, 113)) := (show R = _ from by rw [HR.out, if_neg (by rintro (h | h | h) <;> contradiction)])
          clear HR
          go_wp2_with fail
          go_ret2
          exact ⟨by rw [HR2.out]; rfl, t1⟩
end Go.Proofs.YtmaekkhmiafnmaaGreatDoor
namespace Go.Proofs.YtmaekkhmiafnmaaGreatDoor
open Go.RowKit Go Go.Lib
theorem PS_parV {x : ByteArray} {v : Val} {e : Int} (h : PS x v e) (hx : x = wNull ∨ x = wTrue ∨ x = wFalse ∨ (x.data.toList.head? = some 39 ∧ okT x.data.toList = true)) : v = parV x := by
  rcases hx with rfl | rfl | rfl | ⟨h39, hok⟩
  · exact (h.one (Or.inl ⟨rfl, rfl, rfl⟩)).1
  · exact (h.one (Or.inr (Or.inr (Or.inl ⟨rfl, rfl, rfl⟩)))).1
  · exact (h.one (Or.inr (Or.inl ⟨rfl, rfl, rfl⟩))).1
  · obtain ⟨h1, h2⟩ := PS_okT h h39
    rw [h2 (h1.2 hok)]
    unfold parV
    rw [if_neg, if_neg, if_neg]
    · rintro rfl; simp at h39
    · rintro rfl; simp at h39
    · rintro rfl; simp at h39
theorem literalOf_any (F : Nat → Prop) (c : Ct) (w : World) (hF : ∀ i, F i → i < w.heap.size) (hs : c.b.size ≤ 1048576) (hw : HWd w) (hv : HV w) (hx : c.b = wNull ∨ c.b = wTrue ∨ c.b = wFalse ∨ (c.b.data.toList.head? = some 39 ∧ okT c.b.data.toList = true)) :
    Calls Tryz.prog 246 #[tkV c] w fun x w' => (∃ b, x = .returned (.pointer (some ⟨b, 0, none⟩)) ∧ TR w' F (litE (parV c.b)) b) ∧ Tch (fun _ => False) w w' := by
  have q := fun W (t : Tch (fun _ => False) w W) => parse_any c.b hs W (HWd.no hw t) (HV.no hv t)
  have Hq : Hid _ := q
  have Hx : Hid _ := hx
  have HF : Hid _ := hF
  have hf : ∀ W : World, _ := fun W => tk_b c W
  clear q hx hF hw hv
  go_enter Tryz.func246, Tryz.ntmps246
  go_wp2_with fail
  have T0 : Tch (fun _ => False) w (w.alloc (.cells #[.int .i64 (c.k : Nat), .string c.b, .int .i64 (c.p : Nat)] 111)) := Tch.alloc _ _ _
  refine (Hq.out _ T0).mono ?_
  rintro y w1 ⟨⟨v, e, rfl, hps⟩, t1⟩
  have hv := PS_parV hps Hx.out
  have Hv : Hid _ := hv
  have T1 : Tch (fun _ => False) w (w1.alloc (.cells #[.int .i64 v.k, .int .i64 v.n, .string v.s] 29)) := (T0.trans' t1).allocR _
  have HT : Hid _ := T1
  clear hps hv Hq t1 T0 T1
  go_wp2_with fail
  go_ret
  have hn := TR.new (F := F) (w := w1.alloc (.cells #[.int .i64 v.k, .int .i64 v.n, .string v.s] 29)) (fun i hi => by have := HF.out i hi; have := HT.out.size; omega) 0 false v ⟨#[]⟩ [] none 0 (Nat.le_refl _) (fun h => absurd rfl h)
  rw [← Hv.out]
  rw [show (w1.alloc (.cells #[.int .i64 v.k, .int .i64 v.n, .string v.s] 29)).heap.size = w1.heap.size + 1 by simp] at hn
  exact ⟨⟨_, rfl, hn⟩, HT.out.allocR _⟩
theorem atoi_two (s : ByteArray) (hs : s.size ≤ 1048576) (w : World) (h : HV w) :
    Calls Tryz.prog 176 #[.string s] w fun x w' => ((∃ m, Lib.atoiAll s.data.toList = .ok m ∧ x = .returned (.tuple #[.int .i64 m, .nilIface])) ∨ ((∀ m, Lib.atoiAll s.data.toList ≠ .ok m) ∧ ∃ n t N, x = .returned (.tuple #[.int .i64 n, .iface t (.pointer (some ⟨N, 0, none⟩))]))) ∧ Tch (fun _ => False) w w' := by
  cases ha : Lib.atoiAll s.data.toList with
  | ok v =>
    refine (Any.strconv_Atoi_ok Tryz.laysAt s (by omega) v ha w).mono (fun e w' ⟨he, hw⟩ => ⟨Or.inl ⟨v, rfl, he⟩, ?_⟩)
    rcases hw with hw | ⟨t, hw⟩
    · rw [hw]; exact Tch.refl _ _
    · rw [hw]; exact below_no (Lib.bytesWorld_below _ _ _)
  | «syntax» =>
    obtain ⟨tp, p, hv⟩ := h.syn
    exact (Any.strconv_Atoi_syntax_var Tryz.laysAt s (by omega) ha tp p w hv).mono (fun e w' ⟨N, he, _, _, hb⟩ => ⟨Or.inr ⟨(fun m hm => by cases hm), _, _, _, he⟩, below_no hb⟩)
  | range =>
    obtain ⟨tp, p, hv⟩ := h.rng
    exact (Any.strconv_Atoi_range_var Tryz.laysAt s (by omega) ha tp p w hv).mono (fun e w' ⟨N, he, _, _, hb⟩ => ⟨Or.inr ⟨(fun m hm => by cases hm), _, _, _, he⟩, below_no hb⟩)
def NbOut (F : Nat → Prop) (a : ByteArray) (c : Ct) (x : Ending) (w' : World) : Prop :=
  (∃ m b, atoiAll (a.data.toList ++ c.b.data.toList) = .ok m ∧ x = .returned (.pointer (some ⟨b, 0, none⟩)) ∧ TR w' F (litE ⟨1, m, ⟨#[]⟩⟩) b) ∨
  ((∀ m, atoiAll (a.data.toList ++ c.b.data.toList) ≠ .ok m) ∧ x = .panicked [{ v := refV 114 c.p, recovered := false }])
theorem numberOf_any (F : Nat → Prop) (a : ByteArray) (c : Ct) (w : World) (hF : ∀ i, F i → i < w.heap.size) (hs : (a ++ c.b).size ≤ 1048576) (hv : HV w) :
    Calls Tryz.prog 242 #[.string a, tkV c] w fun x w' => NbOut F a c x w' ∧ Tch (fun _ => False) w w' := by
  have q := fun W (t : Tch (fun _ => False) w W) => atoi_two (a ++ c.b) hs W (HV.no hv t)
  have e : (a ++ c.b).data.toList = a.data.toList ++ c.b.data.toList := by simp
  rw [e] at q
  have Hq : Hid _ := q
  have HF : Hid _ := hF
  have n1 : ¬ 9223372036854775807 < a.size + c.b.size := by simp at hs; omega
  clear q hF hv e hs
  go_enter Tryz.func242, Tryz.ntmps242
  go_wp2_with fail
  have T0 : Tch (fun _ => False) w (w.alloc (.cells #[.int .i64 (c.k : Nat), .string c.b, .int .i64 (c.p : Nat)] 111)) := Tch.alloc _ _ _
  refine (Hq.out _ T0).mono ?_
  rintro y w1 ⟨h, t1⟩
  have b0 := box_cells w (.int .i64 (c.k : Nat)) (.string c.b) (.int .i64 (c.p : Nat)) 111
  have c2 : w1.cell? ⟨w.heap.size, 2, none⟩ = some (.int .i64 (c.p : Nat)) := (t1.cell (p := ⟨_, _, none⟩) (by simp) (fun h => h)).trans b0.2.2
  have T1 := T0.trans' t1
  have HT : Hid _ := T1
  clear b0 T0 t1 T1 Hq
  rcases h with ⟨m, hm, rfl⟩ | ⟨hm, n, t, N, rfl⟩
  · have Hm : Hid _ := hm
    clear hm
    go_wp2_with fail
    go_ret
    have hn := TR.new (F := F) (w := w1) (fun i hi => by have := HF.out i hi; have := HT.out.size; omega) 0 false ⟨1, m, ⟨#[]⟩⟩ ⟨#[]⟩ [] none 0 (Nat.le_refl _) (fun h => absurd rfl h)
    exact ⟨Or.inl ⟨m, _, Hm.out, rfl, hn⟩, HT.out.allocR _⟩
  · have Hm : Hid _ := hm
    clear hm
    go_wp2_with fail
    exact ⟨rfl, Or.inr ⟨Hm.out, rfl⟩, HT.out⟩
end Go.Proofs.YtmaekkhmiafnmaaGreatDoor
namespace Go.Proofs.YtmaekkhmiafnmaaGreatDoor
open Go.RowKit Go Go.Lib
variable {F : Nat → Prop}
theorem global_lt {name : String} {g : Nat} (h : Tryz.prog.globalNamed name = some g) : g < 10 := by
  have h2 : Tryz.prog.globals.size = 10 := by kernel_rfl
  rw [← h2]
  unfold Program.globalNamed at h
  split at h
  · rename_i g' hg
    injection h with h
    subst h
    have hm : g' ∈ List.filter (fun g => Option.any (fun x => x.name == name) Tryz.prog.globals[g]?) (List.range Tryz.prog.globals.size) := by rw [hg]; exact List.mem_singleton.2 rfl
    exact List.mem_range.1 (List.mem_filter.1 hm).1
  · cases h
theorem var_tch {S : Nat → Prop} {w w' : World} {name : String} {cs : Array Value} (h : w.var? Tryz.prog name = some cs) (t : Tch S w w') (hS : ∀ g, g < 10 → ¬ S g) : w'.var? Tryz.prog name = some cs := by
  unfold World.var? at h ⊢
  cases hg : Tryz.prog.globalNamed name with
  | none => rw [hg] at h; simp at h
  | some g =>
    rw [hg] at h
    simp only [Option.bind_some] at h ⊢
    cases hb : w.heap[g]? with
    | none => rw [hb] at h; simp at h
    | some o =>
      rw [t.block g (Array.getElem?_eq_some_iff.1 hb).1 (hS g (global_lt hg))]
      exact h
theorem HV.tch {S : Nat → Prop} {w w' : World} (h : HV w) (t : Tch S w w') (hS : ∀ g, g < 10 → ¬ S g) : HV w' :=
  ⟨var_tch h.tab t hS, h.syn.imp fun _ h => h.imp fun _ h => var_tch h t hS, h.rng.imp fun _ h => h.imp fun _ h => var_tch h t hS⟩
structure HX (F : Nat → Prop) (w : World) (pb : Nat) : Prop where
  wds : HWd w
  lib : HV w
  shp : HSh w
  far : 10 ≤ pb
  fb : ∀ i, F i → i < w.heap.size
  fp : F pb
theorem HX.tp {w : World} {pb : Nat} (h : HX F w pb) : ∀ i, i = pb → F i := fun i e => by rw [e]; exact h.fp
theorem HX.tch {w w' : World} {pb : Nat} (h : HX F w pb) (t : Tch (fun i => i = pb) w w') : HX F w' pb :=
  ⟨h.wds.tch t (fun e => by have := h.far; omega), h.lib.tch t (fun g hg e => by have := h.far; omega), h.shp.tch t (fun e => by have := h.far; omega), h.far, fun i hi => Nat.lt_of_lt_of_le (h.fb i hi) t.size, h.fp⟩
def ROut (F : Nat → Prop) (pb : Nat) (R : Rs) (x : Ending) (w' : World) : Prop :=
  (∃ e r b L', R = .ok [e] r ∧ x = .returned (.pointer (some ⟨b, 0, none⟩)) ∧ TR w' F e b ∧ PB w' pb L' ∧ Cut L' r) ∨
  (∃ why p, R = .no why p ∧ x = .panicked [{ v := refV why p, recovered := false }])
def CL (F : Nat → Prop) (f n k : Nat) : Prop := ∀ (pb : Nat) (L : List Ct) (ts : List Tk) (w : World), Cut L ts → (∀ t ∈ ts, tkOk t) → PB w pb L → HX F w pb → rd n (.line k) ts ≠ .out →
  Calls Tryz.prog f #[.pointer (some ⟨pb, 0, none⟩)] w fun x w' => ROut F pb (rd n (.line k) ts) x w' ∧ Tch (fun i => i = pb) w w'
theorem Cut.ne {L : List Ct} {ts : List Tk} (h : Cut L ts) : ∃ c L' t ts', L = c :: L' ∧ ts = t :: ts' ∧ mt c t ∧ (t.k ≤ 3 → Cut L' ts') := by
  cases h with
  | last M h h4 => exact ⟨_, _, _, _, rfl, rfl, h, fun h3 => by omega⟩
  | cons h h3 hc => exact ⟨_, _, _, _, rfl, rfl, h, fun _ => hc⟩
theorem mt_eq {c : Ct} {t : Tk} (h : mt c t) {a : ByteArray} (ha : askB a = true) (h0 : a ≠ ⟨#[]⟩) : c.b = a ↔ t.b = a := by
  obtain ⟨_, ⟨_, _, h2⟩ | ⟨_, _, h2, h3⟩⟩ := h
  · rw [h2]
  · constructor
    · intro e; exact absurd e (wrgB_ne h3 ha)
    · intro e; exact absurd (h2.symm.trans e).symm h0
theorem tkOk.lt {t : Tk} (h : tkOk t) (h0 : t.b ≠ ⟨#[]⟩) : t.k ≤ 3 := by
  rcases Nat.lt_or_ge t.k 4 with h1 | h1
  · omega
  · exact absurd (h.2.2 h1) h0
theorem LE.one {w : World} {F : Nat → Prop} {e : Ex} {b : Nat} (h : TR w F e b) (hF : ∀ i, F i → i < w.heap.size) (ty : TypeId) : LE (w.alloc (.cells #[.pointer (some ⟨b, 0, none⟩)] ty)) F [e] (some ⟨w.heap.size, 0, none⟩) := fun _ => by
  have hb := alloc_new w (.cells #[.pointer (some ⟨b, 0, none⟩)] ty)
  refine ⟨_, 0, rfl, fun h => Nat.lt_irrefl _ (hF _ h), ?_⟩
  unfold TRl TR.TRl
  exact ⟨⟨b, blk_cell hb 0, TR.tch (Tch.alloc (fun _ => False) _ _) (fun _ h => h.elim) h⟩, trivial⟩
theorem LE.two {w : World} {F : Nat → Prop} {e f : Ex} {b d : Nat} (h : TR w F e b) (k : TR w F f d) (hF : ∀ i, F i → i < w.heap.size) (ty : TypeId) : LE (w.alloc (.cells #[.pointer (some ⟨b, 0, none⟩), .pointer (some ⟨d, 0, none⟩)] ty)) F [e, f] (some ⟨w.heap.size, 0, none⟩) := fun _ => by
  have hb := alloc_new w (.cells #[.pointer (some ⟨b, 0, none⟩), .pointer (some ⟨d, 0, none⟩)] ty)
  refine ⟨_, 0, rfl, fun h => Nat.lt_irrefl _ (hF _ h), ?_⟩
  unfold TRl TR.TRl
  refine ⟨⟨b, blk_cell hb 0, TR.tch (Tch.alloc (fun _ => False) _ _) (fun _ h => h.elim) h⟩, ?_⟩
  unfold TR.TRl
  exact ⟨⟨d, blk_cell hb 1, TR.tch (Tch.alloc (fun _ => False) _ _) (fun _ h => h.elim) k⟩, trivial⟩
theorem bind_out {x : Rs} {f : List Ex → List Tk → Rs} (h : x.bind f ≠ .out) : x ≠ .out := fun e => by rw [e] at h; exact h rfl
theorem isT_cons (t : Tk) (ts : List Tk) (a : ByteArray) : isT (t :: ts) a = decide (t.b = a) := rfl
theorem not_line (n : Nat) (h3 : CL F 124 n 3) (h4 : CL F 153 n 4) : CL F 124 (n + 1) 3 := by
  intro pb L ts w hc hok hp hx hne
  obtain ⟨c, L', t, ts', rfl, rfl, hm, hc'⟩ := hc.ne
  have hk := mt_eq hm (a := wNot) (by decide) (by decide)
  have q1 := takes_any pb c L' wNot w hp
  have hr : rd (n + 1) (.line 3) (t :: ts') = if isT (t :: ts') wNot = true then (rd n (.line 3) ts').bind (fun l r => .ok [heldE 4 l] r) else rd n (.line 4) (t :: ts') := rfl
  by_cases hb : c.b = wNot
  · have ht : t.b = wNot := hk.1 hb
    have h3' := (hok t (List.mem_cons_self ..)).lt (by rw [ht]; decide)
    rw [hr, isT_cons, if_pos (by simpa using ht)] at hne ⊢
    rw [decide_eq_true hb] at q1
    simp only [if_pos hb] at q1
    have HI : Hid (Cut L' ts' ∧ (∀ t' ∈ ts', tkOk t') ∧ HX F w pb ∧ rd n (.line 3) ts' ≠ .out ∧ CL F 124 n 3) := ⟨hc' h3', fun t ht => hok t (List.mem_cons_of_mem _ ht), hx, bind_out hne, h3⟩
    clear hc hok hx hne h3 h4 hk hr hp hc' hb ht h3' hm
    go_enter Tryz.func124, Tryz.ntmps124
    go_wp2_with fail
    refine q1.mono ?_
    rintro y w1 ⟨rfl, p1, t1⟩
    clear q1
    have q2 := HI.out.2.2.2.2 pb _ _ w1 HI.out.1 HI.out.2.1 p1 (HI.out.2.2.1.tch t1) HI.out.2.2.2.1
    have Ht1 : Hid _ := t1
    have hpb : pb < w1.heap.size := p1.lt
    clear t1 p1
    go_wp2_with fail
    refine q2.mono ?_
    rintro y w2 ⟨hy, t2⟩
    clear q2
    rcases hy with ⟨e, r, b, L2, hR, rfl, h1, h2, h3⟩ | ⟨why, p, hR, rfl⟩
    · have hF : ∀ i, F i → i < w2.heap.size := (HI.out.2.2.1.tch (Ht1.out.trans' t2)).fb
      have q3 := held_any F 4 [e] (some ⟨w2.heap.size, 0, none⟩) 1 (w2.alloc (.cells #[.pointer (some ⟨b, 0, none⟩)] 35)) (fun i hi => by have := hF i hi; simp; omega) (Nat.le_refl _) (LE.one h1 hF _)
      have HR : Hid (rd n (.line 3) ts' = .ok [e] r ∧ PB w2 pb L2 ∧ Cut L2 r ∧ Tch (fun i => i = pb) w w2) := ⟨hR, h2, h3, Ht1.out.trans' t2⟩
      clear hR h1 h2 h3 t2 hF HI
      go_wp2_with fail
      refine q3.mono ?_
      rintro y w3 ⟨⟨d, rfl, hd⟩, t3⟩
      clear q3
      have t4 : Tch (fun _ => False) w2 w3 := (Tch.alloc _ _ _).trans' t3
      have HR2 : Hid (ROut F pb ((rd n (.line 3) ts').bind fun l r => .ok [heldE 4 l] r) (.returned (.pointer (some ⟨d, 0, none⟩))) w3 ∧ Tch (fun i => i = pb) w w3) := by
        obtain ⟨a1, a2, a3, a4⟩ := HR.out
        refine ⟨Or.inl ⟨heldE 4 [e], r, d, L2, by rw [a1]; rfl, rfl, hd, a2.no t4, a3⟩, a4.trans' (t4.mono (fun _ _ h => h.elim))⟩
      clear hd t3 t4
      go_wp2_with fail
      go_ret
      exact HR2.out
    · have HR : Hid (ROut F pb ((rd n (.line 3) ts').bind fun l r => .ok [heldE 4 l] r) (.panicked [{ v := refV why p, recovered := false }]) w2 ∧ Tch (fun i => i = pb) w w2) := ⟨Or.inr ⟨why, p, by rw [hR]; rfl, rfl⟩, Ht1.out.trans' t2⟩
      clear hR t2
      go_wp2_with fail
      exact ⟨rfl, HR.out⟩
  · have ht : ¬ t.b = wNot := fun h => hb (hk.2 h)
    rw [hr, isT_cons, if_neg (by simpa using ht)] at hne ⊢
    rw [decide_eq_false hb] at q1
    simp only [if_neg hb] at q1
    have HI : Hid (Cut (c :: L') (t :: ts') ∧ (∀ t' ∈ t :: ts', tkOk t') ∧ HX F w pb ∧ rd n (.line 4) (t :: ts') ≠ .out ∧ CL F 153 n 4) := ⟨hc, hok, hx, hne, h4⟩
    clear hc hok hx hne h3 h4 hk hr hp hc'
    go_enter Tryz.func124, Tryz.ntmps124
    go_wp2_with fail
    refine q1.mono ?_
    rintro y w1 ⟨rfl, p1, t1⟩
    clear q1
    have q2 := HI.out.2.2.2.2 pb _ _ w1 HI.out.1 HI.out.2.1 p1 (HI.out.2.2.1.tch t1) HI.out.2.2.2.1
    have Ht1 : Hid _ := t1
    clear t1 p1
    go_wp2_with fail
    refine q2.mono ?_
    rintro y w2 ⟨hy, t2⟩
    clear q2
    rcases hy with ⟨e, r, b, L2, hR, rfl, h1, h2, h3⟩ | ⟨why, p, hR, rfl⟩
    · have HR : Hid (ROut F pb (rd n (.line 4) (t :: ts')) (.returned (.pointer (some ⟨b, 0, none⟩))) w2 ∧ Tch (fun i => i = pb) w w2) := ⟨Or.inl ⟨e, r, b, L2, hR, rfl, h1, h2, h3⟩, Ht1.out.trans' t2⟩
      clear hR h1 h2 h3 t2
      go_wp2_with fail
      go_ret
      exact HR.out
    · have HR : Hid (ROut F pb (rd n (.line 4) (t :: ts')) (.panicked [{ v := refV why p, recovered := false }]) w2 ∧ Tch (fun i => i = pb) w w2) := ⟨Or.inr ⟨why, p, hR, rfl⟩, Ht1.out.trans' t2⟩
      clear hR t2
      go_wp2_with fail
      exact ⟨rfl, HR.out⟩
end Go.Proofs.YtmaekkhmiafnmaaGreatDoor
