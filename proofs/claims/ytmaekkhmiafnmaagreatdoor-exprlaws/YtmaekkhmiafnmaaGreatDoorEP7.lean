import Derived.Test.YtmaekkhmiafnmaaGreatDoorEP5
import Derived.Test.YtmaekkhmiafnmaaGreatDoorEP4
set_option maxHeartbeats 4000000
set_option maxRecDepth 100000
namespace Go.Proofs.YtmaekkhmiafnmaaGreatDoor
open Go.RowKit Go Go.Lib
variable {F : Nat → Prop}
theorem or_line (n : Nat) (hI : ∀ m, m ≤ n → CL F 80 m 2) : CL F 49 (n + 1) 1 := by
  intro pb L ts w hc hok hp hx hne
  have hlt := hp.lt
  have t0 : Tch (fun _ => False) w (w.alloc (.cells #[.int .i64 2] 64)) := Tch.alloc _ _ _
  have hb := alloc_new w (.cells #[.int .i64 2] 64)
  have q := row_or n hI pb L ts (w.alloc (.cells #[.int .i64 2] 64)) w.heap.size 0 1 hc hok (hp.no t0) (hx.tch (t0.mono (fun _ _ h => h.elim))) (fun j u hu => by
    rw [Nat.zero_add, blk_cell hb]
    have e : opsC (lineOps 1) = (#[.int .i64 2] : Array Value).toList := rfl
    rw [e] at hu
    rw [← Array.getElem?_toList]; exact hu) (by omega) hne
  have e : (lineOps 1).length = 1 := rfl
  rw [e] at q
  have hmf : ∀ (fn : Fn) (first cap : Array Value) (w : World), (Instr.makeFunc fn first cap).run Tryz.prog w = .ok (.func fn first cap) w := fun _ _ _ _ => rfl
  have Ht : Hid _ := t0
  clear e hb t0 hc hok hp hx hne hlt hI
  go_enter Tryz.func49, Tryz.ntmps49
  go_wp2_with fail
  refine q.mono ?_
  rintro y w2 ⟨hy, t2⟩
  clear q
  have T2 := (Ht.out.mono (fun _ _ h => h.elim)).trans' t2
  rcases hy with ⟨e, r, b, L2, hR, rfl, h1, h2, h3⟩ | ⟨why, p, hR, rfl⟩
  · have HR : Hid (ROut F pb (rd (n + 1) (.line 1) ts) (.returned (.pointer (some ⟨b, 0, none⟩))) w2 ∧ Tch (fun i => i = pb) w w2) := ⟨Or.inl ⟨e, r, b, L2, hR, rfl, h1, h2, h3⟩, T2⟩
    clear hR h1 h2 h3 t2 T2
    go_wp2_with fail
    go_ret
    exact HR.out
  · have HR : Hid (ROut F pb (rd (n + 1) (.line 1) ts) (.panicked [{ v := refV why p, recovered := false }]) w2 ∧ Tch (fun i => i = pb) w w2) := ⟨Or.inr ⟨why, p, hR, rfl⟩, T2⟩
    clear hR t2 T2
    go_wp2_with fail
    exact ⟨rfl, HR.out⟩
theorem and_line (n : Nat) (hI : ∀ m, m ≤ n → CL F 124 m 3) : CL F 80 (n + 1) 2 := by
  intro pb L ts w hc hok hp hx hne
  have hlt := hp.lt
  have t0 : Tch (fun _ => False) w (w.alloc (.cells #[.int .i64 3] 64)) := Tch.alloc _ _ _
  have hb := alloc_new w (.cells #[.int .i64 3] 64)
  have q := row_and n hI pb L ts (w.alloc (.cells #[.int .i64 3] 64)) w.heap.size 0 1 hc hok (hp.no t0) (hx.tch (t0.mono (fun _ _ h => h.elim))) (fun j u hu => by
    rw [Nat.zero_add, blk_cell hb]
    have e : opsC (lineOps 2) = (#[.int .i64 3] : Array Value).toList := rfl
    rw [e] at hu
    rw [← Array.getElem?_toList]; exact hu) (by omega) hne
  have e : (lineOps 2).length = 1 := rfl
  rw [e] at q
  have hmf : ∀ (fn : Fn) (first cap : Array Value) (w : World), (Instr.makeFunc fn first cap).run Tryz.prog w = .ok (.func fn first cap) w := fun _ _ _ _ => rfl
  have Ht : Hid _ := t0
  clear e hb t0 hc hok hp hx hne hlt hI
  go_enter Tryz.func80, Tryz.ntmps80
  go_wp2_with fail
  refine q.mono ?_
  rintro y w2 ⟨hy, t2⟩
  clear q
  have T2 := (Ht.out.mono (fun _ _ h => h.elim)).trans' t2
  rcases hy with ⟨e, r, b, L2, hR, rfl, h1, h2, h3⟩ | ⟨why, p, hR, rfl⟩
  · have HR : Hid (ROut F pb (rd (n + 1) (.line 2) ts) (.returned (.pointer (some ⟨b, 0, none⟩))) w2 ∧ Tch (fun i => i = pb) w w2) := ⟨Or.inl ⟨e, r, b, L2, hR, rfl, h1, h2, h3⟩, T2⟩
    clear hR h1 h2 h3 t2 T2
    go_wp2_with fail
    go_ret
    exact HR.out
  · have HR : Hid (ROut F pb (rd (n + 1) (.line 2) ts) (.panicked [{ v := refV why p, recovered := false }]) w2 ∧ Tch (fun i => i = pb) w w2) := ⟨Or.inr ⟨why, p, hR, rfl⟩, T2⟩
    clear hR t2 T2
    go_wp2_with fail
    exact ⟨rfl, HR.out⟩
theorem join_line (n : Nat) (hI : ∀ m, m ≤ n → CL F 199 m 6) : CL F 179 (n + 1) 5 := by
  intro pb L ts w hc hok hp hx hne
  have hlt := hp.lt
  have t0 : Tch (fun _ => False) w (w.alloc (.cells #[.int .i64 15] 64)) := Tch.alloc _ _ _
  have hb := alloc_new w (.cells #[.int .i64 15] 64)
  have q := row_join n hI pb L ts (w.alloc (.cells #[.int .i64 15] 64)) w.heap.size 0 1 hc hok (hp.no t0) (hx.tch (t0.mono (fun _ _ h => h.elim))) (fun j u hu => by
    rw [Nat.zero_add, blk_cell hb]
    have e : opsC (lineOps 5) = (#[.int .i64 15] : Array Value).toList := rfl
    rw [e] at hu
    rw [← Array.getElem?_toList]; exact hu) (by omega) hne
  have e : (lineOps 5).length = 1 := rfl
  rw [e] at q
  have hmf : ∀ (fn : Fn) (first cap : Array Value) (w : World), (Instr.makeFunc fn first cap).run Tryz.prog w = .ok (.func fn first cap) w := fun _ _ _ _ => rfl
  have Ht : Hid _ := t0
  clear e hb t0 hc hok hp hx hne hlt hI
  go_enter Tryz.func179, Tryz.ntmps179
  go_wp2_with fail
  refine q.mono ?_
  rintro y w2 ⟨hy, t2⟩
  clear q
  have T2 := (Ht.out.mono (fun _ _ h => h.elim)).trans' t2
  rcases hy with ⟨e, r, b, L2, hR, rfl, h1, h2, h3⟩ | ⟨why, p, hR, rfl⟩
  · have HR : Hid (ROut F pb (rd (n + 1) (.line 5) ts) (.returned (.pointer (some ⟨b, 0, none⟩))) w2 ∧ Tch (fun i => i = pb) w w2) := ⟨Or.inl ⟨e, r, b, L2, hR, rfl, h1, h2, h3⟩, T2⟩
    clear hR h1 h2 h3 t2 T2
    go_wp2_with fail
    go_ret
    exact HR.out
  · have HR : Hid (ROut F pb (rd (n + 1) (.line 5) ts) (.panicked [{ v := refV why p, recovered := false }]) w2 ∧ Tch (fun i => i = pb) w w2) := ⟨Or.inr ⟨why, p, hR, rfl⟩, T2⟩
    clear hR t2 T2
    go_wp2_with fail
    exact ⟨rfl, HR.out⟩
theorem sum_line (n : Nat) (hI : ∀ m, m ≤ n → CL F 223 m 7) : CL F 199 (n + 1) 6 := by
  intro pb L ts w hc hok hp hx hne
  have hlt := hp.lt
  have t0 : Tch (fun _ => False) w (w.alloc (.cells #[.int .i64 16, .int .i64 17] 64)) := Tch.alloc _ _ _
  have hb := alloc_new w (.cells #[.int .i64 16, .int .i64 17] 64)
  have q := row_sum n hI pb L ts (w.alloc (.cells #[.int .i64 16, .int .i64 17] 64)) w.heap.size 0 2 hc hok (hp.no t0) (hx.tch (t0.mono (fun _ _ h => h.elim))) (fun j u hu => by
    rw [Nat.zero_add, blk_cell hb]
    have e : opsC (lineOps 6) = (#[.int .i64 16, .int .i64 17] : Array Value).toList := rfl
    rw [e] at hu
    rw [← Array.getElem?_toList]; exact hu) (by omega) hne
  have e : (lineOps 6).length = 2 := rfl
  rw [e] at q
  have hmf : ∀ (fn : Fn) (first cap : Array Value) (w : World), (Instr.makeFunc fn first cap).run Tryz.prog w = .ok (.func fn first cap) w := fun _ _ _ _ => rfl
  have Ht : Hid _ := t0
  clear e hb t0 hc hok hp hx hne hlt hI
  go_enter Tryz.func199, Tryz.ntmps199
  go_wp2_with fail
  refine q.mono ?_
  rintro y w2 ⟨hy, t2⟩
  clear q
  have T2 := (Ht.out.mono (fun _ _ h => h.elim)).trans' t2
  rcases hy with ⟨e, r, b, L2, hR, rfl, h1, h2, h3⟩ | ⟨why, p, hR, rfl⟩
  · have HR : Hid (ROut F pb (rd (n + 1) (.line 6) ts) (.returned (.pointer (some ⟨b, 0, none⟩))) w2 ∧ Tch (fun i => i = pb) w w2) := ⟨Or.inl ⟨e, r, b, L2, hR, rfl, h1, h2, h3⟩, T2⟩
    clear hR h1 h2 h3 t2 T2
    go_wp2_with fail
    go_ret
    exact HR.out
  · have HR : Hid (ROut F pb (rd (n + 1) (.line 6) ts) (.panicked [{ v := refV why p, recovered := false }]) w2 ∧ Tch (fun i => i = pb) w w2) := ⟨Or.inr ⟨why, p, hR, rfl⟩, T2⟩
    clear hR t2 T2
    go_wp2_with fail
    exact ⟨rfl, HR.out⟩
theorem product_line (n : Nat) (hI : ∀ m, m ≤ n → CL F 234 m 8) : CL F 223 (n + 1) 7 := by
  intro pb L ts w hc hok hp hx hne
  have hlt := hp.lt
  have t0 : Tch (fun _ => False) w (w.alloc (.cells #[.int .i64 18, .int .i64 19, .int .i64 20] 64)) := Tch.alloc _ _ _
  have hb := alloc_new w (.cells #[.int .i64 18, .int .i64 19, .int .i64 20] 64)
  have q := row_product n hI pb L ts (w.alloc (.cells #[.int .i64 18, .int .i64 19, .int .i64 20] 64)) w.heap.size 0 3 hc hok (hp.no t0) (hx.tch (t0.mono (fun _ _ h => h.elim))) (fun j u hu => by
    rw [Nat.zero_add, blk_cell hb]
    have e : opsC (lineOps 7) = (#[.int .i64 18, .int .i64 19, .int .i64 20] : Array Value).toList := rfl
    rw [e] at hu
    rw [← Array.getElem?_toList]; exact hu) (by omega) hne
  have e : (lineOps 7).length = 3 := rfl
  rw [e] at q
  have hmf : ∀ (fn : Fn) (first cap : Array Value) (w : World), (Instr.makeFunc fn first cap).run Tryz.prog w = .ok (.func fn first cap) w := fun _ _ _ _ => rfl
  have Ht : Hid _ := t0
  clear e hb t0 hc hok hp hx hne hlt hI
  go_enter Tryz.func223, Tryz.ntmps223
  go_wp2_with fail
  refine q.mono ?_
  rintro y w2 ⟨hy, t2⟩
  clear q
  have T2 := (Ht.out.mono (fun _ _ h => h.elim)).trans' t2
  rcases hy with ⟨e, r, b, L2, hR, rfl, h1, h2, h3⟩ | ⟨why, p, hR, rfl⟩
  · have HR : Hid (ROut F pb (rd (n + 1) (.line 7) ts) (.returned (.pointer (some ⟨b, 0, none⟩))) w2 ∧ Tch (fun i => i = pb) w w2) := ⟨Or.inl ⟨e, r, b, L2, hR, rfl, h1, h2, h3⟩, T2⟩
    clear hR h1 h2 h3 t2 T2
    go_wp2_with fail
    go_ret
    exact HR.out
  · have HR : Hid (ROut F pb (rd (n + 1) (.line 7) ts) (.panicked [{ v := refV why p, recovered := false }]) w2 ∧ Tch (fun i => i = pb) w w2) := ⟨Or.inr ⟨why, p, hR, rfl⟩, T2⟩
    clear hR t2 T2
    go_wp2_with fail
    exact ⟨rfl, HR.out⟩
end Go.Proofs.YtmaekkhmiafnmaaGreatDoor
namespace Go.Proofs.YtmaekkhmiafnmaaGreatDoor
open Go.RowKit Go Go.Lib
variable {F : Nat → Prop}
abbrev ptV (b : Nat) : Value := .pointer (some ⟨b, 0, none⟩)
mutual
theorem TR.mono {G : Nat → Prop} {w : World} (hF : ∀ i, i < w.heap.size → G i → F i) : ∀ {e : Ex} {b : Nat}, TR w F e b → TR w G e b
  | .mk o no v nm l, b, h => by
    unfold TR at h ⊢
    obtain ⟨h0, c0, c1, c2, c3, c4, c5, ao, c, c6, hc, hl⟩ := h
    refine ⟨fun h => h0 (hF b (cell_lt c0) h), c0, c1, c2, c3, c4, c5, ao, c, c6, hc, fun hne => ?_⟩
    obtain ⟨g, i, e1, hg, hr⟩ := hl hne
    have hlt : g < w.heap.size := by
      cases l with
      | nil => exact absurd rfl hne
      | cons e l =>
        have hr' := hr
        unfold TR.TRl at hr'
        obtain ⟨⟨b', c', _⟩, _⟩ := hr'
        exact cell_lt c'
    exact ⟨g, i, e1, fun h => hg (hF g hlt h), TRl.mono hF hr⟩
theorem TRl.mono {G : Nat → Prop} {w : World} (hF : ∀ i, i < w.heap.size → G i → F i) : ∀ {l : List Ex} {g i : Nat}, TRl w F l g i → TRl w G l g i
  | [], _, _, _ => trivial
  | e :: l, g, i, h => by
    unfold TRl TR.TRl at h ⊢
    obtain ⟨⟨b, c0, hb⟩, hr⟩ := h
    exact ⟨⟨b, c0, TR.mono hF hb⟩, TRl.mono hF hr⟩
end
theorem TRl.of {w : World} : ∀ {l : List Ex} {g i : Nat}, (∀ k e, l[k]? = some e → ∃ b, w.cell? ⟨g, i + k, none⟩ = some (ptV b) ∧ TR w F e b) → TRl w F l g i
  | [], _, _, _ => trivial
  | e :: l, g, i, h => by
    unfold TRl TR.TRl
    refine ⟨h 0 e rfl, TRl.of fun k e' he => ?_⟩
    have := h (k + 1) e' (by simpa using he)
    rw [show i + (k + 1) = i + 1 + k by omega] at this
    exact this
def PR (w : World) (F : Nat → Prop) (N : Nat) (ao : Option Addr) (c : Nat) (l : List Ex) : Prop :=
  ∃ bs : List Nat, bs.length = l.length ∧ w.ownsRow N 35 1 (.slice ao l.length c) l.length (bs.map ptV) ∧ (∀ i, F i → i < N) ∧
    ∀ (k : Nat) (e : Ex) (b : Nat), l[k]? = some e → bs[k]? = some b → TR w (fun i => F i ∨ (Value.slice ao l.length c).ownBlock = some i) e b
theorem PR.nil {w : World} {N : Nat} (hF : ∀ i, F i → i < N) : PR w F N none 0 [] := ⟨[], rfl, ⟨rfl, Or.inl ⟨rfl, rfl⟩⟩, hF, fun k e b h => by simp at h⟩
theorem PR.le {w : World} {N : Nat} {ao : Option Addr} {c : Nat} {l : List Ex} (h : PR w F N ao c l) : LE w F l ao := fun hne => by
  obtain ⟨bs, hl, ho, hF, ht⟩ := h
  have hpos : 0 < l.length := List.length_pos_iff.2 hne
  obtain ⟨g, rfl, _, ha⟩ := own_at ho hpos
  refine ⟨g, 0, rfl, fun h => ?_, TRl.of fun k e he => ?_⟩
  · have := row_ge ho (k := g) rfl
    have := hF g h
    omega
  · have hk : k < l.length := (List.getElem?_eq_some_iff.1 he).1
    obtain ⟨b, hb⟩ : ∃ b, bs[k]? = some b := ⟨_, List.getElem?_eq_getElem (by omega)⟩
    exact ⟨b, ha k _ (by rw [List.getElem?_map, hb]; rfl), TR.mono (fun i _ h => Or.inl h) (ht k e b he hb)⟩
theorem PR.cap {w : World} {N : Nat} {ao : Option Addr} {c : Nat} {l : List Ex} (h : PR w F N ao c l) : l.length ≤ c := by
  obtain ⟨bs, hl, ho, hF, ht⟩ := h
  rcases ho.2 with ⟨h1, h2⟩ | ⟨g, c', cur, hv, hb, hh, hc, _⟩
  · omega
  · injection hv with _ _ h3
    omega
theorem PR.tch {S : Nat → Prop} {w w' : World} {N : Nat} {ao : Option Addr} {c : Nat} {l : List Ex} (h : PR w F N ao c l) (t : Tch S w w') (hS : ∀ i, S i → F i) : PR w' F N ao c l := by
  obtain ⟨bs, hl, ho, hF, ht⟩ := h
  refine ⟨bs, hl, own_tch ho t (fun g e hg => ?_), hF, fun k e b he hb => TR.tch t (fun i hi => Or.inl (hS i hi)) (ht k e b he hb)⟩
  have := row_ge ho e
  have := hF g (hS g hg)
  omega
abbrev noB (F : Nat → Prop) (ao : Option Addr) (n c : Nat) : Nat → Prop := fun i => F i ∨ (Value.slice ao n c).ownBlock = some i
theorem PR.lt {w : World} {N : Nat} {ao : Option Addr} {c : Nat} {l : List Ex} (h : PR w F N ao c l) (hN : N ≤ w.heap.size) : ∀ i, noB F ao l.length c i → i < w.heap.size := by
  obtain ⟨bs, hl, ho, hF, ht⟩ := h
  rintro i (hi | hi)
  · have := hF i hi; omega
  · exact (ho.lt i hi).2
theorem PR.hx {w : World} {pb N : Nat} {ao : Option Addr} {c : Nat} {l : List Ex} (h : PR w F N ao c l) (hN : N ≤ w.heap.size) (hx : HX F w pb) : HX (noB F ao l.length c) w pb :=
  ⟨hx.wds, hx.lib, hx.shp, hx.far, h.lt hN, Or.inl hx.fp⟩
theorem PR.one {w : World} {e : Ex} {b N : Nat} (h : TR w F e b) (hF : ∀ i, F i → i < N) (hN : N ≤ w.heap.size) : PR (w.alloc (.cells #[ptV b] 35)) F N (some ⟨w.heap.size, 0, none⟩) 1 [e] := by
  have hb := alloc_new w (.cells #[ptV b] 35)
  refine ⟨[b], rfl, ⟨rfl, Or.inr ⟨w.heap.size, 1, _, rfl, hN, hb, Nat.le_refl _, by unfold maxLen; simp, rfl, rfl⟩⟩, hF, fun k e' b' he hb' => ?_⟩
  cases k with
  | succ k => simp at he
  | zero =>
    simp only [List.getElem?_cons_zero, Option.some.injEq] at he hb'
    subst he
    subst hb'
    refine TR.tch (Tch.alloc (fun _ => False) _ _) (fun _ h => h.elim) (TR.mono (fun i hi h => ?_) h)
    rcases h with h | h
    · exact h
    · have : i = w.heap.size := by simp [Value.ownBlock] at h; exact h.symm
      omega
theorem info_ptr : (Tryz.prog.info? 35).map (fun i => (i.zero, i.size, i.bytes)) = some (some (.pointer none), 1, 8) := by kernel_rfl
theorem PR.app {w : World} {N : Nat} {ao : Option Addr} {c : Nat} {l : List Ex} {e : Ex} {b : Nat} (h : PR w F N ao c l) (hN : N ≤ w.heap.size) (hl : l.length ≤ 1000000000) (he : TR w (noB F ao l.length c) e b) :
    ∃ o c' w', (Builtin.append_ #[65, 65] 65 #[.slice ao l.length c, .slice (some ⟨w.heap.size, 0, none⟩) 1 1]).run Tryz.prog (w.alloc (.cells #[ptV b] 35)) = .ok (.slice o (l.length + 1) c') w' ∧
      PR w' F N o c' (l ++ [e]) ∧ Tch (fun i => N ≤ i) w w' := by
  obtain ⟨bs, hbl, ho, hF, ht⟩ := h
  obtain ⟨i0, hi0, hz0, hz1, hz2⟩ := info_parts info_ptr
  have t6 : Tch (fun _ => False) w (w.alloc (.cells #[ptV b] 35)) := Tch.alloc _ _ _
  have b6 := alloc_new w (.cells #[ptV b] 35)
  have ho6 := own_tch ho t6 (fun _ _ e => e)
  obtain ⟨v7, w7, hr7, hown7, hgr7, _, hat7⟩ := run_append_own_at (P := Tryz.prog) (w.alloc (.cells #[ptV b] 35)) N 65 65 35 i0 _ 1 8 Tryz.underlying65 hi0 hz0 hz1 hz2 rfl (by decide) _ _ _ ho6 ⟨w.heap.size, 0, none⟩ 1 1 [ptV b] rfl (fun j u hu => by rw [add_plain, Nat.zero_add, blk_cell b6, ← Array.getElem?_toList]; exact hu) (fun u hu => by rw [List.mem_singleton.1 hu]; rfl) (by unfold maxLen; omega) (by omega) (by simp; omega)
  obtain ⟨o7, c7, rfl⟩ := row_slice hown7
  have t7 : Tch (fun g => (Value.slice ao l.length c).ownBlock = some g) (w.alloc (.cells #[ptV b] 35)) w7 := Tch.of_grown hgr7 (fun g e => e)
  have t67 : Tch (fun g => (Value.slice ao l.length c).ownBlock = some g) w w7 := (t6.mono (fun _ _ h => h.elim)).trans' t7
  have hup : ∀ i, i < w.heap.size → noB F o7 (l.length + 1) c7 i → noB F ao l.length c i := by
    rintro i hi (h | h)
    · exact Or.inl h
    · rcases hat7 with e | e
      · exact Or.inr (e ▸ h)
      · rw [e] at h
        have : i = (w.alloc (.cells #[ptV b] 35)).heap.size := by injection h with h; exact h.symm
        simp at this; omega
  have htr : ∀ {x : Ex} {d : Nat}, TR w (noB F ao l.length c) x d → TR w7 (noB F o7 (l.length + 1) c7) x d := fun {x d} hx => by
    have h1 : TR w (fun i => noB F ao l.length c i ∨ w.heap.size ≤ i) x d := TR.mono (fun i hi h => h.resolve_right (by omega)) hx
    exact TR.mono (fun i hi h => (Nat.lt_or_ge i w.heap.size).elim (fun hlt => Or.inl (hup i hlt h)) Or.inr) (TR.tch t67 (fun i hi => Or.inl (Or.inr hi)) h1)
  refine ⟨o7, c7, w7, hr7, ⟨bs ++ [b], by simp [hbl], by rw [List.length_append, List.map_append]; exact hown7, hF, fun k x d hx hd => ?_⟩, t67.mono (fun g _ e => row_ge ho6 e)⟩
  rw [List.length_append]
  by_cases hk : k < l.length
  · rw [List.getElem?_append_left hk] at hx
    rw [List.getElem?_append_left (by omega)] at hd
    exact htr (ht k x d hx hd)
  · rw [List.getElem?_append_right (by omega)] at hx
    rw [List.getElem?_append_right (by omega)] at hd
    have hk0 : k = l.length := by
      have := (List.getElem?_eq_some_iff.1 hx).1
      simp at this; omega
    subst hk0
    rw [hbl] at hd
    simp only [Nat.sub_self, List.getElem?_cons_zero, Option.some.injEq] at hx hd
    subst hx
    subst hd
    exact htr he
end Go.Proofs.YtmaekkhmiafnmaaGreatDoor
namespace Go.Proofs.YtmaekkhmiafnmaaGreatDoor
open Go.RowKit Go Go.Lib
variable {F : Nat → Prop}
def LOut (F : Nat → Prop) (pb : Nat) (R : Rs) (x : Ending) (w' : World) : Prop :=
  (∃ l r ao c L', R = .ok l r ∧ x = .returned (.slice ao l.length c) ∧ l.length ≤ c ∧ LE w' F l ao ∧ PB w' pb L' ∧ Cut L' r) ∨
  (∃ why p, R = .no why p ∧ x = .panicked [{ v := refV why p, recovered := false }])
def CLs (F : Nat → Prop) (f n : Nat) : Prop := ∀ (pb : Nat) (L : List Ct) (ts : List Tk) (w : World), Cut L ts → (∀ t ∈ ts, tkOk t) → PB w pb L → HX F w pb → rd n (.list []) ts ≠ .out →
  Calls Tryz.prog f #[.pointer (some ⟨pb, 0, none⟩)] w fun x w' => LOut F pb (rd n (.list []) ts) x w' ∧ Tch (fun i => i = pb) w w'
def LsI (F : Nat → Prop) (n : Nat) (R : Rs) (pb : Nat) (w wr : World) (m : Nat) (ao : Option Addr) (k c : Nat) : Prop :=
  ∃ acc L ts, acc.length = k ∧ PR wr F w.heap.size ao c acc ∧ PB wr pb L ∧ Cut L ts ∧ (∀ t ∈ ts, tkOk t) ∧ (if isT ts wCom = true then rd m (.list acc) ts.tail else .ok acc ts) = R ∧ m + k ≤ n + 1 ∧ Tch (fun i => i = pb) w wr
theorem LsI.app {w4 : World} {N k c : Nat} {ao : Option Addr} {acc : List Ex} {e : Ex} {b : Nat} (hk : acc.length = k) (h : PR w4 F N ao c acc) (hN : N ≤ w4.heap.size) (hl : k ≤ 1000000000) (he : TR w4 (noB F ao k c) e b) :
    ∃ o c' w', (Builtin.append_ #[65, 65] 65 #[.slice ao k c, .slice (some ⟨w4.heap.size, 0, none⟩) 1 1]).run Tryz.prog (w4.alloc (.cells #[ptV b] 35)) = .ok (.slice o ((k + 1 : Nat)) c') w' ∧
      PR w' F N o c' (acc ++ [e]) ∧ (acc ++ [e]).length = k + 1 ∧ Tch (fun i => N ≤ i) w4 w' := by
  subst hk
  obtain ⟨o, c', w', h1, h2, h3⟩ := h.app hN hl he
  exact ⟨o, c', w', h1, h2, by simp, h3⟩
theorem list_any (n : Nat) (hn : n ≤ 1000000) (hI : ∀ (G : Nat → Prop) m, m ≤ n → CL G 49 m 1) : CLs F 200 (n + 1) := by
  intro pb L ts w hc hok hp hx hne
  obtain ⟨R, hR⟩ : ∃ R, R = rd (n + 1) (.list []) ts := ⟨_, rfl⟩
  have hR2 : R = (rd n (.line 1) ts).bind fun e r => if isT r wCom = true then rd n (.list ([] ++ e)) r.tail else .ok ([] ++ e) r := hR
  have q1 := hI (fun i => i < w.heap.size) n (Nat.le_refl _) pb L ts w hc hok hp ⟨hx.wds, hx.lib, hx.shp, hx.far, fun _ h => h, hp.lt⟩ (bind_out (by rw [← hR2, hR]; exact hne))
  rw [← hR] at hne ⊢
  have HI : Hid ((∀ (G : Nat → Prop) m, m ≤ n → CL G 49 m 1) ∧ (∀ m nt ts l r, rd m nt ts = .ok l r → Sub r ts) ∧ (∀ t ∈ ts, tkOk t) ∧ HX F w pb ∧ R ≠ .out ∧ R = (rd n (.line 1) ts).bind fun e r => if isT r wCom = true then rd n (.list ([] ++ e)) r.tail else .ok ([] ++ e) r) := ⟨hI, fun m nt ts l r h => rd_sub m nt ts l r h, hok, hx, hne, hR2⟩
  clear hI hok hx hne hR2 hR hc hp
  go_enter Tryz.func200, Tryz.ntmps200
  go_wp2_with fail
  refine q1.mono ?_
  rintro y w1 ⟨hy, t1⟩
  clear q1
  rcases hy with ⟨e, r, b, L2, hR, rfl, h1, h2, h3⟩ | ⟨why, p, hR, rfl⟩
  · obtain ⟨w2, hw2⟩ : ∃ w2, w2 = w1.alloc (.cells #[ptV b] 35) := ⟨_, rfl⟩
    have t2 : Tch (fun _ => False) w1 w2 := by rw [hw2]; exact Tch.alloc _ _ _
    have HJ : Hid (LsI F n R pb w w2 n (some ⟨w1.heap.size, 0, none⟩) 1 1) := by
      refine ⟨[e], L2, r, rfl, by rw [hw2]; exact (PR.one (TR.mono (fun i _ hi => HI.out.2.2.2.1.fb i hi) h1) HI.out.2.2.2.1.fb t1.size), h2.no t2, h3, fun t ht => HI.out.2.2.1 t (HI.out.2.1 _ _ _ _ _ hR t ht), ?_, by omega, t1.trans' (t2.mono (fun _ _ h => h.elim))⟩
      rw [HI.out.2.2.2.2.2, hR]; rfl
    rw [hw2] at HJ
    clear hR h1 h2 h3 t1 t2 hw2
    go_wp2_with fail
    go_loopg [3] n (fun m lv wr => ∃ (ao : Option Addr) (k c : Nat), lv = .slice ao k c ∧ Hid (LsI F n R pb w wr m ao k c))
    case atStart => exact ⟨_, 1, 1, rfl, HJ⟩
    case round =>
      obtain ⟨ao, k, c, rfl, HJ2⟩ := hrel
      obtain ⟨acc, L3, ts3, j1, j2, j3, j4, j5, j6, j7, j8⟩ := HJ2.out
      obtain ⟨c3, L', t, ts', rfl, rfl, hm, hc'⟩ := j4.ne
      have hk := mt_eq hm (a := wCom) (by decide) (by decide)
      have q2 := takes_any pb c3 L' wCom wr j3
      rw [isT_cons] at j6
      by_cases hb : c3.b = wCom
      · have ht : t.b = wCom := hk.1 hb
        rw [if_pos (by simpa using ht)] at j6
        have h3' := (j5 t (List.mem_cons_self ..)).lt (by rw [ht]; decide)
        rw [decide_eq_true hb] at q2
        simp only [if_pos hb] at q2
        obtain ⟨m', hgk⟩ : ∃ m', gk = m' + 1 := by
          cases gk with
          | zero => exact absurd j6.symm HI.out.2.2.2.2.1
          | succ m' => exact ⟨m', rfl⟩
        rw [hgk] at j6 j7
        have hj : R = (rd m' (.line 1) ts').bind fun e r => if isT r wCom = true then rd m' (.list (acc ++ e)) r.tail else .ok (acc ++ e) r := j6.symm
        have HK : Hid (acc.length = k ∧ PR wr F w.heap.size ao c acc ∧ Cut L' ts' ∧ (∀ t ∈ ts', tkOk t) ∧ R = ((rd m' (.line 1) ts').bind fun e r => if isT r wCom = true then rd m' (.list (acc ++ e)) r.tail else .ok (acc ++ e) r) ∧ m' + 1 + k ≤ n + 1 ∧ Tch (fun i => i = pb) w wr) := ⟨j1, j2, hc' h3', fun t ht => j5 t (List.mem_cons_of_mem _ ht), hj, j7, j8⟩
        clear j1 j2 j3 j4 j5 j6 j7 j8 hj hb ht h3' hk hm hc'
        go_wp2_with fail
        refine q2.mono ?_
        rintro y w3 ⟨rfl, p3, t3⟩
        clear q2
        have hx3 : HX F w3 pb := HI.out.2.2.2.1.tch (HK.out.2.2.2.2.2.2.trans' t3)
        have hN3 : w.heap.size ≤ w3.heap.size := (HK.out.2.2.2.2.2.2.trans' t3).size
        have pr3 := HK.out.2.1.tch t3 HI.out.2.2.2.1.tp
        have q3 := HI.out.1 (noB F ao acc.length c) m' (by have := HK.out.2.2.2.2.2.1; omega) pb L' ts' w3 HK.out.2.2.1 HK.out.2.2.2.1 p3 (pr3.hx hN3 hx3) (bind_out (by rw [← HK.out.2.2.2.2.1]; exact HI.out.2.2.2.2.1))
        have H3 : Hid (PR w3 F w.heap.size ao c acc ∧ w.heap.size ≤ w3.heap.size ∧ Tch (fun i => i = pb) w w3) := ⟨pr3, hN3, HK.out.2.2.2.2.2.2.trans' t3⟩
        clear p3 t3 hx3 hN3 pr3
        go_wp2_with fail
        refine q3.mono ?_
        rintro y w4 ⟨hy, t4⟩
        clear q3
        rcases hy with ⟨e, r, b, L4, hR, rfl, h1, h2, h3⟩ | ⟨why, p, hR, rfl⟩
        · have pr4 := H3.out.1.tch t4 HI.out.2.2.2.1.tp
          rw [HK.out.1] at h1
          obtain ⟨o7, c7, w7, hr7, hp7, hl7, t7⟩ := LsI.app HK.out.1 pr4 (by have := t4.size; have := H3.out.2.1; omega) (by have := HK.out.2.2.2.2.2.1; omega) h1
          have hpb : pb < w.heap.size := HI.out.2.2.2.1.fb pb HI.out.2.2.2.1.fp
          have HJ7 : Hid (LsI F n R pb w w7 m' o7 (k + 1) c7) := by
            refine ⟨acc ++ [e], L4, r, hl7, hp7, h2.far t7 (fun i hi => by omega), h3, fun t ht => HK.out.2.2.2.1 t (HI.out.2.1 _ _ _ _ _ hR t ht), ?_, by have := HK.out.2.2.2.2.2.1; omega, (H3.out.2.2.trans' t4).trans t7 (fun i hi h => by omega)⟩
            rw [HK.out.2.2.2.2.1, hR]; rfl
          clear hR h1 h2 h3 t4 pr4 hp7 hl7 t7 hpb
          go_wp2_with (at_builtin; refine wpList_app _ rfl _ _ 65 rfl rfl _ _ rfl rfl hr7 ?_)
          go_roundg m'
          case measure => omega
          case rel => exact ⟨o7, k + 1, c7, rfl, HJ7⟩
        · have HR : Hid (LOut F pb R (.panicked [{ v := refV why p, recovered := false }]) w4 ∧ Tch (fun i => i = pb) w w4) := ⟨Or.inr ⟨why, p, by rw [HK.out.2.2.2.2.1, hR]; rfl, rfl⟩, H3.out.2.2.trans' t4⟩
          clear hR t4
          go_wp2_with fail
          exact ⟨rfl, HR.out⟩
      · have ht : ¬ t.b = wCom := fun h => hb (hk.2 h)
        rw [if_neg (by simpa using ht)] at j6
        rw [decide_eq_false hb] at q2
        simp only [if_neg hb] at q2
        have HR : Hid (∀ w3, PB w3 pb (c3 :: L') → Tch (fun i => i = pb) wr w3 → LOut F pb R (.returned (.slice ao k c)) w3 ∧ Tch (fun i => i = pb) w w3) := fun w3 p3 t3 => by
          have pr3 := j2.tch t3 HI.out.2.2.2.1.tp
          refine ⟨Or.inl ⟨acc, _, ao, c, _, j6.symm, by rw [j1], pr3.cap, pr3.le, p3, j4⟩, j8.trans' t3⟩
        clear j1 j2 j3 j4 j5 j6 j7 j8 hb ht hk hm hc'
        go_wp2_with fail
        refine q2.mono ?_
        rintro y w3 ⟨rfl, p3, t3⟩
        have HR3 : Hid _ := HR.out w3 p3 t3
        clear q2 p3 t3
        go_wp2_with fail
        go_ret
        exact HR3.out
  · have HR : Hid (LOut F pb R (.panicked [{ v := refV why p, recovered := false }]) w1 ∧ Tch (fun i => i = pb) w w1) := ⟨Or.inr ⟨why, p, by rw [HI.out.2.2.2.2.2, hR]; rfl, rfl⟩, t1⟩
    clear hR t1
    go_wp2_with fail
    exact ⟨rfl, HR.out⟩
end Go.Proofs.YtmaekkhmiafnmaaGreatDoor
namespace Go.Proofs.YtmaekkhmiafnmaaGreatDoor
open Go.RowKit Go Go.Lib
variable {F : Nat → Prop}
theorem nb_R {F : Nat → Prop} {a : ByteArray} {c : Ct} {t : Tk} {x : Ending} {w' : World} (h : NbOut F a c x w') (hb : c.b = t.b) (hp : c.p = t.p) (r : List Tk) :
    (∃ e b, numT a.data.toList t r = .ok [e] r ∧ x = .returned (.pointer (some ⟨b, 0, none⟩)) ∧ TR w' F e b) ∨ (numT a.data.toList t r = .no 114 t.p ∧ x = .panicked [{ v := refV 114 t.p, recovered := false }]) := by
  unfold numT
  rw [← hb, ← hp]
  rcases h with ⟨m, b, hm, rfl, hT⟩ | ⟨hm, rfl⟩
  · exact Or.inl ⟨_, b, by rw [hm], rfl, hT⟩
  · refine Or.inr ⟨?_, rfl⟩
    split
    · rename_i n hn
      exact absurd hn (hm n)
    · rfl
theorem mt_k {c : Ct} {t : Tk} (h : mt c t) (j : Nat) (hj : j ≤ 2) : c.k = j ↔ t.k = j := by
  obtain ⟨_, ⟨_, h2, _⟩ | ⟨h1, h2, _⟩⟩ := h <;> omega
theorem mt_b {c : Ct} {t : Tk} (h : mt c t) (h3 : t.k ≤ 4) : c.b = t.b := by
  obtain ⟨_, ⟨_, _, h2⟩ | ⟨h1, _⟩⟩ := h
  · exact h2
  · omega
theorem minus_line (n : Nat) (h8 : CL F 234 n 8) (h9 : CL F 241 n 9) : CL F 234 (n + 1) 8 := by
  intro pb L ts w hc hok hp hx hne
  obtain ⟨c, L', t, ts', rfl, rfl, hm, hc'⟩ := hc.ne
  have hk := mt_eq hm (a := wMin) (by decide) (by decide)
  have q1 := takes_any pb c L' wMin w hp
  have hr : rd (n + 1) (.line 8) (t :: ts') = minusR (rd n) (t :: ts') := rfl
  by_cases hb : c.b = wMin
  · have ht : t.b = wMin := hk.1 hb
    have h3' := (hok t (List.mem_cons_self ..)).lt (by rw [ht]; decide)
    have hc2 := hc' h3'
    obtain ⟨c2, L2, t2, ts2, rfl, rfl, hm2, hc3⟩ := hc2.ne
    have hr2 : minusR (rd n) (t :: t2 :: ts2) = if t2.k = 0 then numT [45] t2 ts2 else (rd n (.line 8) (t2 :: ts2)).bind fun l r1 => .ok [heldE 21 l] r1 := by
      unfold minusR
      rw [isT_cons, if_pos (by simpa using ht)]
      rfl
    rw [hr, hr2] at hne ⊢
    rw [decide_eq_true hb] at q1
    simp only [if_pos hb] at q1
    have hok2 : ∀ t ∈ t2 :: ts2, tkOk t := fun t ht => hok t (List.mem_cons_of_mem _ ht)
    have hf := fun W => tk_k c2 W
    by_cases hk0 : c2.k = 0
    · have ht0 : t2.k = 0 := (mt_k hm2 0 (by omega)).1 hk0
      rw [if_pos ht0] at hne ⊢
      have hb2 := mt_b hm2 (by omega)
      have HI : Hid (HX F w pb ∧ c2.b = t2.b ∧ c2.p = t2.p ∧ Cut L2 ts2 ∧ c2.b.size ≤ 400) := ⟨hx, hb2, hm2.1, hc3 (by omega), by rw [hb2]; exact (hok2 t2 (List.mem_cons_self ..)).1⟩
      have hk0I : ((c2.k : Nat) : Int) = 0 := by omega
      clear hc hok hx hne h8 h9 hk hr hp hc' hb ht h3' hm hr2 hok2 hm2 hc3 hb2 ht0 hc2 hk0
      go_enter Tryz.func234, Tryz.ntmps234
      go_wp2_with fail
      refine q1.mono ?_
      rintro y w1 ⟨rfl, p1, t1⟩
      clear q1
      have q2 := next_any pb c2 L2 w1 p1
      have Hp1 : Hid (PB w1 pb (c2 :: L2) ∧ Tch (fun i => i = pb) w w1) := ⟨p1, t1⟩
      clear p1 t1
      go_wp2_with fail
      refine q2.mono ?_
      rintro y w2 ⟨rfl, t2'⟩
      clear q2
      have q3 := take_any pb c2 L2 w2 (Hp1.out.1.no t2')
      have Ht2 : Hid (Tch (fun i => i = pb) w w2) := Hp1.out.2.trans' (t2'.mono (fun _ _ h => h.elim))
      clear t2' Hp1
      go_wp2_with fail
      refine q3.mono ?_
      rintro y w3 ⟨rfl, p3, t3⟩
      clear q3
      have T3 := Ht2.out.trans' t3
      have hpb := p3.lt
      have q4 := numberOf_any F ⟨#[45]⟩ c2 w3 (HI.out.1.tch T3).fb (by have h400 := HI.out.2.2.2.2; have h1 : (⟨#[45]⟩ : ByteArray).size = 1 := rfl; rw [ByteArray.size_append, h1]; omega) (HI.out.1.tch T3).lib
      have HP : Hid (PB w3 pb L2 ∧ Tch (fun i => i = pb) w w3) := ⟨p3, T3⟩
      clear t3 p3 T3
      go_wp2_with fail
      refine q4.mono ?_
      rintro y w4 ⟨hy, t4⟩
      clear q4
      rcases nb_R hy HI.out.2.1 HI.out.2.2.1 ts2 with ⟨e, b, hR, rfl, hT⟩ | ⟨hR, rfl⟩
      · have HR : Hid (ROut F pb (numT [45] t2 ts2) (.returned (.pointer (some ⟨b, 0, none⟩))) w4 ∧ Tch (fun i => i = pb) w w4) := ⟨Or.inl ⟨e, ts2, b, L2, hR, rfl, hT, HP.out.1.no t4, HI.out.2.2.2.1⟩, HP.out.2.trans' (t4.mono (fun _ _ h => h.elim))⟩
        clear hR hT t4 hy
        go_wp2_with fail
        go_ret
        exact HR.out
      · have HR : Hid (ROut F pb (numT [45] t2 ts2) (.panicked [{ v := refV 114 t2.p, recovered := false }]) w4 ∧ Tch (fun i => i = pb) w w4) := ⟨Or.inr ⟨114, t2.p, hR, rfl⟩, HP.out.2.trans' (t4.mono (fun _ _ h => h.elim))⟩
        clear hR t4 hy
        go_wp2_with fail
        exact ⟨rfl, HR.out⟩
    · have ht0 : ¬ t2.k = 0 := fun h => hk0 ((mt_k hm2 0 (by omega)).2 h)
      rw [if_neg ht0] at hne ⊢
      have HI : Hid (Cut (c2 :: L2) (t2 :: ts2) ∧ (∀ t' ∈ t2 :: ts2, tkOk t') ∧ HX F w pb ∧ rd n (.line 8) (t2 :: ts2) ≠ .out ∧ CL F 234 n 8) := ⟨hc2, hok2, hx, bind_out hne, h8⟩
      have hk0I : ¬ ((c2.k : Nat) : Int) = 0 := by omega
      clear hc hok hx hne h8 h9 hk hr hp hc' hb ht h3' hm hr2 hok2 hm2 hc3 ht0 hc2 hk0
      go_enter Tryz.func234, Tryz.ntmps234
      go_wp2_with fail
      refine q1.mono ?_
      rintro y w1 ⟨rfl, p1, t1⟩
      clear q1
      have q2 := next_any pb c2 L2 w1 p1
      have Hp1 : Hid (PB w1 pb (c2 :: L2) ∧ Tch (fun i => i = pb) w w1) := ⟨p1, t1⟩
      clear p1 t1
      go_wp2_with fail
      refine q2.mono ?_
      rintro y w2 ⟨rfl, t2'⟩
      clear q2
      have p2 := Hp1.out.1.no t2'
      have T2 := Hp1.out.2.trans' (t2'.mono (fun _ _ h => h.elim))
      have q3 := HI.out.2.2.2.2 pb _ _ w2 HI.out.1 HI.out.2.1 p2 (HI.out.2.2.1.tch T2) HI.out.2.2.2.1
      have hpb := p2.lt
      have Ht2 : Hid _ := T2
      clear t2' Hp1 p2 T2
      go_wp2_with fail
      refine q3.mono ?_
      rintro y w3 ⟨hy, t3⟩
      clear q3
      rcases hy with ⟨e, r, b, L3, hR, rfl, h1, h2, h3⟩ | ⟨why, p, hR, rfl⟩
      · have hF : ∀ i, F i → i < w3.heap.size := (HI.out.2.2.1.tch (Ht2.out.trans' t3)).fb
        have q4 := held_any F 21 [e] (some ⟨w3.heap.size, 0, none⟩) 1 (w3.alloc (.cells #[.pointer (some ⟨b, 0, none⟩)] 35)) (fun i hi => by have := hF i hi; simp; omega) (Nat.le_refl _) (LE.one h1 hF _)
        have HR : Hid (rd n (.line 8) (t2 :: ts2) = .ok [e] r ∧ PB w3 pb L3 ∧ Cut L3 r ∧ Tch (fun i => i = pb) w w3) := ⟨hR, h2, h3, Ht2.out.trans' t3⟩
        clear hR h1 h2 h3 t3 hF HI
        go_wp2_with fail
        refine q4.mono ?_
        rintro y w4 ⟨⟨d, rfl, hd⟩, t4⟩
        clear q4
        have t5 : Tch (fun _ => False) w3 w4 := (Tch.alloc _ _ _).trans' t4
        have HR2 : Hid (ROut F pb ((rd n (.line 8) (t2 :: ts2)).bind fun l r => .ok [heldE 21 l] r) (.returned (.pointer (some ⟨d, 0, none⟩))) w4 ∧ Tch (fun i => i = pb) w w4) := by
          obtain ⟨a1, a2, a3, a4⟩ := HR.out
          refine ⟨Or.inl ⟨heldE 21 [e], r, d, L3, by rw [a1]; rfl, rfl, hd, a2.no t5, a3⟩, a4.trans' (t5.mono (fun _ _ h => h.elim))⟩
        clear hd t4 t5
        go_wp2_with fail
        go_ret
        exact HR2.out
      · have HR : Hid (ROut F pb ((rd n (.line 8) (t2 :: ts2)).bind fun l r => .ok [heldE 21 l] r) (.panicked [{ v := refV why p, recovered := false }]) w3 ∧ Tch (fun i => i = pb) w w3) := ⟨Or.inr ⟨why, p, by rw [hR]; rfl, rfl⟩, Ht2.out.trans' t3⟩
        clear hR t3
        go_wp2_with fail
        exact ⟨rfl, HR.out⟩
  · have ht : ¬ t.b = wMin := fun h => hb (hk.2 h)
    have hr2 : minusR (rd n) (t :: ts') = rd n (.line 9) (t :: ts') := by
      unfold minusR
      rw [isT_cons, if_neg (by simpa using ht)]
    rw [hr, hr2] at hne ⊢
    rw [decide_eq_false hb] at q1
    simp only [if_neg hb] at q1
    have HI : Hid (Cut (c :: L') (t :: ts') ∧ (∀ t' ∈ t :: ts', tkOk t') ∧ HX F w pb ∧ rd n (.line 9) (t :: ts') ≠ .out ∧ CL F 241 n 9) := ⟨hc, hok, hx, hne, h9⟩
    clear hc hok hx hne h8 h9 hk hr hp hc' hr2
    go_enter Tryz.func234, Tryz.ntmps234
    go_wp2_with fail
    refine q1.mono ?_
    rintro y w1 ⟨rfl, p1, t1⟩
    clear q1
    have q2 := HI.out.2.2.2.2 pb _ _ w1 HI.out.1 HI.out.2.1 p1 (HI.out.2.2.1.tch t1) HI.out.2.2.2.1
    have Ht1 : Hid _ := t1
    clear t1 p1
    go_wp2_with fail
    refine q2.mono ?_
    rintro y w2 ⟨hy, t2⟩
    clear q2
    rcases hy with ⟨e, r, b, L2, hR, rfl, h1, h2, h3⟩ | ⟨why, p, hR, rfl⟩
    · have HR : Hid (ROut F pb (rd n (.line 9) (t :: ts')) (.returned (.pointer (some ⟨b, 0, none⟩))) w2 ∧ Tch (fun i => i = pb) w w2) := ⟨Or.inl ⟨e, r, b, L2, hR, rfl, h1, h2, h3⟩, Ht1.out.trans' t2⟩
      clear hR h1 h2 h3 t2
      go_wp2_with fail
      go_ret
      exact HR.out
    · have HR : Hid (ROut F pb (rd n (.line 9) (t :: ts')) (.panicked [{ v := refV why p, recovered := false }]) w2 ∧ Tch (fun i => i = pb) w w2) := ⟨Or.inr ⟨why, p, hR, rfl⟩, Ht1.out.trans' t2⟩
      clear hR t2
      go_wp2_with fail
      exact ⟨rfl, HR.out⟩
end Go.Proofs.YtmaekkhmiafnmaaGreatDoor
