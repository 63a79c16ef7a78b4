import Derived.Test.YtnjiiebjdpipjaaTSmall
import Derived.Test.YtnjiiebjdpipjaaTDelK
import Derived.Test.YtnjiiebjdpipjaaTGroI
import Derived.Test.YtnjiiebjdpipjaaTGroK
/- Three nodes side by side: what a step on a row of one of them leaves. -/
namespace Go.Proofs.Ytnjiiebjdpipjaa
open Go.RowKit Go

/-- A row in another one's stead. -/
structure RS (e : TypeId) (sz : Nat) (old v : Value) (n : Nat) (cs : List Value) (w w' : World) : Prop where
  own : w'.ownsRow 0 e sz v n cs
  blk : v.ownBlock = old.ownBlock ∨ ∃ g, v.ownBlock = some g ∧ w.heap.size ≤ g
  tch : Tch (fun i => old.ownBlock = some i) w w'
abbrev RI (old v : Value) (l : List It) (w w' : World) : Prop := RS 74 2 old v l.length (icl l) w w'
abbrev RK (old v : Value) (qs : List Nat) (w w' : World) : Prop := RS 62 1 old v qs.length (pcl qs) w w'
theorem RS.pre {e : TypeId} {sz : Nat} {old v : Value} {n : Nat} {cs : List Value} {w w1 w' : World} (h : RS e sz old v n cs w1 w') (t : Tch (fun _ => False) w w1) : RS e sz old v n cs w w' :=
  ⟨h.own, h.blk.imp id (fun ⟨g, e, hg⟩ => ⟨g, e, Nat.le_trans t.size hg⟩), (t.mono (fun _ _ h => h.elim)).trans' h.tch⟩
theorem bl_of {v old : Value} (h : v.ownBlock = old.ownBlock) : bl v = bl old := by unfold bl; rw [h]
theorem bl_some {v : Value} {g : Nat} (h : v.ownBlock = some g) : bl v = [g] := by unfold bl; rw [h]; rfl
theorem RS.cnt {e : TypeId} {sz : Nat} {old v : Value} {n : Nat} {cs : List Value} {w w' : World} (h : RS e sz old v n cs w w') (b : Nat) : (bl v).count b = (bl old).count b ∨ (w.heap.size ≤ b ∧ (bl v).count b ≤ 1) ∨ (bl v).count b = 0 := by
  rcases h.blk with e | ⟨g, e, hg⟩
  · exact Or.inl (by rw [bl_of e])
  · rw [bl_some e]
    by_cases hb : g = b
    · subst hb; exact Or.inr (Or.inl ⟨hg, by simp⟩)
    · exact Or.inr (Or.inr (by simp [hb]))
theorem fb_count (p : Nat) (iv kv : Value) (b : Nat) : (fb p iv kv).count b = (if p = b then 1 else 0) + (bl iv).count b + (bl kv).count b := by
  unfold fb
  rw [List.count_cons, List.count_append]
  by_cases h : p = b
  · simp [h]; omega
  · simp [h]
theorem count_mem {F : List Nat} {b : Nat} (h : b ∈ F) : 1 ≤ F.count b := List.count_pos_iff.2 h
theorem FN.stepI {w w' : World} {p : Nat} {iv kv v : Value} {l l' : List It} {qs : List Nat} {s : Int} (h : FN w p iv kv l qs s) (r : RI iv v l' w w') (hn : Nod (fb p iv kv)) : FN (w'.setCell ⟨p, 0, none⟩ v) p v kv l' qs s ∧ Tch (fun i => i ∈ fb p iv kv) w (w'.setCell ⟨p, 0, none⟩ v) ∧ Fits w.heap.size (fb p iv kv) (fb p v kv) := by
  have hc := fb_count p iv kv
  have hp0 : iv.ownBlock ≠ some p := fun e => by have := hn p; rw [hc, if_pos rfl] at this; have := count_mem (mem_bl.2 e); omega
  have hik : ∀ g, kv.ownBlock = some g → iv.ownBlock ≠ some g := fun g e e' => by have := hn g; rw [hc] at this; have := count_mem (mem_bl.2 e); have := count_mem (mem_bl.2 e'); omega
  have hkp : kv.ownBlock ≠ some p := fun e => by have := hn p; rw [hc, if_pos rfl] at this; have := count_mem (mem_bl.2 e); omega
  have hvp : v.ownBlock ≠ some p := fun e => by
    rcases r.blk with e' | ⟨g, e', hg⟩
    · rw [e'] at e; exact hp0 e
    · rw [e'] at e; injection e with e; have := blk_lt h.nd; omega
  have hnd : ND w' p iv kv s := h.nd.tch r.tch hp0
  have ts : Tch (fun i => i = p) w' (w'.setCell ⟨p, 0, none⟩ v) := Tch.setCell _ _ _ _ rfl
  refine ⟨⟨hnd.setI, own_tch r.own ts (fun g e e' => hvp (by rw [← e']; exact e)), own_tch (own_tch h.kids r.tch (fun g e e' => hik g e e')) ts (fun g e e' => hkp (by rw [← e']; exact e))⟩, ?_, ?_⟩
  · exact (r.tch.mono (fun i _ e => by unfold fb; simp [mem_bl.2 e])).trans' (ts.mono (fun i _ e => by unfold fb; simp [e]))
  · intro b
    have h1 := r.cnt b
    have h2 := hn b
    rw [hc] at h2
    rw [fb_count, hc]
    constructor
    · intro hb; omega
    · intro hb
      have hpb : p ≠ b := by have := blk_lt h.nd; omega
      have hkb : (bl kv).count b = 0 := List.count_eq_zero.2 (fun hm => by have := (h.kids.lt b (mem_bl.1 hm)).2; omega)
      have hib : (bl iv).count b = 0 := List.count_eq_zero.2 (fun hm => by have := (h.its.lt b (mem_bl.1 hm)).2; omega)
      simp [hpb, hkb]
      omega
theorem FN.stepK {w w' : World} {p : Nat} {iv kv v : Value} {l : List It} {qs qs' : List Nat} {s : Int} (h : FN w p iv kv l qs s) (r : RK kv v qs' w w') (hn : Nod (fb p iv kv)) : FN (w'.setCell ⟨p, 1, none⟩ v) p iv v l qs' s ∧ Tch (fun i => i ∈ fb p iv kv) w (w'.setCell ⟨p, 1, none⟩ v) ∧ Fits w.heap.size (fb p iv kv) (fb p iv v) := by
  have hc := fb_count p iv kv
  have hp0 : iv.ownBlock ≠ some p := fun e => by have := hn p; rw [hc, if_pos rfl] at this; have := count_mem (mem_bl.2 e); omega
  have hik : ∀ g, iv.ownBlock = some g → kv.ownBlock ≠ some g := fun g e e' => by have := hn g; rw [hc] at this; have := count_mem (mem_bl.2 e); have := count_mem (mem_bl.2 e'); omega
  have hkp : kv.ownBlock ≠ some p := fun e => by have := hn p; rw [hc, if_pos rfl] at this; have := count_mem (mem_bl.2 e); omega
  have hvp : v.ownBlock ≠ some p := fun e => by
    rcases r.blk with e' | ⟨g, e', hg⟩
    · rw [e'] at e; exact hkp e
    · rw [e'] at e; injection e with e; have := blk_lt h.nd; omega
  have hnd : ND w' p iv kv s := h.nd.tch r.tch hkp
  have ts : Tch (fun i => i = p) w' (w'.setCell ⟨p, 1, none⟩ v) := Tch.setCell _ _ _ _ rfl
  refine ⟨⟨hnd.setK, own_tch (own_tch h.its r.tch (fun g e e' => hik g e e')) ts (fun g e e' => hp0 (by rw [← e']; exact e)), own_tch r.own ts (fun g e e' => hvp (by rw [← e']; exact e))⟩, ?_, ?_⟩
  · exact (r.tch.mono (fun i _ e => by unfold fb; simp [mem_bl.2 e])).trans' (ts.mono (fun i _ e => by unfold fb; simp [e]))
  · intro b
    have h1 := r.cnt b
    have h2 := hn b
    rw [hc] at h2
    rw [fb_count, hc]
    constructor
    · intro hb; omega
    · intro hb
      have hpb : p ≠ b := by have := blk_lt h.nd; omega
      have hkb : (bl kv).count b = 0 := List.count_eq_zero.2 (fun hm => by have := (h.kids.lt b (mem_bl.1 hm)).2; omega)
      have hib : (bl iv).count b = 0 := List.count_eq_zero.2 (fun hm => by have := (h.its.lt b (mem_bl.1 hm)).2; omega)
      simp [hpb, hib]
      omega
/-- Three nodes side by side, out of blocks Fo of a world w; all else of w is as it was. -/
structure S3 (w W : World) (Fo : List Nat) (p : Nat) (iv kv : Value) (L : List It) (ps : List Nat) (s : Int) (a : Nat) (ia ka : Value) (l : List It) (ql : List Nat) (sa : Int) (c : Nat) (ic kc : Value) (r : List It) (qr : List Nat) (sc : Int) : Prop where
  P : FN W p iv kv L ps s
  A : FN W a ia ka l ql sa
  B : FN W c ic kc r qr sc
  t : Tch (fun i => i ∈ Fo) w W
  f : Fits w.heap.size Fo (fb p iv kv ++ (fb a ia ka ++ fb c ic kc))
  nod : Nod (fb p iv kv ++ (fb a ia ka ++ fb c ic kc))
section
variable {w W W' : World} {Fo : List Nat} {p : Nat} {iv kv : Value} {L : List It} {ps : List Nat} {s : Int} {a : Nat} {ia ka : Value} {l : List It} {ql : List Nat} {sa : Int} {c : Nat} {ic kc : Value} {r : List It} {qr : List Nat} {sc : Int}
theorem S3.no (h : S3 w W Fo p iv kv L ps s a ia ka l ql sa c ic kc r qr sc) (t : Tch (fun _ => False) W W') : S3 w W' Fo p iv kv L ps s a ia ka l ql sa c ic kc r qr sc :=
  ⟨h.P.tch t (fun _ _ h => h), h.A.tch t (fun _ _ h => h), h.B.tch t (fun _ _ h => h), h.t.trans' (t.mono (fun _ _ h => h.elim)), h.f, h.nod⟩
theorem old_or {w : World} {Fo F' : List Nat} (f : Fits w.heap.size Fo F') {i : Nat} (hi : i ∈ F') : i ∈ Fo ∨ w.heap.size ≤ i := f.old hi
theorem S3.pI {v : Value} {l' : List It} (h : S3 w W Fo p iv kv L ps s a ia ka l ql sa c ic kc r qr sc) (r0 : RI iv v l' W W') : S3 w (W'.setCell ⟨p, 0, none⟩ v) Fo p v kv l' ps s a ia ka l ql sa c ic kc r qr sc := by
  have hcn : ∀ b, (fb p iv kv ++ (fb a ia ka ++ fb c ic kc)).count b = (fb p iv kv).count b + (fb a ia ka).count b + (fb c ic kc).count b := fun b => by rw [List.count_append, List.count_append]; omega
  have hn : Nod (fb p iv kv) := fun b => by have := h.nod b; rw [hcn] at this; omega
  obtain ⟨h1, h2, h3⟩ := h.P.stepI r0 hn
  have hap : ∀ b, b ∈ fb p iv kv → b ∉ fb a ia ka ∧ b ∉ fb c ic kc := fun b hb => by
    have e := h.nod b
    rw [hcn] at e
    have e2 := count_mem hb
    exact ⟨fun hm => by have := count_mem hm; omega, fun hm => by have := count_mem hm; omega⟩
  have h4 : Fits W.heap.size (fb p iv kv ++ (fb a ia ka ++ fb c ic kc)) (fb p v kv ++ (fb a ia ka ++ fb c ic kc)) := fun b => by
    have e := h.nod b
    have e3 := h3 b
    have o0 : W.heap.size ≤ b → (fb a ia ka).count b = 0 := fun hb => List.count_eq_zero.2 (fun hm => by have := h.A.lt b hm; omega)
    have o1 : W.heap.size ≤ b → (fb c ic kc).count b = 0 := fun hb => List.count_eq_zero.2 (fun hm => by have := h.B.lt b hm; omega)
    simp only [List.count_append] at e ⊢
    constructor
    · intro hb; have := e3.1 hb; omega
    · intro hb; have := e3.2 hb; have := o0 hb; have := o1 hb; omega
  have h5 := h.f.trans h4 h.t.size
  refine ⟨?_, ?_, ?_, ?_, h5, h4.nod h.nod⟩
  · exact h1
  · exact h.A.tch h2 (fun b hb hb' => (hap b hb').1 hb)
  · exact h.B.tch h2 (fun b hb hb' => (hap b hb').2 hb)
  · refine h.t.trans h2 (fun i hi hm => ?_)
    rcases old_or h.f (i := i) (by simp only [List.mem_append]; exact Or.inl hm) with h6 | h6
    · exact h6
    · omega
theorem S3.pK {v : Value} {q' : List Nat} (h : S3 w W Fo p iv kv L ps s a ia ka l ql sa c ic kc r qr sc) (r0 : RK kv v q' W W') : S3 w (W'.setCell ⟨p, 1, none⟩ v) Fo p iv v L q' s a ia ka l ql sa c ic kc r qr sc := by
  have hcn : ∀ b, (fb p iv kv ++ (fb a ia ka ++ fb c ic kc)).count b = (fb p iv kv).count b + (fb a ia ka).count b + (fb c ic kc).count b := fun b => by rw [List.count_append, List.count_append]; omega
  have hn : Nod (fb p iv kv) := fun b => by have := h.nod b; rw [hcn] at this; omega
  obtain ⟨h1, h2, h3⟩ := h.P.stepK r0 hn
  have hap : ∀ b, b ∈ fb p iv kv → b ∉ fb a ia ka ∧ b ∉ fb c ic kc := fun b hb => by
    have e := h.nod b
    rw [hcn] at e
    have e2 := count_mem hb
    exact ⟨fun hm => by have := count_mem hm; omega, fun hm => by have := count_mem hm; omega⟩
  have h4 : Fits W.heap.size (fb p iv kv ++ (fb a ia ka ++ fb c ic kc)) (fb p iv v ++ (fb a ia ka ++ fb c ic kc)) := fun b => by
    have e := h.nod b
    have e3 := h3 b
    have o0 : W.heap.size ≤ b → (fb a ia ka).count b = 0 := fun hb => List.count_eq_zero.2 (fun hm => by have := h.A.lt b hm; omega)
    have o1 : W.heap.size ≤ b → (fb c ic kc).count b = 0 := fun hb => List.count_eq_zero.2 (fun hm => by have := h.B.lt b hm; omega)
    simp only [List.count_append] at e ⊢
    constructor
    · intro hb; have := e3.1 hb; omega
    · intro hb; have := e3.2 hb; have := o0 hb; have := o1 hb; omega
  have h5 := h.f.trans h4 h.t.size
  refine ⟨?_, ?_, ?_, ?_, h5, h4.nod h.nod⟩
  · exact h1
  · exact h.A.tch h2 (fun b hb hb' => (hap b hb').1 hb)
  · exact h.B.tch h2 (fun b hb hb' => (hap b hb').2 hb)
  · refine h.t.trans h2 (fun i hi hm => ?_)
    rcases old_or h.f (i := i) (by simp only [List.mem_append]; exact Or.inl hm) with h6 | h6
    · exact h6
    · omega
theorem S3.aI {v : Value} {l' : List It} (h : S3 w W Fo p iv kv L ps s a ia ka l ql sa c ic kc r qr sc) (r0 : RI ia v l' W W') : S3 w (W'.setCell ⟨a, 0, none⟩ v) Fo p iv kv L ps s a v ka l' ql sa c ic kc r qr sc := by
  have hcn : ∀ b, (fb p iv kv ++ (fb a ia ka ++ fb c ic kc)).count b = (fb p iv kv).count b + (fb a ia ka).count b + (fb c ic kc).count b := fun b => by rw [List.count_append, List.count_append]; omega
  have hn : Nod (fb a ia ka) := fun b => by have := h.nod b; rw [hcn] at this; omega
  obtain ⟨h1, h2, h3⟩ := h.A.stepI r0 hn
  have hap : ∀ b, b ∈ fb a ia ka → b ∉ fb p iv kv ∧ b ∉ fb c ic kc := fun b hb => by
    have e := h.nod b
    rw [hcn] at e
    have e2 := count_mem hb
    exact ⟨fun hm => by have := count_mem hm; omega, fun hm => by have := count_mem hm; omega⟩
  have h4 : Fits W.heap.size (fb p iv kv ++ (fb a ia ka ++ fb c ic kc)) (fb p iv kv ++ (fb a v ka ++ fb c ic kc)) := fun b => by
    have e := h.nod b
    have e3 := h3 b
    have o0 : W.heap.size ≤ b → (fb p iv kv).count b = 0 := fun hb => List.count_eq_zero.2 (fun hm => by have := h.P.lt b hm; omega)
    have o1 : W.heap.size ≤ b → (fb c ic kc).count b = 0 := fun hb => List.count_eq_zero.2 (fun hm => by have := h.B.lt b hm; omega)
    simp only [List.count_append] at e ⊢
    constructor
    · intro hb; have := e3.1 hb; omega
    · intro hb; have := e3.2 hb; have := o0 hb; have := o1 hb; omega
  have h5 := h.f.trans h4 h.t.size
  refine ⟨?_, ?_, ?_, ?_, h5, h4.nod h.nod⟩
  · exact h.P.tch h2 (fun b hb hb' => (hap b hb').1 hb)
  · exact h1
  · exact h.B.tch h2 (fun b hb hb' => (hap b hb').2 hb)
  · refine h.t.trans h2 (fun i hi hm => ?_)
    rcases old_or h.f (i := i) (by simp only [List.mem_append]; exact Or.inr (Or.inl hm)) with h6 | h6
    · exact h6
    · omega
theorem S3.aK {v : Value} {q' : List Nat} (h : S3 w W Fo p iv kv L ps s a ia ka l ql sa c ic kc r qr sc) (r0 : RK ka v q' W W') : S3 w (W'.setCell ⟨a, 1, none⟩ v) Fo p iv kv L ps s a ia v l q' sa c ic kc r qr sc := by
  have hcn : ∀ b, (fb p iv kv ++ (fb a ia ka ++ fb c ic kc)).count b = (fb p iv kv).count b + (fb a ia ka).count b + (fb c ic kc).count b := fun b => by rw [List.count_append, List.count_append]; omega
  have hn : Nod (fb a ia ka) := fun b => by have := h.nod b; rw [hcn] at this; omega
  obtain ⟨h1, h2, h3⟩ := h.A.stepK r0 hn
  have hap : ∀ b, b ∈ fb a ia ka → b ∉ fb p iv kv ∧ b ∉ fb c ic kc := fun b hb => by
    have e := h.nod b
    rw [hcn] at e
    have e2 := count_mem hb
    exact ⟨fun hm => by have := count_mem hm; omega, fun hm => by have := count_mem hm; omega⟩
  have h4 : Fits W.heap.size (fb p iv kv ++ (fb a ia ka ++ fb c ic kc)) (fb p iv kv ++ (fb a ia v ++ fb c ic kc)) := fun b => by
    have e := h.nod b
    have e3 := h3 b
    have o0 : W.heap.size ≤ b → (fb p iv kv).count b = 0 := fun hb => List.count_eq_zero.2 (fun hm => by have := h.P.lt b hm; omega)
    have o1 : W.heap.size ≤ b → (fb c ic kc).count b = 0 := fun hb => List.count_eq_zero.2 (fun hm => by have := h.B.lt b hm; omega)
    simp only [List.count_append] at e ⊢
    constructor
    · intro hb; have := e3.1 hb; omega
    · intro hb; have := e3.2 hb; have := o0 hb; have := o1 hb; omega
  have h5 := h.f.trans h4 h.t.size
  refine ⟨?_, ?_, ?_, ?_, h5, h4.nod h.nod⟩
  · exact h.P.tch h2 (fun b hb hb' => (hap b hb').1 hb)
  · exact h1
  · exact h.B.tch h2 (fun b hb hb' => (hap b hb').2 hb)
  · refine h.t.trans h2 (fun i hi hm => ?_)
    rcases old_or h.f (i := i) (by simp only [List.mem_append]; exact Or.inr (Or.inl hm)) with h6 | h6
    · exact h6
    · omega
theorem S3.bI {v : Value} {l' : List It} (h : S3 w W Fo p iv kv L ps s a ia ka l ql sa c ic kc r qr sc) (r0 : RI ic v l' W W') : S3 w (W'.setCell ⟨c, 0, none⟩ v) Fo p iv kv L ps s a ia ka l ql sa c v kc l' qr sc := by
  have hcn : ∀ b, (fb p iv kv ++ (fb a ia ka ++ fb c ic kc)).count b = (fb p iv kv).count b + (fb a ia ka).count b + (fb c ic kc).count b := fun b => by rw [List.count_append, List.count_append]; omega
  have hn : Nod (fb c ic kc) := fun b => by have := h.nod b; rw [hcn] at this; omega
  obtain ⟨h1, h2, h3⟩ := h.B.stepI r0 hn
  have hap : ∀ b, b ∈ fb c ic kc → b ∉ fb p iv kv ∧ b ∉ fb a ia ka := fun b hb => by
    have e := h.nod b
    rw [hcn] at e
    have e2 := count_mem hb
    exact ⟨fun hm => by have := count_mem hm; omega, fun hm => by have := count_mem hm; omega⟩
  have h4 : Fits W.heap.size (fb p iv kv ++ (fb a ia ka ++ fb c ic kc)) (fb p iv kv ++ (fb a ia ka ++ fb c v kc)) := fun b => by
    have e := h.nod b
    have e3 := h3 b
    have o0 : W.heap.size ≤ b → (fb p iv kv).count b = 0 := fun hb => List.count_eq_zero.2 (fun hm => by have := h.P.lt b hm; omega)
    have o1 : W.heap.size ≤ b → (fb a ia ka).count b = 0 := fun hb => List.count_eq_zero.2 (fun hm => by have := h.A.lt b hm; omega)
    simp only [List.count_append] at e ⊢
    constructor
    · intro hb; have := e3.1 hb; omega
    · intro hb; have := e3.2 hb; have := o0 hb; have := o1 hb; omega
  have h5 := h.f.trans h4 h.t.size
  refine ⟨?_, ?_, ?_, ?_, h5, h4.nod h.nod⟩
  · exact h.P.tch h2 (fun b hb hb' => (hap b hb').1 hb)
  · exact h.A.tch h2 (fun b hb hb' => (hap b hb').2 hb)
  · exact h1
  · refine h.t.trans h2 (fun i hi hm => ?_)
    rcases old_or h.f (i := i) (by simp only [List.mem_append]; exact Or.inr (Or.inr hm)) with h6 | h6
    · exact h6
    · omega
theorem S3.bK {v : Value} {q' : List Nat} (h : S3 w W Fo p iv kv L ps s a ia ka l ql sa c ic kc r qr sc) (r0 : RK kc v q' W W') : S3 w (W'.setCell ⟨c, 1, none⟩ v) Fo p iv kv L ps s a ia ka l ql sa c ic v r q' sc := by
  have hcn : ∀ b, (fb p iv kv ++ (fb a ia ka ++ fb c ic kc)).count b = (fb p iv kv).count b + (fb a ia ka).count b + (fb c ic kc).count b := fun b => by rw [List.count_append, List.count_append]; omega
  have hn : Nod (fb c ic kc) := fun b => by have := h.nod b; rw [hcn] at this; omega
  obtain ⟨h1, h2, h3⟩ := h.B.stepK r0 hn
  have hap : ∀ b, b ∈ fb c ic kc → b ∉ fb p iv kv ∧ b ∉ fb a ia ka := fun b hb => by
    have e := h.nod b
    rw [hcn] at e
    have e2 := count_mem hb
    exact ⟨fun hm => by have := count_mem hm; omega, fun hm => by have := count_mem hm; omega⟩
  have h4 : Fits W.heap.size (fb p iv kv ++ (fb a ia ka ++ fb c ic kc)) (fb p iv kv ++ (fb a ia ka ++ fb c ic v)) := fun b => by
    have e := h.nod b
    have e3 := h3 b
    have o0 : W.heap.size ≤ b → (fb p iv kv).count b = 0 := fun hb => List.count_eq_zero.2 (fun hm => by have := h.P.lt b hm; omega)
    have o1 : W.heap.size ≤ b → (fb a ia ka).count b = 0 := fun hb => List.count_eq_zero.2 (fun hm => by have := h.A.lt b hm; omega)
    simp only [List.count_append] at e ⊢
    constructor
    · intro hb; have := e3.1 hb; omega
    · intro hb; have := e3.2 hb; have := o0 hb; have := o1 hb; omega
  have h5 := h.f.trans h4 h.t.size
  refine ⟨?_, ?_, ?_, ?_, h5, h4.nod h.nod⟩
  · exact h.P.tch h2 (fun b hb hb' => (hap b hb').1 hb)
  · exact h.A.tch h2 (fun b hb hb' => (hap b hb').2 hb)
  · exact h1
  · refine h.t.trans h2 (fun i hi hm => ?_)
    rcases old_or h.f (i := i) (by simp only [List.mem_append]; exact Or.inr (Or.inr hm)) with h6 | h6
    · exact h6
    · omega
theorem S3.aZ {s' : Int} (h : S3 w W Fo p iv kv L ps s a ia ka l ql sa c ic kc r qr sc) (h1 : FN W' a ia ka l ql s') (t : Tch (fun i => i = a) W W') : S3 w W' Fo p iv kv L ps s a ia ka l ql s' c ic kc r qr sc := by
  have hcn : ∀ b, (fb p iv kv ++ (fb a ia ka ++ fb c ic kc)).count b = (fb p iv kv).count b + (fb a ia ka).count b + (fb c ic kc).count b := fun b => by rw [List.count_append, List.count_append]; omega
  have hx : a ∈ fb a ia ka := by simp [fb]
  have hap : a ∉ fb p iv kv ∧ a ∉ fb c ic kc := by
    have e := h.nod a
    rw [hcn] at e
    have e2 := count_mem hx
    exact ⟨fun hm => by have := count_mem hm; omega, fun hm => by have := count_mem hm; omega⟩
  refine ⟨h.P.tch t (fun b hb e => hap.1 (e ▸ hb)), h1, h.B.tch t (fun b hb e => hap.2 (e ▸ hb)), h.t.trans t (fun i hi e => ?_), h.f, h.nod⟩
  have hx' : i ∈ fb a ia ka := by rw [show i = a from e]; exact hx
  rcases old_or h.f (i := i) (by simp only [List.mem_append]; exact Or.inr (Or.inl hx')) with h6 | h6
  · exact h6
  · omega
theorem S3.bZ {s' : Int} (h : S3 w W Fo p iv kv L ps s a ia ka l ql sa c ic kc r qr sc) (h1 : FN W' c ic kc r qr s') (t : Tch (fun i => i = c) W W') : S3 w W' Fo p iv kv L ps s a ia ka l ql sa c ic kc r qr s' := by
  have hcn : ∀ b, (fb p iv kv ++ (fb a ia ka ++ fb c ic kc)).count b = (fb p iv kv).count b + (fb a ia ka).count b + (fb c ic kc).count b := fun b => by rw [List.count_append, List.count_append]; omega
  have hx : c ∈ fb c ic kc := by simp [fb]
  have hap : c ∉ fb p iv kv ∧ c ∉ fb a ia ka := by
    have e := h.nod c
    rw [hcn] at e
    have e2 := count_mem hx
    exact ⟨fun hm => by have := count_mem hm; omega, fun hm => by have := count_mem hm; omega⟩
  refine ⟨h.P.tch t (fun b hb e => hap.1 (e ▸ hb)), h.A.tch t (fun b hb e => hap.2 (e ▸ hb)), h1, h.t.trans t (fun i hi e => ?_), h.f, h.nod⟩
  have hx' : i ∈ fb c ic kc := by rw [show i = c from e]; exact hx
  rcases old_or h.f (i := i) (by simp only [List.mem_append]; exact Or.inr (Or.inr hx')) with h6 | h6
  · exact h6
  · omega
theorem S3.apA (h : S3 w W Fo p iv kv L ps s a ia ka l ql sa c ic kc r qr sc) : Nod (fb p iv kv) ∧ Nod (fb a ia ka) ∧ Nod (fb c ic kc) := by
  refine ⟨fun b => ?_, fun b => ?_, fun b => ?_⟩ <;> (have := h.nod b; simp only [List.count_append] at this; omega)
end
theorem nod_self {p : Nat} {iv kv : Value} (h : Nod (fb p iv kv)) : iv.ownBlock ≠ some p ∧ kv.ownBlock ≠ some p := by
  have hc := fb_count p iv kv p
  have := h p
  rw [hc, if_pos rfl] at this
  exact ⟨fun e => by have := count_mem (mem_bl.2 e); omega, fun e => by have := count_mem (mem_bl.2 e); omega⟩
end Go.Proofs.Ytnjiiebjdpipjaa
/- split and its kin: where they begin, what they leave. -/
namespace Go.Proofs.Ytnjiiebjdpipjaa
open Go.RowKit Go

def SplitOut (w w' : World) (Fo : List Nat) (p : Nat) (L : List It) (ps : List Nat) (s : Int) (a : Nat) (l : List It) (ql : List Nat) (pl : Nat) (m : It) : Prop :=
  ∃ iv kv ia ka N ic kc, S3 w w' Fo p iv kv (L.take pl ++ m :: L.drop pl) (ps.take (pl + 1) ++ N :: ps.drop (pl + 1)) s a ia ka (l.take 7) (ql.take 8) (7 + zsum w (ql.take 8)) N ic kc (l.drop 8) (ql.drop 8) (8 + zsum w (ql.drop 8)) ∧ w.heap.size ≤ N
theorem S3.start {w : World} {p : Nat} {iv kv : Value} {L : List It} {ps : List Nat} {s : Int} {a : Nat} {ia ka : Value} {l : List It} {ql : List Nat} {sa : Int} {c : Nat} {ic kc : Value} {r : List It} {qr : List Nat} {sc : Int} (hP : FN w p iv kv L ps s) (hA : FN w a ia ka l ql sa) (hB : FN w c ic kc r qr sc) (hn : Nod (fb p iv kv ++ (fb a ia ka ++ fb c ic kc))) :
    S3 w w (fb p iv kv ++ (fb a ia ka ++ fb c ic kc)) p iv kv L ps s a ia ka l ql sa c ic kc r qr sc := ⟨hP, hA, hB, Tch.refl _ _, Fits.refl hn, hn⟩
theorem fb_new (N : Nat) : fb N (.slice none 0 0) (.slice none 0 0) = [N] := rfl
theorem fits_new {w : World} {F G : List Nat} {N : Nat} (hn : Nod (F ++ G)) (hF : ∀ b ∈ F, b < w.heap.size) (hG : ∀ b ∈ G, b < w.heap.size) (hN : w.heap.size ≤ N) : Fits w.heap.size (F ++ G) (F ++ (G ++ [N])) := fun b => by
  have h := hn b
  simp only [List.count_append, List.count_singleton] at h ⊢
  constructor
  · intro hb
    have : (N == b) = false := by simp; omega
    simp [this]
  · intro hb
    have h2 : F.count b = 0 := List.count_eq_zero.2 (fun hm => by have := hF b hm; omega)
    have h3 : G.count b = 0 := List.count_eq_zero.2 (fun hm => by have := hG b hm; omega)
    rw [h2, h3]
    split <;> omega
section
variable {w w2 W : World} {Fo : List Nat} {p : Nat} {iv kv : Value} {L : List It} {ps : List Nat} {s : Int} {a : Nat} {ia ka : Value} {l : List It} {ql : List Nat} {sa : Int} {c : Nat} {ic kc : Value} {r : List It} {qr : List Nat} {sc : Int}
theorem S3.rebase {F G : List Nat} {N : Nat} (h : S3 w2 W (F ++ (G ++ [N])) p iv kv L ps s a ia ka l ql sa c ic kc r qr sc) (t : Tch (fun _ => False) w w2) (hn : Nod (F ++ G)) (hF : ∀ b ∈ F, b < w.heap.size) (hG : ∀ b ∈ G, b < w.heap.size) (hN : w.heap.size ≤ N) : S3 w W (F ++ G) p iv kv L ps s a ia ka l ql sa c ic kc r qr sc := by
  refine ⟨h.P, h.A, h.B, ?_, (fits_new hn hF hG hN).trans h.f t.size, h.nod⟩
  refine (t.mono (fun _ _ h => h.elim)).trans h.t (fun i hi hm => ?_)
  simp only [List.mem_append, List.mem_singleton] at hm ⊢
  rcases hm with h1 | h1 | h1
  · exact Or.inl h1
  · exact Or.inr h1
  · omega
theorem S3.zs {qs : List Nat} (h : S3 w W Fo p iv kv L ps s a ia ka l ql sa c ic kc r qr sc) (hz : ∀ q ∈ qs, w.cell? ⟨q, 2, none⟩ = some (.int .i64 (zsz w q)) ∧ 0 ≤ zsz w q ∧ q ∉ Fo) : (∀ q ∈ qs, W.cell? ⟨q, 2, none⟩ = some (.int .i64 (zsz W q)) ∧ 0 ≤ zsz W q) ∧ zsum W qs = zsum w qs := by
  have h1 : ∀ q ∈ qs, W.cell? ⟨q, 2, none⟩ = w.cell? ⟨q, 2, none⟩ := fun q hq => by
    obtain ⟨z1, _, z3⟩ := hz q hq
    exact h.t.cell (p := ⟨q, 2, none⟩) (cell_lt z1) z3
  have h2 : ∀ q ∈ qs, zsz W q = zsz w q := fun q hq => by unfold zsz; rw [h1 q hq]
  refine ⟨fun q hq => ?_, ?_⟩
  · obtain ⟨z1, z2, _⟩ := hz q hq
    rw [h2 q hq, h1 q hq]
    exact ⟨z1, z2⟩
  · unfold zsum
    rw [List.map_congr_left h2]
end
theorem zs_no {w w2 : World} {Fo : List Nat} {qs : List Nat} {N : Nat} (t : Tch (fun _ => False) w w2) (hz : ∀ q ∈ qs, w.cell? ⟨q, 2, none⟩ = some (.int .i64 (zsz w q)) ∧ 0 ≤ zsz w q ∧ q ∉ Fo) (hN : w.heap.size ≤ N) : (∀ q ∈ qs, w2.cell? ⟨q, 2, none⟩ = some (.int .i64 (zsz w2 q)) ∧ 0 ≤ zsz w2 q ∧ q ∉ Fo ∧ q ≠ N) ∧ ∀ q ∈ qs, zsz w2 q = zsz w q := by
  have h1 : ∀ q ∈ qs, w2.cell? ⟨q, 2, none⟩ = w.cell? ⟨q, 2, none⟩ := fun q hq => t.cell (p := ⟨q, 2, none⟩) (cell_lt (hz q hq).1) (fun h => h)
  have h2 : ∀ q ∈ qs, zsz w2 q = zsz w q := fun q hq => by unfold zsz; rw [h1 q hq]
  refine ⟨fun q hq => ?_, h2⟩
  obtain ⟨z1, z2, z3⟩ := hz q hq
  rw [h2 q hq, h1 q hq]
  have h5 : q < w.heap.size := cell_lt z1
  exact ⟨z1, z2, z3, by omega⟩
theorem zsum_eq {w w2 : World} {qs : List Nat} (h : ∀ q ∈ qs, zsz w2 q = zsz w q) : zsum w2 qs = zsum w qs := by unfold zsum; rw [List.map_congr_left h]
theorem zsum_drop_le (w : World) (qs : List Nat) (k : Nat) (h : ∀ q ∈ qs, 0 ≤ zsz w q) : zsum w (qs.drop k) ≤ zsum w qs := by
  have h1 : zsum w (qs.take k) + zsum w (qs.drop k) = zsum w qs := by
    unfold zsum
    rw [← List.sum_append, ← List.map_append, List.take_append_drop]
  have := zsum_nonneg w 0 (qs.take k) (fun q hq => h q (List.mem_of_mem_take hq))
  omega
end Go.Proofs.Ytnjiiebjdpipjaa
