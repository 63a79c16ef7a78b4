import Derived.Test.YtolobljlkdacjaaXStill
/- A side in the world. -/
namespace Go.Proofs.Ytolobljlkdacjaa
open Go.RowKit Go

/-- A list whose blocks are all an owner's. -/
structure RowO (w : World) (o : Nat → Nat) (k : Nat) (v : Value) (l : List Nat) : Prop where
  row : w.ownsRow 0 3 1 v l.length (icl l)
  lab : ∀ g, v.ownBlock = some g → o g = k
theorem RowO.ev {K : Nat → Prop} {w w' : World} {o o' : Nat → Nat} {k : Nat} {v : Value} {l : List Nat} (h : RowO w o k v l) (e : Ev K w o w' o') (hk : ¬ K k) : RowO w' o' k v l := by
  refine ⟨own_tch h.row e.tch (fun g hg hs => hk (by rw [← h.lab g hg]; exact hs)), fun g hg => ?_⟩
  rw [e.old g (h.row.lt g hg).2 (by rw [h.lab g hg]; exact hk), h.lab g hg]
theorem RowO.slice {w : World} {o : Nat → Nat} {k : Nat} {v : Value} {l : List Nat} (h : RowO w o k v l) : ∃ ao c, v = .slice ao l.length c := row_slice h.row
/-- A list of one's own is one for reading. -/
theorem ir_of {w : World} {base : Nat} {ao : Option Addr} {c : Nat} {l : List Nat} (h : w.ownsRow base 3 1 (.slice ao l.length c) l.length (icl l)) : IR w ao (l.map (fun n : Nat => (n : Int))) := fun k n hk => by
  rw [List.getElem?_map] at hk
  cases hl : l[k]? with
  | none => rw [hl] at hk; cases hk
  | some x =>
    rw [hl] at hk
    simp only [Option.map_some, Option.some.injEq] at hk
    rcases h.2 with ⟨_, h0⟩ | ⟨g, c', cur, hv, _⟩
    · have := (List.getElem?_eq_some_iff.1 hl).1; omega
    · injection hv with hv
      refine ⟨g, 0, hv, ?_⟩
      have := h.cells (g := g) (by rw [hv]; rfl) k (.int .i64 x) (by simp [icl, hl])
      rw [add_plain] at this
      rw [← hk]; exact this
/-- The cells of a snapshot that was kept. -/
def scl (ks : List (Int × Int × Value)) : List Value := ks.flatMap (fun s => [.int .i64 s.1, .int .i64 s.2.1, s.2.2])
theorem scl_len : ∀ l : List (Int × Int × Value), (scl l).length = l.length * 3
  | [] => rfl
  | a :: l => by
    have := scl_len l
    unfold scl at this ⊢
    simp only [List.flatMap_cons, List.length_append, List.length_cons, List.length_nil, this]; omega
theorem scl_get : ∀ (l : List (Int × Int × Value)) (k : Nat) (p : Int × Int × Value), l[k]? = some p → (scl l)[k * 3]? = some (.int .i64 p.1) ∧ (scl l)[k * 3 + 1]? = some (.int .i64 p.2.1) ∧ (scl l)[k * 3 + 2]? = some p.2.2
  | [], k, p, hk => by simp at hk
  | a :: l, 0, p, hk => by
    simp only [List.getElem?_cons_zero, Option.some.injEq] at hk
    subst hk
    simp [scl]
  | a :: l, k + 1, p, hk => by
    have := scl_get l k p (by simpa using hk)
    unfold scl at this ⊢
    have e1 : (k + 1) * 3 = k * 3 + 3 := by omega
    simp only [List.flatMap_cons]
    rw [e1]
    refine ⟨?_, ?_, ?_⟩
    · rw [List.getElem?_append_right (by simp)]; simpa using this.1
    · rw [List.getElem?_append_right (by simp)]; simpa using this.2.1
    · rw [List.getElem?_append_right (by simp)]; simpa using this.2.2
theorem scl_snoc (l : List (Int × Int × Value)) (p : Int × Int × Value) : scl (l ++ [p]) = scl l ++ [.int .i64 p.1, .int .i64 p.2.1, p.2.2] := by simp [scl]
/-- The snapshots that were kept. -/
structure KP (w : World) (o : Nat → Nat) (k : Nat) (kv : Value) (ks : List (Int × Int × Value)) : Prop where
  row : w.ownsRow 0 36 3 kv ks.length (scl ks)
  lab : ∀ g, kv.ownBlock = some g → o g = k
  el : ∀ (j : Nat) (p : Int × Int × Value), ks[j]? = some p → -9223372036854775808 ≤ p.1 ∧ ∃ l, RowO w o k p.2.2 l ∧ l.length ≤ 2147483648
theorem KP.ev {K : Nat → Prop} {w w' : World} {o o' : Nat → Nat} {k : Nat} {kv : Value} {ks : List (Int × Int × Value)} (h : KP w o k kv ks) (e : Ev K w o w' o') (hk : ¬ K k) : KP w' o' k kv ks := by
  refine ⟨own_tch h.row e.tch (fun g hg hs => hk (by rw [← h.lab g hg]; exact hs)), fun g hg => ?_, fun j p hp => ?_⟩
  · rw [e.old g (h.row.lt g hg).2 (by rw [h.lab g hg]; exact hk), h.lab g hg]
  · obtain ⟨h1, l, h2, h3⟩ := h.el j p hp
    exact ⟨h1, l, h2.ev e hk, h3⟩
/-- A side at block sb: the managers are mc and md. Owners: β + 1, β + 2 the managers', β + 3 the snapshots that were kept, β + 4 was, β + 5 held, β + 6 the lists, β + 7, β + 8, β + 9 what is at hand, β + 10 the side itself. -/
structure SK (w : World) (o : Nat → Nat) (β sb : Nat) (mc md : Mg) (mb rb : Nat) (kv rv hv wv : Value) (ks : List (Int × Int × Value)) (A : List Value) : Prop where
  osb : o sb = β + 10
  blk : w.heap[sb]? = some (.cells #[.pointer (some ⟨mb, 0, none⟩), .pointer (some ⟨rb, 0, none⟩), kv, rv, hv, wv] 33 (0, 0))
  mf : MF w mb mc (Oth w o (β + 1))
  rf : RF w rb md (Oth w o (β + 2))
  kept : KP w o (β + 3) kv ks
  ls : LS 31 w (fun i => o i ≠ β + 6) sb mkI A rv
  lab : ∀ g, rv.ownBlock = some g → o g = β + 6
  a20 : A.length % 20 = 0
theorem LS.lt {le : TypeId} {W : World} {F : Nat → Prop} {b : Nat} {mk : Nat → List Value} {A : List Value} {rv : Value} (h : LS le W F b mk A rv) : ∀ g, rv.ownBlock = some g → g < W.heap.size := fun g e => (h.all.lt g e).2
theorem LS.ev {K : Nat → Prop} {w w' : World} {o o' : Nat → Nat} {k b : Nat} {le : TypeId} {mk : Nat → List Value} {A : List Value} {rv : Value} (h : LS le w (fun i => o i ≠ k) b mk A rv) (e : Ev K w o w' o') (hk : ¬ K k) : LS le w' (fun i => o' i ≠ k) b mk A rv := by
  have h1 : LS le w' (fun i => o i ≠ k) b mk A rv := h.tch e.tch (fun i hi => Or.inr (fun e1 => hk (by rw [← e1]; exact hi)))
  have hlt : ∀ g, g < w.heap.size → o g = k → o' g = k := fun g hg e1 => by rw [e.old g hg (by rw [e1]; exact hk), e1]
  refine ⟨h1.all, fun g hg => ⟨(h1.ag g hg).1, fun hn => hn (hlt g (h.lt g hg) (Classical.byContradiction fun e1 => (h.ag g hg).2 e1))⟩, fun j hj => ?_⟩
  obtain ⟨ao, m, c, hv, hm, hg⟩ := h1.mv j hj
  obtain ⟨ao', m', c', hv', _, hg'⟩ := h.mv j hj
  refine ⟨ao, m, c, hv, hm, fun h0 => ?_⟩
  obtain ⟨g, ha, hgl, hP, hat⟩ := hg h0
  rw [hv] at hv'
  injection hv' with e1 e2 e3
  subst e1 e2
  obtain ⟨g2, ha2, hgl2, hP2, _⟩ := hg' h0
  rw [ha] at ha2
  injection ha2 with ha2
  injection ha2 with ha2
  subst ha2
  exact ⟨g, ha, hgl, ⟨hP.1, fun hn => hn (hlt g hgl2 (Classical.byContradiction fun e1 => hP2.2.1 e1)), hP.2.2⟩, hat⟩
theorem SK.ev {K : Nat → Prop} {w w' : World} {o o' : Nat → Nat} {β sb : Nat} {mc md : Mg} {mb rb : Nat} {kv rv hv wv : Value} {ks : List (Int × Int × Value)} {A : List Value} (s : SK w o β sb mc md mb rb kv rv hv wv ks A) (e : Ev K w o w' o') (hk : ¬ K (β + 1) ∧ ¬ K (β + 2) ∧ ¬ K (β + 3) ∧ ¬ K (β + 6) ∧ ¬ K (β + 10)) : SK w' o' β sb mc md mb rb kv rv hv wv ks A := by
  have hsb := blk_lt s.blk
  obtain ⟨k1, k2, k3, k6, k10⟩ := hk
  refine ⟨?_, ?_, s.mf.ev e k1, s.rf.ev e k2, s.kept.ev e k3, s.ls.ev e k6, fun g hg => ?_, s.a20⟩
  · rw [e.old sb hsb (by rw [s.osb]; exact k10), s.osb]
  · rw [e.tch.block sb hsb (by rw [s.osb]; exact k10)]; exact s.blk
  · rw [e.old g (s.ls.lt g hg) (by rw [s.lab g hg]; exact k6), s.lab g hg]
/-- The code's manager has done something. -/
theorem SK.code {w w' : World} {o : Nat → Nat} {β sb : Nat} {mc mc' md : Mg} {mb rb : Nat} {kv rv hv wv : Value} {ks : List (Int × Int × Value)} {A : List Value} (s : SK w o β sb mc md mb rb kv rv hv wv ks A) (hm : MF w' mb mc' (Oth w o (β + 1))) (t : Kept (Oth w o (β + 1)) w w') : SK w' (ext w o (β + 1)) β sb mc' md mb rb kv rv hv wv ks A := by
  have e := Ev.of t
  have hsb := blk_lt s.blk
  refine ⟨?_, ?_, hm.did, s.rf.ev e (by omega), s.kept.ev e (by omega), s.ls.ev e (by omega), fun g hg => ?_, s.a20⟩
  · rw [e.old sb hsb (by rw [s.osb]; omega), s.osb]
  · rw [e.tch.block sb hsb (by rw [s.osb]; omega)]; exact s.blk
  · rw [e.old g (s.ls.lt g hg) (by rw [s.lab g hg]; omega), s.lab g hg]
/-- The document's one has. -/
theorem SK.doc {w w' : World} {o : Nat → Nat} {β sb : Nat} {mc md md' : Mg} {mb rb : Nat} {kv rv hv wv : Value} {ks : List (Int × Int × Value)} {A : List Value} (s : SK w o β sb mc md mb rb kv rv hv wv ks A) (hm : RF w' rb md' (Oth w o (β + 2))) (t : Kept (Oth w o (β + 2)) w w') : SK w' (ext w o (β + 2)) β sb mc md' mb rb kv rv hv wv ks A := by
  have e := Ev.of t
  have hsb := blk_lt s.blk
  refine ⟨?_, ?_, s.mf.ev e (by omega), hm.did, s.kept.ev e (by omega), s.ls.ev e (by omega), fun g hg => ?_, s.a20⟩
  · rw [e.old sb hsb (by rw [s.osb]; omega), s.osb]
  · rw [e.tch.block sb hsb (by rw [s.osb]; omega)]; exact s.blk
  · rw [e.old g (s.ls.lt g hg) (by rw [s.lab g hg]; omega), s.lab g hg]
/-- A field of the side is written. -/
theorem SK.put {w : World} {o : Nat → Nat} {β sb : Nat} {mc md : Mg} {mb rb : Nat} {kv rv hv wv : Value} {ks : List (Int × Int × Value)} {A : List Value} (s : SK w o β sb mc md mb rb kv rv hv wv ks A) (j : Nat) (u : Value) : Ev (fun k => k = β + 10) w o (w.setCell ⟨sb, j, none⟩ u) o :=
  ⟨Tch.setCell _ _ _ _ s.osb, fun _ _ _ => rfl, fun _ _ h => h, fun i hi hl => by simp [World.setCell] at hl; omega⟩
/-- Another owner. -/
def rlb (o : Nat → Nat) (a b : Nat) : Nat → Nat := fun i => if o i = a then b else o i
theorem Ev.relab (w : World) (o : Nat → Nat) (a b : Nat) : Ev (fun k => k = a ∨ k = b) w o w (rlb o a b) := by
  refine ⟨Tch.refl _ _, fun i _ hn => if_neg (fun e => hn (Or.inl e)), fun i _ hk => ?_, fun i hi hl => by omega⟩
  show rlb o a b i = a ∨ rlb o a b i = b
  unfold rlb
  split
  · exact Or.inr rfl
  · rename_i hne
    exact hk.elim (fun e => absurd e hne) Or.inr
theorem RowO.relab {w : World} {o : Nat → Nat} {a : Nat} {v : Value} {l : List Nat} (h : RowO w o a v l) (b : Nat) : RowO w (rlb o a b) b v l :=
  ⟨h.row, fun g hg => if_pos (h.lab g hg)⟩
/-- A list that has just come out. -/
theorem RowO.fresh {w w' : World} {o : Nat → Nat} {k : Nat} {v : Value} {l : List Nat} (h : w'.ownsRow w.heap.size 3 1 v l.length (icl l)) : RowO w' (ext w o k) k v l :=
  ⟨own_low h (Nat.zero_le _), fun g hg => if_neg (by have := (h.lt g hg).1; omega)⟩
theorem RowO.ir {w : World} {o : Nat → Nat} {k : Nat} {ao : Option Addr} {c : Nat} {l : List Nat} (h : RowO w o k (.slice ao l.length c) l) : IR w ao (l.map (fun n : Nat => (n : Int))) := ir_of h.row
/-- A list is its owner's. -/
theorem SK.owned {w : World} {o : Nat → Nat} {β sb : Nat} {mc md : Mg} {mb rb : Nat} {kv rv hv wv : Value} {ks : List (Int × Int × Value)} {A : List Value} (s : SK w o β sb mc md mb rb kv rv hv wv ks A) {v : Value} {l : List Nat} (hv7 : RowO w o (β + 7) v l) (hl : l.length ≤ 2147483648) (hA : A.length ≤ 100000000) :
    Calls Try.prog 73 #[.pointer (some ⟨sb, 0, none⟩), v] w fun x w' => x = .returned (.tuple #[]) ∧ ∃ o' rv' A', SK w' o' β sb mc md mb rb kv rv' hv wv ks A' ∧ A'.length = A.length + 20 ∧ Ev (fun k => k = β + 6 ∨ k = β + 7 ∨ k = β + 10) w o w' o' := by
  have hsb := blk_lt s.blk
  refine (owned_any sb _ A rv v l.length (icl l) (fun i => i < w.heap.size ∧ o i ≠ β + 6 ∧ o i ≠ β + 7 ∧ i ≠ sb) w s.blk rfl rfl (s.ls.fresh (fun i hi hf => ?_)) hv7.row hl (fun g hg => ⟨fun e => ?_, fun hf => hf.2.2.1 (hv7.lab g hg)⟩) (fun i hi => hi.1) hA s.a20).mono ?_
  · rcases hf with h1 | h1
    · exact h1.2.1
    · rw [hv7.lab i h1]; omega
  · have := hv7.lab g hg
    rw [e, s.osb] at this
    omega
  · rintro x w' ⟨rfl, ⟨rv', A', hA', hb', hL', hg'⟩, t⟩
    let o' : Nat → Nat := fun i => if i < w.heap.size then (if o i = β + 7 then β + 6 else o i) else β + 6
    have e : Ev (fun k => k = β + 6 ∨ k = β + 7 ∨ k = β + 10) w o w' o' := by
      refine ⟨t.mono (fun i _ h => ?_), fun i hi hn => ?_, fun i hi hk => ?_, fun i hi _ => Or.inl (if_neg (by omega))⟩
      · rcases h with h | h | h
        · rw [h, s.osb]; exact Or.inr (Or.inr rfl)
        · exact Or.inl (s.lab i h)
        · exact Or.inr (Or.inl (hv7.lab i h))
      · show (if i < w.heap.size then (if o i = β + 7 then β + 6 else o i) else β + 6) = o i
        rw [if_pos hi, if_neg (fun e => hn (Or.inr (Or.inl e)))]
      · show (if i < w.heap.size then (if o i = β + 7 then β + 6 else o i) else β + 6) = β + 6 ∨ _ ∨ (if i < w.heap.size then (if o i = β + 7 then β + 6 else o i) else β + 6) = β + 10
        rw [if_pos hi]
        split
        · exact Or.inl rfl
        · rcases hk with h | h | h
          · exact Or.inl h
          · rename_i hn
            exact absurd h hn
          · exact Or.inr (Or.inr h)
    have h6 : ∀ i, o' i ≠ β + 6 → i < w.heap.size ∧ o i ≠ β + 6 ∧ o i ≠ β + 7 := fun i hn => by
      have hn' : (if i < w.heap.size then (if o i = β + 7 then β + 6 else o i) else β + 6) ≠ β + 6 := hn
      split at hn'
      · rename_i hi
        split at hn'
        · exact absurd rfl hn'
        · rename_i h7
          exact ⟨hi, hn', h7⟩
      · exact absurd rfl hn'
    refine ⟨rfl, o', rv', A', ⟨?_, hb', s.mf.ev e (by omega), s.rf.ev e (by omega), s.kept.ev e (by omega), ?_, fun g hg => ?_, by have := s.a20; omega⟩, hA', e⟩
    · show (if sb < w.heap.size then (if o sb = β + 7 then β + 6 else o sb) else β + 6) = β + 10
      rw [if_pos hsb, s.osb, if_neg (by omega)]
    · have h1 : LS 31 w' (fun i => (i < w.heap.size ∧ o i ≠ β + 6 ∧ o i ≠ β + 7 ∧ i ≠ sb) ∨ i = sb) sb mkI A' rv' := ⟨hL'.all, fun g hg => ⟨(hL'.ag g hg).1, fun hf => hf.elim (hL'.ag g hg).2 (hL'.ag g hg).1⟩, fun j hj => (hL'.mv j hj).up (Nat.le_refl _) (fun g m _ hP => ⟨⟨hP.1, fun hf => hf.elim hP.2.1 hP.1, hP.2.2⟩, fun _ _ => rfl⟩)⟩
      refine h1.fresh (fun i _ hn => ?_)
      obtain ⟨a1, a2, a3⟩ := h6 i hn
      by_cases hi : i = sb
      · exact Or.inr hi
      · exact Or.inl ⟨a1, a2, a3, hi⟩
    · show (if g < w.heap.size then (if o g = β + 7 then β + 6 else o g) else β + 6) = β + 6
      rcases hg' g hg with h1 | h1
      · rw [if_pos (s.ls.lt g h1), s.lab g h1, if_neg (by omega)]
      · rw [if_neg (by omega)]
/-- What a step of a side may turn. -/
def KB (β : Nat) : Nat → Prop := fun k => β + 1 ≤ k ∧ k ≤ β + 10
/-- A side between the steps. -/
def Sd (w : World) (o : Nat → Nat) (β sb : Nat) (m : Mg) (ks : List (Int × Int × Value)) (n : Nat) : Prop := ∃ mb rb kv rv hv wv A h, SK w o β sb m m mb rb kv rv hv wv ks A ∧ RowO w o (β + 4) wv h ∧ RowO w o (β + 5) hv h ∧ h.length ≤ 2147483648 ∧ A.length ≤ n
end Go.Proofs.Ytolobljlkdacjaa
/- A list that came out twice. -/
namespace Go.Proofs.Ytolobljlkdacjaa
open Go.RowKit Go

theorem Ev.drew {K : Nat → Prop} (w : World) (o : Nat → Nat) (q : Nat) : Ev K w o (w.drewN q) o :=
  ⟨(drewN_tch w q).mono (fun _ _ h => h.elim), fun _ _ _ => rfl, fun _ _ h => h, fun i hi hl => by simp at hl; omega⟩
/-- What stands while it goes on. -/
structure TW (w : World) (o : Nat → Nat) (β sb : Nat) (m : Mg) (mb rb : Nat) (kv rv hv wv : Value) (ks : List (Int × Int × Value)) (A : List Value) (h l : List Nat) (v2 v3 : Value) : Prop where
  s : SK w o β sb m m mb rb kv rv hv wv ks A
  was : RowO w o (β + 4) wv h
  held : RowO w o (β + 5) hv h
  two : RowO w o (β + 8) v2 l
  want : RowO w o (β + 9) v3 l
theorem TW.ev {K : Nat → Prop} {w w' : World} {o o' : Nat → Nat} {β sb : Nat} {m : Mg} {mb rb : Nat} {kv rv hv wv : Value} {ks : List (Int × Int × Value)} {A : List Value} {h l : List Nat} {v2 v3 : Value} (t : TW w o β sb m mb rb kv rv hv wv ks A h l v2 v3) (e : Ev K w o w' o') (hk : ¬ K (β + 1) ∧ ¬ K (β + 2) ∧ ¬ K (β + 3) ∧ ¬ K (β + 6) ∧ ¬ K (β + 10)) (hk2 : ¬ K (β + 4) ∧ ¬ K (β + 5) ∧ ¬ K (β + 8) ∧ ¬ K (β + 9)) : TW w' o' β sb m mb rb kv rv hv wv ks A h l v2 v3 :=
  ⟨t.s.ev e hk, t.was.ev e hk2.1, t.held.ev e hk2.2.1, t.two.ev e hk2.2.2.1, t.want.ev e hk2.2.2.2⟩
theorem TW.dr {w : World} {o : Nat → Nat} {β sb : Nat} {m : Mg} {mb rb : Nat} {kv rv hv wv : Value} {ks : List (Int × Int × Value)} {A : List Value} {h l : List Nat} {v2 v3 : Value} (t : TW w o β sb m mb rb kv rv hv wv ks A h l v2 v3) (q : Nat) : TW (w.drewN q) o β sb m mb rb kv rv hv wv ks A h l v2 v3 :=
  t.ev (K := fun _ => False) (Ev.drew w o q) ⟨id, id, id, id, id⟩ ⟨id, id, id, id⟩
theorem same_row {w : World} {o : Nat → Nat} {j k : Nat} {ao bo : Option Addr} {ac bc : Nat} {l : List Nat} (ha : RowO w o j (.slice ao l.length ac) l) (hb : RowO w o k (.slice bo l.length bc) l) (hl : l.length ≤ 2147483648) :
    Calls Try.prog 72 #[.slice ao l.length ac, .slice bo l.length bc] w fun x w' => x = .returned (.bool true) ∧ ∃ q, w' = w.drewN q := by
  have := same_true (l.map (fun n : Nat => (n : Int))) ao bo ac bc w ha.ir hb.ir (by simp; omega)
  rw [List.length_map] at this
  exact this
theorem kb_mono {β : Nat} {K : Nat → Prop} (h : ∀ k, K k → β + 1 ≤ k ∧ k ≤ β + 10) : ∀ k, K k → KB β k := h
/-- A copy of a list. -/
theorem row_nil (w : World) (N : Nat) : w.ownsRow N 3 1 (.slice none 0 0) 0 [] := ⟨rfl, Or.inl ⟨rfl, rfl⟩⟩

set_option maxHeartbeats 2000000 in
set_option maxRecDepth 100000 in
theorem twice_any (w : World) (o : Nat → Nat) (β sb : Nat) (m : Mg) (mb rb : Nat) (kv rv hv wv : Value) (ks : List (Int × Int × Value)) (A : List Value) (h l : List Nat) (v1 v2 v3 : Value) (s : SK w o β sb m m mb rb kv rv hv wv ks A) (hwas : RowO w o (β + 4) wv h) (hheld : RowO w o (β + 5) hv h) (hhl : h.length ≤ 2147483648) (h1 : RowO w o (β + 7) v1 l) (h2 : RowO w o (β + 8) v2 l) (h3 : RowO w o (β + 9) v3 l) (hl : l.length ≤ 2147483648) (hA : A.length ≤ 99999000) :
    Calls Try.prog 55 #[.pointer (some ⟨sb, 0, none⟩), v1, v2, v3] w fun x w' => x = .returned (.bool true) ∧ ∃ o' rv' wv' A', SK w' o' β sb m m mb rb kv rv' v2 wv' ks A' ∧ RowO w' o' (β + 4) wv' l ∧ RowO w' o' (β + 5) v2 l ∧ RowO w' o' (β + 9) v3 l ∧ A'.length = A.length + 40 ∧ Ev (KB β) w o w' o' := by
  obtain ⟨i0, hi0, hz0, hz1, hz2⟩ := info_parts info_int
  obtain ⟨a1, c1, rfl⟩ := h1.slice
  obtain ⟨a2, c2, rfl⟩ := h2.slice
  obtain ⟨a3, c3, rfl⟩ := h3.slice
  obtain ⟨a4, c4, rfl⟩ := hheld.slice
  obtain ⟨a5, c5, rfl⟩ := hwas.slice
  have HT0 : Hid (TW w o β sb m mb rb kv rv (.slice a4 h.length c4) (.slice a5 h.length c5) ks A h l (.slice a2 l.length c2) (.slice a3 l.length c3)) := ⟨s, hwas, hheld, h2, h3⟩
  have H1 : Hid _ := h1
  have q1 := same_row h1 h3 hl
  obtain ⟨n, hn⟩ : ∃ n, n = l.length := ⟨_, rfl⟩
  obtain ⟨nh, hnh⟩ : ∃ nh, nh = h.length := ⟨_, rfl⟩
  rw [← hn] at q1 HT0 H1 ⊢
  rw [← hnh] at HT0
  have Hn : Hid (n = l.length) := hn
  have Hnh : Hid (nh = h.length) := hnh
  have Hl : Hid (l.length ≤ 2147483648 ∧ h.length ≤ 2147483648 ∧ A.length ≤ 99999000) := ⟨hl, hhl, hA⟩
  clear s hwas hheld h1 h2 h3 hn hnh hl hhl hA
  go_enter Try.func55, Try.ntmps55
  go_wp2_with fail
  refine q1.mono ?_
  rintro x w1 ⟨rfl, nq1, hw1⟩
  have HT1 : Hid (TW w1 o β sb m mb rb kv rv (.slice a4 nh c4) (.slice a5 nh c5) ks A h l (.slice a2 n c2) (.slice a3 n c3)) := by have := HT0.out.dr nq1; rw [← hw1] at this; exact this
  have H11 : Hid (RowO w1 o (β + 7) (.slice a1 n c1) l) := by have := H1.out.ev (K := fun _ => False) (Ev.drew w o nq1) id; rw [← hw1] at this; exact this
  have E1 : Hid (Ev (KB β) w o w1 o) := by have := Ev.drew (K := KB β) w o nq1; rw [← hw1] at this; exact this
  clear q1 hw1 HT0 H1
  have q2 : Calls Try.prog 72 #[.slice a2 n c2, .slice a3 n c3] w1 fun x w' => x = .returned (.bool true) ∧ ∃ q, w' = w1.drewN q := by have hn := Hn.out; have ht := HT1.out; have hl := Hl.out.1; subst hn; exact same_row ht.two ht.want hl
  go_wp2_with fail
  refine q2.mono ?_
  rintro x w2 ⟨rfl, nq2, hw2⟩
  have HT2 : Hid (TW w2 o β sb m mb rb kv rv (.slice a4 nh c4) (.slice a5 nh c5) ks A h l (.slice a2 n c2) (.slice a3 n c3)) := by have := HT1.out.dr nq2; rw [← hw2] at this; exact this
  have H12 : Hid (RowO w2 o (β + 7) (.slice a1 n c1) l) := by have := H11.out.ev (K := fun _ => False) (Ev.drew w1 o nq2) id; rw [← hw2] at this; exact this
  have E2 : Hid (Ev (KB β) w o w2 o) := by have := E1.out.trans (Ev.drew (K := KB β) w1 o nq2); rw [← hw2] at this; exact this
  clear q2 hw2 HT1 H11 E1
  have q3 : ∀ q, Calls Try.prog 72 #[.slice a4 nh c4, .slice a5 nh c5] (w2.drewN q) fun x w' => x = .returned (.bool true) ∧ ∃ q, w' = w2.drewN q := fun q => by
    have hn := Hnh.out; have ht := HT2.out.dr q; have hl := Hl.out.2.1
    subst hn
    exact (same_row ht.held ht.was hl).mono (fun e w' ⟨he, q', hq⟩ => ⟨he, q + q', by rw [hq]; exact World.drewN_drewN _ _ _⟩)
  have b4 : w2.cell? ⟨sb, 4, none⟩ = some (.slice a4 nh c4) := by rw [blk_cell HT2.out.s.blk]; rfl
  have b5 : w2.cell? ⟨sb, 5, none⟩ = some (.slice a5 nh c5) := by rw [blk_cell HT2.out.s.blk]; rfl
  go_wp2_with fail
  refine wp_region_quiet_lit (by kernel_rfl) (by kernel_rfl) ?_
  repeat (first | go_big_quiet_step (fail) | go_big_quiet_step ((go_at_call 72; exact q3 _)))
  refine wpQuiet_nil ?_
  rintro w3 ⟨nq3, hw3⟩
  have HT3 : Hid (TW w3 o β sb m mb rb kv rv (.slice a4 nh c4) (.slice a5 nh c5) ks A h l (.slice a2 n c2) (.slice a3 n c3)) := by have := HT2.out.dr nq3; rw [← hw3] at this; exact this
  have H13 : Hid (RowO w3 o (β + 7) (.slice a1 n c1) l) := by have := H12.out.ev (K := fun _ => False) (Ev.drew w2 o nq3) id; rw [← hw3] at this; exact this
  have E3 : Hid (Ev (KB β) w o w3 o) := by have := E2.out.trans (Ev.drew (K := KB β) w2 o nq3); rw [← hw3] at this; exact this
  clear q3 b4 b5 hw3 HT2 H12 E2
  have q4 := HT3.out.s.owned H13.out Hl.out.1 (by have := Hl.out.2.2; omega)
  go_wp2_with fail
  refine q4.mono ?_
  rintro x w4 ⟨rfl, o4, rv4, A4, s4, hA4, e4⟩
  have HT4 : Hid (TW w4 o4 β sb m mb rb kv rv4 (.slice a4 nh c4) (.slice a5 nh c5) ks A4 h l (.slice a2 n c2) (.slice a3 n c3)) := ⟨s4, HT3.out.was.ev e4 (by omega), HT3.out.held.ev e4 (by omega), HT3.out.two.ev e4 (by omega), HT3.out.want.ev e4 (by omega)⟩
  have HA4 : Hid _ := hA4
  have E4 : Hid (Ev (KB β) w o w4 o4) := E3.out.trans (e4.mono (fun k hk => by unfold KB; omega))
  clear q4 s4 hA4 e4 HT3 H13 E3
  have q5 : Calls Try.prog 72 #[.slice a2 n c2, .slice a3 n c3] w4 fun x w' => x = .returned (.bool true) ∧ ∃ q, w' = w4.drewN q := by have hn := Hn.out; have ht := HT4.out; have hl := Hl.out.1; subst hn; exact same_row ht.two ht.want hl
  go_wp2_with fail
  refine q5.mono ?_
  rintro x w5 ⟨rfl, nq5, hw5⟩
  have HT5 : Hid (TW w5 o4 β sb m mb rb kv rv4 (.slice a4 nh c4) (.slice a5 nh c5) ks A4 h l (.slice a2 n c2) (.slice a3 n c3)) := by have := HT4.out.dr nq5; rw [← hw5] at this; exact this
  have E5 : Hid (Ev (KB β) w o w5 o4) := by have := E4.out.trans (Ev.drew (K := KB β) w4 o4 nq5); rw [← hw5] at this; exact this
  clear q5 hw5 HT4 E4
  have q6 : ∀ q, Calls Try.prog 72 #[.slice a4 nh c4, .slice a5 nh c5] (w5.drewN q) fun x w' => x = .returned (.bool true) ∧ ∃ q, w' = w5.drewN q := fun q => by
    have hn := Hnh.out; have ht := HT5.out.dr q; have hl := Hl.out.2.1
    subst hn
    exact (same_row ht.held ht.was hl).mono (fun e w' ⟨he, q', hq⟩ => ⟨he, q + q', by rw [hq]; exact World.drewN_drewN _ _ _⟩)
  have b4 : w5.cell? ⟨sb, 4, none⟩ = some (.slice a4 nh c4) := by rw [blk_cell HT5.out.s.blk]; rfl
  have b5 : w5.cell? ⟨sb, 5, none⟩ = some (.slice a5 nh c5) := by rw [blk_cell HT5.out.s.blk]; rfl
  go_wp2_with fail
  refine wp_region_quiet_lit (by kernel_rfl) (by kernel_rfl) ?_
  repeat (first | go_big_quiet_step (fail) | go_big_quiet_step ((go_at_call 72; exact q6 _)))
  refine wpQuiet_nil ?_
  rintro w6 ⟨nq6, hw6⟩
  have HT6 : Hid (TW w6 o4 β sb m mb rb kv rv4 (.slice a4 nh c4) (.slice a5 nh c5) ks A4 h l (.slice a2 n c2) (.slice a3 n c3)) := by have := HT5.out.dr nq6; rw [← hw6] at this; exact this
  have E6 : Hid (Ev (KB β) w o w6 o4) := by have := E5.out.trans (Ev.drew (K := KB β) w5 o4 nq6); rw [← hw6] at this; exact this
  clear q6 b4 b5 hw6 HT5 E5
  have er := Ev.relab w6 o4 (β + 5) (β + 7)
  have q7 := (HT6.out.s.ev er (by omega)).owned (HT6.out.held.relab (β + 7)) Hl.out.2.1 (by have := Hl.out.2.2; have := HA4.out; omega)
  have b4 : w6.cell? ⟨sb, 4, none⟩ = some (.slice a4 nh c4) := by rw [blk_cell HT6.out.s.blk]; rfl
  have Her : Hid _ := er
  clear er
  go_wp2_with fail
  refine q7.mono ?_
  rintro x w7 ⟨rfl, o7, rv7, A7, s7, hA7, e7⟩
  have HT7 : Hid (SK w7 o7 β sb m m mb rb kv rv7 (.slice a4 nh c4) (.slice a5 nh c5) ks A7 ∧ RowO w7 o7 (β + 8) (.slice a2 n c2) l ∧ RowO w7 o7 (β + 9) (.slice a3 n c3) l) := ⟨s7, (HT6.out.two.ev Her.out (by omega)).ev e7 (by omega), (HT6.out.want.ev Her.out (by omega)).ev e7 (by omega)⟩
  have HA7 : Hid (A7.length = A.length + 40) := by have := HA4.out; show _ = _; omega
  have E7 : Hid (Ev (KB β) w o w7 o7) := (E6.out.trans (Her.out.mono (fun k hk => by unfold KB; omega))).trans (e7.mono (fun k hk => by unfold KB; omega))
  clear q7 s7 hA7 e7 HT6 E6 Her b4
  have q8 : Calls Try.prog 72 #[.slice a2 n c2, .slice a3 n c3] w7 fun x w' => x = .returned (.bool true) ∧ ∃ q, w' = w7.drewN q := by have hn := Hn.out; have ht := HT7.out; have hl := Hl.out.1; subst hn; exact same_row ht.2.1 ht.2.2 hl
  go_wp2_with fail
  refine q8.mono ?_
  rintro x w8 ⟨rfl, nq8, hw8⟩
  have HT8 : Hid (SK w8 o7 β sb m m mb rb kv rv7 (.slice a4 nh c4) (.slice a5 nh c5) ks A7 ∧ RowO w8 o7 (β + 8) (.slice a2 n c2) l ∧ RowO w8 o7 (β + 9) (.slice a3 n c3) l) := by
    have e := Ev.drew (K := fun _ => False) w7 o7 nq8
    rw [← hw8] at e
    exact ⟨HT7.out.1.ev e ⟨id, id, id, id, id⟩, HT7.out.2.1.ev e id, HT7.out.2.2.ev e id⟩
  have E8 : Hid (Ev (KB β) w o w8 o7) := by have := E7.out.trans (Ev.drew (K := KB β) w7 o7 nq8); rw [← hw8] at this; exact this
  clear q8 hw8 HT7 E7
  -- held is written
  have b4 : w8.cell? ⟨sb, 4, none⟩ = some (.slice a4 nh c4) := by rw [blk_cell HT8.out.1.blk]; rfl
  have f4 := blk_frozen HT8.out.1.blk 4
  have f4b := blk_frozen HT8.out.1.blk
  obtain ⟨w9, hw9⟩ : ∃ w9, w9 = w8.setCell ⟨sb, 4, none⟩ (.slice a2 n c2) := ⟨_, rfl⟩
  have e9 : Ev (fun k => k = β + 10) w8 o7 w9 o7 := by rw [hw9]; exact HT8.out.1.put 4 _
  have hB9 : w9.heap[sb]? = some (.cells #[.pointer (some ⟨mb, 0, none⟩), .pointer (some ⟨rb, 0, none⟩), kv, rv7, .slice a2 n c2, .slice a5 nh c5] 33 (0, 0)) := by rw [hw9]; exact blk_set HT8.out.1.blk _
  have b5 : w9.cell? ⟨sb, 5, none⟩ = some (.slice a5 nh c5) := by rw [blk_cell hB9]; rfl
  have f5 := blk_frozen hB9 5
  have Hir : Hid (∀ j u, (icl l)[j]? = some u → ∃ g, a3 = some ⟨g, 0, none⟩ ∧ w9.cell? ((⟨g, 0, none⟩ : Addr).add j) = some u) := fun j u hu => by
    have hr := (HT8.out.2.2.ev e9 (by omega)).row
    rcases hr.2 with ⟨_, h0⟩ | ⟨g, c', cur, hv', _⟩
    · have := (List.getElem?_eq_some_iff.1 hu).1; rw [icl_len] at this; omega
    · injection hv' with hv'
      refine ⟨g, hv', ?_⟩
      rw [hv'] at hr
      exact hr.cells (g := g) rfl j u hu
  have HT9 : Hid (RowO w9 o7 (β + 8) (.slice a2 n c2) l ∧ RowO w9 o7 (β + 9) (.slice a3 n c3) l ∧ MF w9 mb m (Oth w9 o7 (β + 1)) ∧ RF w9 rb m (Oth w9 o7 (β + 2)) ∧ KP w9 o7 (β + 3) kv ks ∧ LS 31 w9 (fun i => o7 i ≠ β + 6) sb mkI A7 rv7 ∧ (∀ g, rv7.ownBlock = some g → o7 g = β + 6) ∧ A7.length % 20 = 0 ∧ o7 sb = β + 10) := ⟨HT8.out.2.1.ev e9 (by omega), HT8.out.2.2.ev e9 (by omega), HT8.out.1.mf.ev e9 (by omega), HT8.out.1.rf.ev e9 (by omega), HT8.out.1.kept.ev e9 (by omega), HT8.out.1.ls.ev e9 (by omega), HT8.out.1.lab, HT8.out.1.a20, HT8.out.1.osb⟩
  have E9 : Hid (Ev (KB β) w o w9 o7) := E8.out.trans (e9.mono (fun k hk => by unfold KB; omega))
  have HB9 : Hid _ := hB9
  have Hw9 : Hid _ := hw9
  clear hB9 e9 HT8 E8 hw9
  have HEnd : Hid (∀ w10 w11 v10, w10.ownsRow w9.heap.size 3 1 v10 n (icl l) → Tch (fun _ => False) w9 w10 → w11 = w10.setCell ⟨sb, 5, none⟩ v10 → ∃ o' rv' wv' A', SK w11 o' β sb m m mb rb kv rv' (.slice a2 n c2) wv' ks A' ∧ RowO w11 o' (β + 4) wv' l ∧ RowO w11 o' (β + 5) (.slice a2 n c2) l ∧ RowO w11 o' (β + 9) (.slice a3 n c3) l ∧ A'.length = A.length + 40 ∧ Ev (KB β) w o w11 o') := fun w10 w11 v10 hown t hw11 => by
    obtain ⟨r2, r3, mf, rf, kp, ls, lab, a20, osb⟩ := HT9.out
    have e10 := Ev.quiet (o := o7) (β + 4) t
    have hn := Hn.out
    subst hn
    have r4 : RowO w10 (ext w9 o7 (β + 4)) (β + 4) v10 l := RowO.fresh hown
    have hB10 : w10.heap[sb]? = some (.cells #[.pointer (some ⟨mb, 0, none⟩), .pointer (some ⟨rb, 0, none⟩), kv, rv7, .slice a2 l.length c2, .slice a5 nh c5] 33 (0, 0)) := by rw [t.block sb (blk_lt HB9.out) (fun h => h)]; exact HB9.out
    have osb10 : ext w9 o7 (β + 4) sb = β + 10 := by unfold ext; rw [if_pos (blk_lt HB9.out), osb]
    have e11 : Ev (fun k => k = β + 10) w10 (ext w9 o7 (β + 4)) w11 (ext w9 o7 (β + 4)) := by
      rw [hw11]
      exact ⟨Tch.setCell _ _ _ _ osb10, fun _ _ _ => rfl, fun _ _ h => h, fun i hi hl => by simp [World.setCell] at hl; omega⟩
    have e12 := Ev.relab w11 (ext w9 o7 (β + 4)) (β + 8) (β + 5)
    have k1 : ∀ j, (j = 1 ∨ j = 2 ∨ j = 3 ∨ j = 6 ∨ j = 9) → ¬ (β + j = β + 4) ∧ ¬ (β + j = β + 10) ∧ ¬ (β + j = β + 8 ∨ β + j = β + 5) := fun j hj => by omega
    refine ⟨rlb (ext w9 o7 (β + 4)) (β + 8) (β + 5), rv7, v10, A7, ⟨?_, ?_, ((mf.ev e10 (by omega)).ev e11 (by omega)).ev e12 (by omega), ((rf.ev e10 (by omega)).ev e11 (by omega)).ev e12 (by omega), ((kp.ev e10 (by omega)).ev e11 (by omega)).ev e12 (by omega), ((ls.ev e10 (by omega)).ev e11 (by omega)).ev e12 (by omega), fun g hg => ?_, a20⟩, (r4.ev e11 (by omega)).ev e12 (by omega), ((r2.ev e10 (by omega)).ev e11 (by omega)).relab (β + 5), ((r3.ev e10 (by omega)).ev e11 (by omega)).ev e12 (by omega), HA7.out, ((E9.out.trans (e10.mono (fun k hk => by unfold KB; omega))).trans (e11.mono (fun k hk => by unfold KB; omega))).trans (e12.mono (fun k hk => by unfold KB; omega))⟩
    · show rlb (ext w9 o7 (β + 4)) (β + 8) (β + 5) sb = β + 10
      unfold rlb
      rw [osb10, if_neg (by omega)]
    · rw [hw11]; exact blk_set hB10 _
    · have h1 : ext w9 o7 (β + 4) g = β + 6 := by unfold ext; rw [if_pos (ls.lt g hg), lab g hg]
      unfold rlb
      rw [h1, if_neg (by omega)]
  have Hrow : Hid (n = 0 ∧ a3 = none ∨ ∃ g, a3 = some ⟨g, 0, none⟩) := by
    rcases HT9.out.2.1.row.2 with ⟨e, h0⟩ | ⟨g, c', cur, hv', _⟩
    · injection e with e
      exact Or.inl ⟨by rw [Hn.out]; exact h0, e⟩
    · injection hv' with hv'
      exact Or.inr ⟨g, hv'⟩
  have Hbl : Hid (l.length ≤ 2147483648 ∧ n ≤ 2147483648) := ⟨Hl.out.1, by rw [Hn.out]; exact Hl.out.1⟩
  clear HT9 E9 HA7 HA4
  rcases Hrow.out with ⟨hn0, rfl⟩ | ⟨g, rfl⟩
  · have HE0 : Hid (icl l = []) := by
      have : l.length = 0 := by rw [← Hn.out]; exact hn0
      show _ = _
      rw [List.length_eq_zero_iff.1 this]; rfl
    subst hn0
    have b5w : w8.cell? ⟨sb, 5, none⟩ = some (.slice a5 nh c5) := by have h1 := b5; rw [Hw9.out, World.cell?_setCell_other (h := by intro e; injection e with e; omega)] at h1; exact h1
    have f5w := f4b 5
    go_wp2_with fail
    go_ret
    exact ⟨rfl, HEnd.out _ _ (.slice none 0 0) (by rw [HE0.out]; exact row_nil _ _) (Tch.refl _ _) (by rw [Hw9.out])⟩
  · have Hcl : Hid (∀ j u, (icl l)[j]? = some u → w9.cell? ((⟨g, 0, none⟩ : Addr).add j) = some u) := fun j u hu => by
      obtain ⟨g', e, hc⟩ := Hir.out j u hu
      obtain rfl : g = g' := by injection e with e; injection e
      exact hc
    have Hil : Hid ((icl l).length = n * 1) := by show _ = _; rw [icl_len, Hn.out]; omega
    go_wp2_with (at_builtin; have hw9 := Hw9.out; rw [← hw9]; clear hw9; refine wpList_append_keeps _ rfl _ _ 31 rfl w9.heap.size 3 i0 (.int .i64 0) 1 8 Try.underlying31 hi0 hz0 hz1 hz2 rfl (by decide) (.slice none 0 0) 0 [] rfl (row_nil _ _) ⟨g, 0, none⟩ n c3 (icl l) rfl Hil.out Hcl.out (icl_one l) (by have := Hbl.out; unfold maxLen; omega) (by have := Hbl.out; omega) (Nat.le_refl _) ?_; intro v10 w10 hown hgr hat _; have HO10 : Hid (w10.ownsRow w9.heap.size 3 1 v10 n (icl l)) := (by have h1 := hown; rw [Nat.zero_add, List.nil_append] at h1; exact h1); have HT10 : Hid (Tch (fun _ => False) w9 w10) := ((grown_at (Tch.refl (fun _ => False) w9) hgr).mono (fun i _ e => by cases e)); obtain ⟨o10, c10, hv10⟩ := row_slice HO10.out; subst hv10; have b5' : w10.cell? ⟨sb, 5, none⟩ = some (.slice a5 nh c5) := (by rw [HT10.out.cell (p := ⟨sb, 5, none⟩) (cell_lt b5) (fun h => h)]; exact b5); have f5' : w10.frozen? ⟨sb, 5, none⟩ = false := (by rw [HT10.out.frozen (p := ⟨sb, 5, none⟩) (cell_lt b5) (fun h => h)]; exact f5); clear hown hgr hat b5 f5)
    go_ret
    exact ⟨rfl, HEnd.out _ _ _ HO10.out HT10.out rfl⟩
end Go.Proofs.Ytolobljlkdacjaa
/- A side within a step. -/
namespace Go.Proofs.Ytolobljlkdacjaa
open Go.RowKit Go

/-- What a step of a side may turn, with what it makes for itself. -/
def KS (β : Nat) : Nat → Prop := fun k => β + 1 ≤ k ∧ k ≤ β + 12
/-- Within a step: w, o: when it began; the step's own copy of what is to be done lies at N. -/
structure PW (w : World) (o : Nat → Nat) (β sb N : Nat) (bx : Array Value) (mb rb : Nat) (kv rv hv wv : Value) (ks : List (Int × Int × Value)) (A : List Value) (h : List Nat) (W : World) (o' : Nat → Nat) (mc md : Mg) : Prop where
  s : SK W o' β sb mc md mb rb kv rv hv wv ks A
  was : RowO W o' (β + 4) wv h
  held : RowO W o' (β + 5) hv h
  ev : Ev (KS β) w o W o'
  ob : o' N = β + 11
  bk : W.heap[N]? = some (.cells bx 38 (0, 0))
section
variable {w : World} {o : Nat → Nat} {β sb N : Nat} {bx : Array Value} {mb rb : Nat} {kv rv hv wv : Value} {ks : List (Int × Int × Value)} {A : List Value} {h : List Nat} {W W' : World} {o' : Nat → Nat} {mc mc' md md' : Mg}
theorem PW.ev1 (p : PW w o β sb N bx mb rb kv rv hv wv ks A h W o' mc md) {K : Nat → Prop} {o'' : Nat → Nat} (e : Ev K W o' W' o'') (hK : ∀ k, K k → KS β k) (h4 : ¬ K (β + 4)) (h5 : ¬ K (β + 5)) (h7 : ¬ K (β + 11)) (s : SK W' o'' β sb mc' md' mb rb kv rv hv wv ks A) : PW w o β sb N bx mb rb kv rv hv wv ks A h W' o'' mc' md' := by
  have hl := blk_lt p.bk
  refine ⟨s, p.was.ev e h4, p.held.ev e h5, p.ev.trans (e.mono hK), ?_, ?_⟩
  · rw [e.old N hl (by rw [p.ob]; exact h7), p.ob]
  · rw [e.tch.block N hl (by rw [p.ob]; exact h7)]; exact p.bk
theorem PW.code (p : PW w o β sb N bx mb rb kv rv hv wv ks A h W o' mc md) (hm : MF W' mb mc' (Oth W o' (β + 1))) (t : Kept (Oth W o' (β + 1)) W W') : PW w o β sb N bx mb rb kv rv hv wv ks A h W' (ext W o' (β + 1)) mc' md :=
  p.ev1 (Ev.of t) (fun k hk => by unfold KS; omega) (by omega) (by omega) (by omega) (p.s.code hm t)
theorem PW.doc (p : PW w o β sb N bx mb rb kv rv hv wv ks A h W o' mc md) (hm : RF W' rb md' (Oth W o' (β + 2))) (t : Kept (Oth W o' (β + 2)) W W') : PW w o β sb N bx mb rb kv rv hv wv ks A h W' (ext W o' (β + 2)) mc md' :=
  p.ev1 (Ev.of t) (fun k hk => by unfold KS; omega) (by omega) (by omega) (by omega) (p.s.doc hm t)
/-- Something was made: it is for now nobody's but the step's. -/
theorem PW.no (p : PW w o β sb N bx mb rb kv rv hv wv ks A h W o' mc md) (t : Tch (fun _ => False) W W') : PW w o β sb N bx mb rb kv rv hv wv ks A h W' (ext W o' (β + 12)) mc md := by
  have e := Ev.quiet (o := o') (β + 12) t
  exact p.ev1 e (fun k hk => by unfold KS; omega) (by omega) (by omega) (by omega) (p.s.ev e (by omega))
theorem PW.c0 (p : PW w o β sb N bx mb rb kv rv hv wv ks A h W o' mc md) : W.cell? ⟨sb, 0, none⟩ = some (.pointer (some ⟨mb, 0, none⟩)) := by rw [blk_cell p.s.blk]; rfl
theorem PW.c1 (p : PW w o β sb N bx mb rb kv rv hv wv ks A h W o' mc md) : W.cell? ⟨sb, 1, none⟩ = some (.pointer (some ⟨rb, 0, none⟩)) := by rw [blk_cell p.s.blk]; rfl
theorem PW.bxc (p : PW w o β sb N bx mb rb kv rv hv wv ks A h W o' mc md) (j : Nat) : W.cell? ⟨N, j, none⟩ = bx[j]? := blk_cell p.bk j
theorem PW.begin (s : SK w o β sb mc md mb rb kv rv hv wv ks A) (h4 : RowO w o (β + 4) wv h) (h5 : RowO w o (β + 5) hv h) (bx : Array Value) : PW w o β sb w.heap.size bx mb rb kv rv hv wv ks A h (w.alloc (.cells bx 38)) (ext w o (β + 11)) mc md := by
  have e := Ev.quiet (o := o) (β + 11) (Tch.alloc (fun _ => False) w (.cells bx 38))
  exact ⟨s.ev e (by omega), h4.ev e (by omega), h5.ev e (by omega), e.mono (fun k hk => by unfold KS; omega), if_neg (by omega), alloc_new _ _⟩
/-- Some owners' function or other. -/
def PE (w : World) (o : Nat → Nat) (β sb N : Nat) (bx : Array Value) (mb rb : Nat) (kv rv hv wv : Value) (ks : List (Int × Int × Value)) (A : List Value) (h : List Nat) (W : World) (mc md : Mg) : Prop := ∃ o', PW w o β sb N bx mb rb kv rv hv wv ks A h W o' mc md
theorem PE.out {n : Nat} {m : Mg} (p : PE w o β sb N bx mb rb kv rv hv wv ks A h W m m) (hh : h.length ≤ 2147483648) (hA : A.length ≤ n) : ∃ o', Sd W o' β sb m ks n ∧ Ev (KS β) w o W o' := by
  obtain ⟨o', p⟩ := p
  exact ⟨o', ⟨mb, rb, kv, rv, hv, wv, A, h, p.s, p.was, p.held, hh, hA⟩, p.ev⟩
theorem PE.dr (p : PE w o β sb N bx mb rb kv rv hv wv ks A h W mc md) (q : Nat) : PE w o β sb N bx mb rb kv rv hv wv ks A h (W.drewN q) mc md := by
  obtain ⟨o', p⟩ := p
  have e := Ev.drew (K := fun _ => False) W o' q
  exact ⟨o', p.ev1 e (fun _ hk => hk.elim) id id id (p.s.ev e ⟨id, id, id, id, id⟩)⟩
end
end Go.Proofs.Ytolobljlkdacjaa
