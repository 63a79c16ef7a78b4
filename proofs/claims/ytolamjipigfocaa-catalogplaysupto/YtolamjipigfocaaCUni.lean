import Derived.Test.YtolamjipigfocaaCOwn
/- The calls of both catalogs in one form: what is told, what comes of it, whose it is. -/
namespace Go.Proofs.Ytolamjipigfocaa
open Go.RowKit Go

/-- What a call tells, and what it leaves. -/
structure Res where
  t : Tbl
  E : Int
  L : List Tbl
  g : Int
def noT : Tbl := ⟨0, 0, ⟨#[]⟩, [], 0⟩
def chgR (E : Int) (t0 : Tbl) (L' : List Tbl) (g' : Int) (L : List Tbl) (g : Int) : Res := if E = 0 then ⟨t0, 0, L', g'⟩ else ⟨noT, E, L, g⟩
def creR (L : List Tbl) (gv : Int) (nm : ByteArray) (cols : List Col) (key : Int) : Res := chgR (creE L gv nm cols key) (creT gv nm cols key) (L ++ [creT gv nm cols key]) (gv + 1) L gv
abbrev byNm (nm : ByteArray) (t : Tbl) : Bool := decide (t.nm = nm)
abbrev byId (id : Int) (t : Tbl) : Bool := decide (t.id = id)
def delR (L : List Tbl) (gv : Int) (nm : ByteArray) : Res := if posL (byNm nm) L < 0 then ⟨noT, 52, L, gv⟩ else ⟨L.getD (posL (byNm nm) L).toNat noT, 0, L.eraseIdx (posL (byNm nm) L).toNat, gv⟩
def getR (L : List Tbl) (gv : Int) (f : Tbl → Bool) : Res := if posL f L < 0 then ⟨noT, 52, L, gv⟩ else ⟨L.getD (posL f L).toNat noT, 0, L, gv⟩
def widR (L : List Tbl) (gv : Int) (nm : ByteArray) (x : Col) : Res := if posL (byNm nm) L < 0 then ⟨noT, 52, L, gv⟩ else chgR (widE (L.getD (posL (byNm nm) L).toNat noT) x) (widT (L.getD (posL (byNm nm) L).toNat noT) x) (L.set (posL (byNm nm) L).toNat (widT (L.getD (posL (byNm nm) L).toNat noT) x)) gv L gv
def putR (L : List Tbl) (gv : Int) (t : Tbl) : Res := if putE L gv t = 0 then ⟨noT, 0, putL L t, putG L gv t⟩ else ⟨noT, putE L gv t, L, gv⟩
/-- What is so behind each of them. -/
structure Res.ok (R : Res) : Prop where
  gi : GI R.L R.g
  c8 : R.t.cols.length ≤ 8
theorem GI.c8 {L : List Tbl} {gv : Int} (h : GI L gv) {t : Tbl} (ht : t ∈ L) : t.cols.length ≤ 8 := (right_len (h.right t ht)).2
theorem creR_ok {L : List Tbl} {gv : Int} (h : GI L gv) (nm : ByteArray) (cols : List Col) (key : Int) : (creR L gv nm cols key).ok := by
  unfold creR chgR
  split
  · rename_i hE
    have hp : rightE (creT gv nm cols key) = 0 ∧ L.any (fun t => decide (t.nm = nm)) = false ∧ L.length ≠ 16 ∧ gv ≠ 2147483647 := by
      unfold creE at hE
      split at hE
      · omega
      split at hE
      · omega
      split at hE
      · omega
      rename_i h1 h2 h3
      exact ⟨hE, by simpa using h2, fun e => h3 (Or.inl e), fun e => h3 (Or.inr e)⟩
    exact ⟨h.create hp.1 hp.2.1 hp.2.2.1 hp.2.2.2, (right_len hp.1).2⟩
  · exact ⟨h, by simp [noT]⟩
theorem getD_mem {L : List Tbl} {f : Tbl → Bool} (h : ¬ posL f L < 0) : ∃ k, ∃ (hk : k < L.length), posL f L = k ∧ L.getD (posL f L).toNat noT = L[k] := by
  rcases posL_cases f L with ⟨h1, _⟩ | ⟨k, hk, h1, _⟩
  · omega
  · refine ⟨k, hk, h1, ?_⟩
    rw [h1]; simp [hk]
theorem delR_ok {L : List Tbl} {gv : Int} (h : GI L gv) (nm : ByteArray) : (delR L gv nm).ok := by
  unfold delR
  split
  · exact ⟨h, by simp [noT]⟩
  · rename_i hp
    obtain ⟨k, hk, _, h2⟩ := getD_mem hp
    exact ⟨h.erase _, by show (L.getD _ _).cols.length ≤ 8; rw [h2]; exact h.c8 (List.getElem_mem hk)⟩
theorem getR_ok {L : List Tbl} {gv : Int} (h : GI L gv) (f : Tbl → Bool) : (getR L gv f).ok ∧ (getR L gv f).L = L ∧ (getR L gv f).g = gv := by
  unfold getR
  split
  · exact ⟨⟨h, by simp [noT]⟩, rfl, rfl⟩
  · rename_i hp
    obtain ⟨k, hk, _, h2⟩ := getD_mem hp
    exact ⟨⟨h, by show (L.getD _ _).cols.length ≤ 8; rw [h2]; exact h.c8 (List.getElem_mem hk)⟩, rfl, rfl⟩
theorem widR_ok {L : List Tbl} {gv : Int} (h : GI L gv) (nm : ByteArray) (x : Col) : (widR L gv nm x).ok := by
  unfold widR
  split
  · exact ⟨h, by simp [noT]⟩
  · rename_i hp
    obtain ⟨k, hk, h1, h2⟩ := getD_mem hp
    rw [h2, h1]
    unfold chgR
    split
    · rename_i hE
      have hw := h.widen hk hE
      refine ⟨by simpa using hw, ?_⟩
      have : widT L[k] x ∈ L.set k (widT L[k] x) := by
        rw [List.mem_iff_getElem]
        exact ⟨k, by simpa using hk, by simp⟩
      exact hw.c8 this
    · exact ⟨h, by simp [noT]⟩
theorem putR_ok {L : List Tbl} {gv : Int} (h : GI L gv) (t : Tbl) : (putR L gv t).ok := by
  unfold putR
  split
  · rename_i hE
    exact ⟨h.put hE, by simp [noT]⟩
  · exact ⟨h, by simp [noT]⟩
/-- A table and an error came out. -/
def TOut (X : World → (Nat → Nat) → List Tbl → Int → Prop) (R : Res) (k kv : Nat) (w : World) (o : Nat → Nat) (x : Ending) (w' : World) : Prop :=
  ∃ o' v, x = .returned (.tuple #[tA R.t.id R.t.ver R.t.nm v R.t.key, .int .i64 R.E]) ∧ X w' o' R.L R.g ∧ RowC w' o' kv v R.t.cols ∧ Ev (fun j => j = k ∨ j = kv) w o w' o'
abbrev CX (k b : Nat) : World → (Nat → Nat) → List Tbl → Int → Prop := fun w o L g => CF w o k b L g
abbrev RX (k b : Nat) : World → (Nat → Nat) → List Tbl → Int → Prop := fun w o L g => RF w o k b L g
theorem CA.ob {w : World} {o : Nat → Nat} {k b : Nat} {L : List Tbl} {gv : Int} {P : List (Tbl × Value)} {to : Option Addr} {tc : Nat} (h : CA w (Oth w o k) b L gv P to tc) : o b = k := Classical.byContradiction fun e => h.nb ⟨blk_lt h.blk, e⟩
theorem CF.quiet {w w' : World} {o : Nat → Nat} {k b : Nat} {L : List Tbl} {gv : Int} (h : CF w o k b L gv) (t : Tch (fun _ => False) w w') {kv : Nat} (hk : k ≠ kv) : CF w' (ext w o kv) k b L gv := h.ev (Ev.quiet kv t) hk
theorem RF.quiet {w w' : World} {o : Nat → Nat} {k b : Nat} {L : List Tbl} {gv : Int} (h : RF w o k b L gv) (t : Tch (fun _ => False) w w') {kv : Nat} (hk : k ≠ kv) : RF w' (ext w o kv) k b L gv := h.ev (Ev.quiet kv t) hk
/-- A table that is refused. -/
theorem TOut.no {X : World → (Nat → Nat) → List Tbl → Int → Prop} {R : Res} {k kv : Nat} {w : World} {o : Nat → Nat} {w' : World} (hR : R.t = noT) (hX : X w' (ext w o kv) R.L R.g) (t : Tch (fun _ => False) w w') : TOut X R k kv w o (.returned (.tuple #[zA, .int .i64 R.E])) w' := by
  refine ⟨ext w o kv, .slice none 0 0, by rw [hR]; rfl, hX, by rw [hR]; exact RowC.nil _ _ _, (Ev.quiet kv t).mono (fun _ h => Or.inr h)⟩
/-- A table of which there is a copy. -/
theorem TOut.copy {X : World → (Nat → Nat) → List Tbl → Int → Prop} {R : Res} {k kv : Nat} {w : World} {o : Nat → Nat} {x : Ending} {w' : World} (hE : R.E = 0) (hX : X w' (ext w o kv) R.L R.g) (h : TK R.t w x w') (t : Tch (fun _ => False) w w') : TOut X R k kv w o x w' := by
  obtain ⟨v, hx, hv⟩ := h
  exact ⟨ext w o kv, v, by rw [hE]; exact hx, hX, ⟨own_low hv (Nat.zero_le _), fun g e => if_neg (by have := (hv.lt g e).1; omega)⟩, (Ev.quiet kv t).mono (fun _ h => Or.inr h)⟩
theorem CF.chg {w : World} {o : Nat → Nat} {k kv b : Nat} {L : List Tbl} {gv : Int} (h : CF w o k b L gv) (hk : k ≠ kv) {E : Int} {t0 : Tbl} {L' : List Tbl} {g' : Int} {x : Ending} {w' : World} (hO : ChgOut (Oth w o k) b E t0 L' g' w x w') : TOut (CX k b) (chgR E t0 L' g' L gv) k kv w o x w' := by
  obtain ⟨P0, to0, tc0, h0⟩ := h
  by_cases hE : E = 0
  · unfold chgR
    rw [if_pos hE]
    obtain ⟨v, P, to, tc, hx, hv, hca, t⟩ := hO.1 hE
    have hvn : ∀ g, v.ownBlock = some g → w.heap.size ≤ g := fun g e => (hv.lt g e).1
    refine ⟨extv w o k v kv, v, hx, ⟨P, to, tc, hca.fresh (fun i hi hf => ?_)⟩, ⟨own_low hv (Nat.zero_le _), fun g e => extv_v e⟩, Ev.extv t (fun i _ e => by rw [show i = b from e]; exact h0.ob) (fun g e => Or.inr (hvn g e))⟩
    by_cases e : v.ownBlock = some i
    · exact Or.inr e
    · rcases Nat.lt_or_ge i w.heap.size with h1 | h1
      · refine Or.inl ⟨h1, fun e1 => hf.2 ?_⟩
        rw [extv_old e h1]; exact e1
      · exact absurd (extv_new e h1) hf.2
  · unfold chgR
    rw [if_neg hE]
    obtain ⟨hx, t⟩ := hO.2 hE
    rw [hx]
    exact TOut.no (R := ⟨noT, E, L, gv⟩) rfl (CF.quiet ⟨P0, to0, tc0, h0⟩ t hk) t
theorem RF.chg {w : World} {o : Nat → Nat} {k kv b : Nat} {L : List Tbl} {gv : Int} {P : List (Tbl × Value)} {tv : Value} (h : RO w 0 b L (gv + 1) P tv) (hb : o b = k) (hg : ∀ g, BL tv P g → o g = k) (hk : k ≠ kv) {E : Int} {t0 : Tbl} {L' : List Tbl} {g' : Int} {x : Ending} {w' : World} (hO : RChg b E t0 L' (g' + 1) P tv w x w') : TOut (RX k b) (chgR E t0 L' g' L gv) k kv w o x w' := by
  by_cases hE : E = 0
  · unfold chgR
    rw [if_pos hE]
    obtain ⟨v, P', tv', hx, hv, hro, hbl, hvb, t⟩ := hO.1 hE
    refine ⟨extv w o k v kv, v, hx, ⟨P', tv', hro, ?_, fun g hgl => ?_⟩, ⟨hv, fun g e => extv_v e⟩, Ev.extv t (fun i _ e => ?_) (fun g e => ?_)⟩
    · rw [extv_old (fun e => (hvb b e).2.1 rfl) (blk_lt h.blk), hb]
    · have hne : v.ownBlock ≠ some g := fun e => (hvb g e).2.2 hgl
      rcases hbl g hgl with h1 | h1
      · rw [extv_old hne (h.bl_lt h1).1, hg g h1]
      · exact extv_new hne h1
    · rcases e with e | e
      · rw [e]; exact hb
      · exact hg i e
    · rcases (hvb g e).1 with h1 | h1
      · exact Or.inl (hg g h1)
      · exact Or.inr h1
  · unfold chgR
    rw [if_neg hE]
    obtain ⟨hx, t⟩ := hO.2 hE
    rw [hx]
    exact TOut.no (R := ⟨noT, E, L, gv⟩) rfl (RF.quiet ⟨P, tv, h, hb, hg⟩ t hk) t
section
variable {w : World} {o : Nat → Nat} {k kv b : Nat} {L : List Tbl} {gv : Int}
theorem CA.len {F : Nat → Prop} {P : List (Tbl × Value)} {to : Option Addr} {tc : Nat} (h : CA w F b L gv P to tc) : P.length = L.length := by rw [← h.eq]; simp
theorem fst_get {P : List (Tbl × Value)} (h : P.map Prod.fst = L) (i : Nat) (hi : i < P.length) : ∃ hj : i < L.length, P[i].1 = L[i] := by
  subst h
  exact ⟨by simpa using hi, by simp⟩
theorem GI.p8 (g : GI L gv) {P : List (Tbl × Value)} (h : P.map Prod.fst = L) : P.length ≤ 16 ∧ ∀ i (hi : i < P.length), P[i].1.cols.length ≤ 8 := by
  refine ⟨by have := congrArg List.length h; simp at this; have := g.len; omega, fun i hi => ?_⟩
  obtain ⟨hj, e⟩ := fst_get h i hi
  rw [e]; exact g.c8 (List.getElem_mem hj)
theorem oth_lt (i : Nat) (h : Oth w o k i) : i < w.heap.size := h.1
theorem create_x (h : CF w o k b L gv) (g : GI L gv) (hk : k ≠ kv) (nm : ByteArray) (cols : List Col) (ao : Option Addr) (c : Nat) (key : Int) (ht : SL w ao (ccl cols)) (hno : ao = none → cols = [] ∧ c = 0) (hcap : cols.length ≤ c) (hcl : cols.length ≤ 9223372036854775807) (hab : ∀ g o, ao = some ⟨g, o, none⟩ → cols ≠ [] → g ≠ b) :
    Calls Try.prog 17 #[.pointer (some ⟨b, 0, none⟩), .string nm, .slice ao cols.length c, .int .i64 key] w fun x w' => TOut (CX k b) (creR L gv nm cols key) k kv w o x w' := by
  obtain ⟨P, to, tc, h0⟩ := h
  obtain ⟨p1, p2⟩ := g.p8 h0.eq
  exact (create_any b L gv P to tc _ nm cols ao c key w h0 p1 p2 oth_lt ht hno hcap hcl g.low g.high hab).mono (fun x w' hO => CF.chg ⟨P, to, tc, h0⟩ hk hO)
theorem rcreate_x (h : RF w o k b L gv) (g : GI L gv) (hk : k ≠ kv) (nm : ByteArray) (cols : List Col) (ao : Option Addr) (c : Nat) (key : Int) (ht : SL w ao (ccl cols)) (hno : ao = none → cols = [] ∧ c = 0) :
    Calls Try.prog 19 #[.pointer (some ⟨b, 0, none⟩), .string nm, .slice ao cols.length c, .int .i64 key] w fun x w' => TOut (RX k b) (creR L gv nm cols key) k kv w o x w' := by
  obtain ⟨P, tv, h0, hb, hg⟩ := h
  obtain ⟨p1, p2⟩ := g.p8 h0.eq
  by_cases hE : creE L gv nm cols key = 0
  · refine (rcreate_ok b L gv P tv nm cols ao c key w h0 p1 ht g.low g.high hno hE).mono (fun x w' hO => ?_)
    unfold creR
    rw [hE]
    exact RF.chg h0 hb hg hk hO
  · exact (rcreate_no b L gv P tv nm cols ao c key (creT gv nm cols key) (L ++ [creT gv nm cols key]) (gv + 1 + 1) w h0 p1 ht g.low g.high hE).mono (fun x w' hO => RF.chg h0 hb hg hk hO)
theorem drop_x (h : CF w o k b L gv) (g : GI L gv) (hk : k ≠ kv) (nm : ByteArray) :
    Calls Try.prog 21 #[.pointer (some ⟨b, 0, none⟩), .string nm] w fun x w' => TOut (CX k b) (delR L gv nm) k kv w o x w' := by
  obtain ⟨P, to, tc, h0⟩ := h
  obtain ⟨p1, p2⟩ := g.p8 h0.eq
  have hpl : posP (byNm nm) P = posL (byNm nm) L := by rw [posP_L, h0.eq]
  unfold delR
  rcases posP_cases (byNm nm) P with ⟨h1, _⟩ | ⟨j, hj, h1, _⟩
  · rw [if_pos (by omega)]
    exact (drop_none b L gv P to tc _ nm noT L w h0 p1 p2 oth_lt h1).mono (fun x w' hO => CF.chg (E := 52) ⟨P, to, tc, h0⟩ hk hO)
  · obtain ⟨hl, e⟩ := fst_get h0.eq j hj
    rw [if_neg (by omega), ← hpl, h1]
    simp only [Int.toNat_natCast, List.getD_eq_getElem?_getD, List.getElem?_eq_getElem hl, Option.getD_some, ← e]
    exact (drop_some b L gv P to tc _ nm j hj w h0 p1 p2 oth_lt h1).mono (fun x w' hO => CF.chg (E := 0) ⟨P, to, tc, h0⟩ hk hO)
theorem rdrop_x (h : RF w o k b L gv) (g : GI L gv) (hk : k ≠ kv) (nm : ByteArray) :
    Calls Try.prog 22 #[.pointer (some ⟨b, 0, none⟩), .string nm] w fun x w' => TOut (RX k b) (delR L gv nm) k kv w o x w' := by
  obtain ⟨P, tv, h0, hb, hg⟩ := h
  obtain ⟨p1, p2⟩ := g.p8 h0.eq
  have hpl : posP (byNm nm) P = posL (byNm nm) L := by rw [posP_L, h0.eq]
  unfold delR
  rcases posP_cases (byNm nm) P with ⟨h1, _⟩ | ⟨j, hj, h1, _⟩
  · rw [if_pos (by omega)]
    exact (rdrop_none b L _ P tv nm noT L (gv + 1) w h0 (by omega) h1).mono (fun x w' hO => RF.chg (E := 52) h0 hb hg hk hO)
  · obtain ⟨hl, e⟩ := fst_get h0.eq j hj
    rw [if_neg (by omega), ← hpl, h1]
    simp only [Int.toNat_natCast, List.getD_eq_getElem?_getD, List.getElem?_eq_getElem hl, Option.getD_some, ← e]
    exact (rdrop_some b L _ P tv nm w h0 p1 j hj h1).mono (fun x w' hO => RF.chg (E := 0) h0 hb hg hk hO)
theorem widen_x (h : CF w o k b L gv) (g : GI L gv) (hk : k ≠ kv) (nm : ByteArray) (x : Col) :
    Calls Try.prog 23 #[.pointer (some ⟨b, 0, none⟩), .string nm, .agg #[.string x.nm, .int .i64 x.k, .bool x.nl]] w fun y w' => TOut (CX k b) (widR L gv nm x) k kv w o y w' := by
  obtain ⟨P, to, tc, h0⟩ := h
  obtain ⟨p1, p2⟩ := g.p8 h0.eq
  have hpl : posP (byNm nm) P = posL (byNm nm) L := by rw [posP_L, h0.eq]
  unfold widR
  rcases posP_cases (byNm nm) P with ⟨h1, _⟩ | ⟨j, hj, h1, _⟩
  · rw [if_pos (by omega)]
    exact (widen_none b L gv P to tc _ nm x noT L w h0 p1 p2 oth_lt h1).mono (fun y w' hO => CF.chg (E := 52) ⟨P, to, tc, h0⟩ hk hO)
  · obtain ⟨hl, e⟩ := fst_get h0.eq j hj
    have hr := num_of (right_parts (g.right L[j] (List.getElem_mem hl))).2.1
    rw [if_neg (by omega), ← hpl, h1]
    simp only [Int.toNat_natCast, List.getD_eq_getElem?_getD, List.getElem?_eq_getElem hl, Option.getD_some, ← e]
    exact (widen_any b L gv P to tc _ nm x j hj w h0 p1 p2 oth_lt h1 (by rw [e]; omega)).mono (fun y w' hO => CF.chg ⟨P, to, tc, h0⟩ hk hO)
theorem rwiden_x (h : RF w o k b L gv) (g : GI L gv) (hk : k ≠ kv) (nm : ByteArray) (x : Col) :
    Calls Try.prog 24 #[.pointer (some ⟨b, 0, none⟩), .string nm, .agg #[.string x.nm, .int .i64 x.k, .bool x.nl]] w fun y w' => TOut (RX k b) (widR L gv nm x) k kv w o y w' := by
  obtain ⟨P, tv, h0, hb, hg⟩ := h
  obtain ⟨p1, p2⟩ := g.p8 h0.eq
  have hpl : posP (byNm nm) P = posL (byNm nm) L := by rw [posP_L, h0.eq]
  unfold widR
  rcases posP_cases (byNm nm) P with ⟨h1, _⟩ | ⟨j, hj, h1, _⟩
  · rw [if_pos (by omega)]
    exact (rwiden_none b L _ P tv nm x noT L (gv + 1) w h0 (by omega) h1).mono (fun y w' hO => RF.chg (E := 52) h0 hb hg hk hO)
  · obtain ⟨hl, e⟩ := fst_get h0.eq j hj
    have hr := right_parts (g.right L[j] (List.getElem_mem hl))
    have hv := num_of hr.2.1
    rw [if_neg (by omega), ← hpl, h1]
    simp only [Int.toNat_natCast, List.getD_eq_getElem?_getD, List.getElem?_eq_getElem hl, Option.getD_some, ← e]
    by_cases hE : widE P[j].1 x = 0
    · rw [hE]
      exact (rwiden_ok b L _ P tv nm x w h0 p1 j hj h1 (by rw [e]; exact hr.2.2.2.1) (by rw [e]; omega) (by rw [e]; omega) hE).mono (fun y w' hO => RF.chg h0 hb hg hk hO)
    · exact (rwiden_no b L _ P tv nm x (widT P[j].1 x) (L.set j (widT P[j].1 x)) (gv + 1) w h0 p1 j hj h1 (by rw [e]; exact hr.2.2.2.1) hE).mono (fun y w' hO => RF.chg h0 hb hg hk hO)
theorem get_x (h : CF w o k b L gv) (g : GI L gv) (hk : k ≠ kv) (nm : ByteArray) :
    Calls Try.prog 31 #[.pointer (some ⟨b, 0, none⟩), .string nm] w fun x w' => TOut (CX k b) (getR L gv (byNm nm)) k kv w o x w' := by
  have hq := h
  obtain ⟨P, to, tc, h0⟩ := h
  obtain ⟨p1, p2⟩ := g.p8 h0.eq
  have hpl : posP (byNm nm) P = posL (byNm nm) L := by rw [posP_L, h0.eq]
  have hb : w.cell? ⟨b, 0, none⟩ = some (.slice to P.length tc) := by rw [blk_cell h0.blk]; rfl
  unfold getR
  rcases posP_cases (byNm nm) P with ⟨h1, _⟩ | ⟨j, hj, h1, _⟩
  · rw [if_pos (by omega)]
    refine (nm_none b to tc P _ nm w hb h0.tl p1 h1).mono ?_
    rintro x w' ⟨rfl, t⟩
    exact TOut.no (R := ⟨noT, 52, L, gv⟩) rfl (hq.quiet t hk) t
  · obtain ⟨hl, e⟩ := fst_get h0.eq j hj
    rw [if_neg (by omega), ← hpl, h1]
    simp only [Int.toNat_natCast, List.getD_eq_getElem?_getD, List.getElem?_eq_getElem hl, Option.getD_some, ← e]
    refine (nm_some b to tc P _ nm j hj w hb h0.tl p1 (p2 j hj) h1).mono ?_
    rintro x w' ⟨ho, t⟩
    exact TOut.copy (R := ⟨P[j].1, 0, L, gv⟩) rfl (hq.quiet t hk) ho t
theorem byid_x (h : CF w o k b L gv) (g : GI L gv) (hk : k ≠ kv) (id : Int) :
    Calls Try.prog 32 #[.pointer (some ⟨b, 0, none⟩), .int .i64 id] w fun x w' => TOut (CX k b) (getR L gv (byId id)) k kv w o x w' := by
  have hq := h
  obtain ⟨P, to, tc, h0⟩ := h
  obtain ⟨p1, p2⟩ := g.p8 h0.eq
  have hpl : posP (byId id) P = posL (byId id) L := by rw [posP_L, h0.eq]
  have hb : w.cell? ⟨b, 0, none⟩ = some (.slice to P.length tc) := by rw [blk_cell h0.blk]; rfl
  unfold getR
  rcases posP_cases (byId id) P with ⟨h1, _⟩ | ⟨j, hj, h1, _⟩
  · rw [if_pos (by omega)]
    refine (id_none b to tc P _ id w hb h0.tl p1 h1).mono ?_
    rintro x w' ⟨rfl, t⟩
    exact TOut.no (R := ⟨noT, 52, L, gv⟩) rfl (hq.quiet t hk) t
  · obtain ⟨hl, e⟩ := fst_get h0.eq j hj
    rw [if_neg (by omega), ← hpl, h1]
    simp only [Int.toNat_natCast, List.getD_eq_getElem?_getD, List.getElem?_eq_getElem hl, Option.getD_some, ← e]
    refine (id_some b to tc P _ id j hj w hb h0.tl p1 (p2 j hj) h1).mono ?_
    rintro x w' ⟨ho, t⟩
    exact TOut.copy (R := ⟨P[j].1, 0, L, gv⟩) rfl (hq.quiet t hk) ho t
theorem rget_x (h : RF w o k b L gv) (g : GI L gv) (hk : k ≠ kv) (nm : ByteArray) :
    Calls Try.prog 25 #[.pointer (some ⟨b, 0, none⟩), .string nm] w fun x w' => TOut (RX k b) (getR L gv (byNm nm)) k kv w o x w' := by
  have hq := h
  obtain ⟨P, tv, h0, hb0, hg⟩ := h
  obtain ⟨to, tc, htv⟩ := row_slice h0.to.own
  subst htv
  obtain ⟨p1, p2⟩ := g.p8 h0.eq
  have hpl : posP (byNm nm) P = posL (byNm nm) L := by rw [posP_L, h0.eq]
  have hb : w.cell? ⟨b, 0, none⟩ = some (.slice to P.length tc) := by rw [blk_cell h0.blk]; rfl
  unfold getR
  rcases posP_cases (byNm nm) P with ⟨h1, _⟩ | ⟨j, hj, h1, _⟩
  · rw [if_pos (by omega)]
    refine (rget_none nm b to tc P _ w hb h0.tl (by omega) h1).mono ?_
    rintro x w' ⟨rfl, t⟩
    exact TOut.no (R := ⟨noT, 52, L, gv⟩) rfl (hq.quiet t hk) t
  · obtain ⟨hl, e⟩ := fst_get h0.eq j hj
    rw [if_neg (by omega), ← hpl, h1]
    simp only [Int.toNat_natCast, List.getD_eq_getElem?_getD, List.getElem?_eq_getElem hl, Option.getD_some, ← e]
    refine (rget_some nm b to tc P _ j hj w hb h0.tl (p2 j hj) (by omega) h1).mono ?_
    rintro x w' ⟨ho, t⟩
    exact TOut.copy (R := ⟨P[j].1, 0, L, gv⟩) rfl (hq.quiet t hk) ho t
theorem rbyid_x (h : RF w o k b L gv) (g : GI L gv) (hk : k ≠ kv) (id : Int) :
    Calls Try.prog 33 #[.pointer (some ⟨b, 0, none⟩), .int .i64 id] w fun x w' => TOut (RX k b) (getR L gv (byId id)) k kv w o x w' := by
  have hq := h
  obtain ⟨P, tv, h0, hb0, hg⟩ := h
  obtain ⟨to, tc, htv⟩ := row_slice h0.to.own
  subst htv
  obtain ⟨p1, p2⟩ := g.p8 h0.eq
  have hpl : posP (byId id) P = posL (byId id) L := by rw [posP_L, h0.eq]
  have hb : w.cell? ⟨b, 0, none⟩ = some (.slice to P.length tc) := by rw [blk_cell h0.blk]; rfl
  unfold getR
  rcases posP_cases (byId id) P with ⟨h1, _⟩ | ⟨j, hj, h1, _⟩
  · rw [if_pos (by omega)]
    refine (rbyid_none id b to tc P _ w hb h0.tl (by omega) h1).mono ?_
    rintro x w' ⟨rfl, t⟩
    exact TOut.no (R := ⟨noT, 52, L, gv⟩) rfl (hq.quiet t hk) t
  · obtain ⟨hl, e⟩ := fst_get h0.eq j hj
    rw [if_neg (by omega), ← hpl, h1]
    simp only [Int.toNat_natCast, List.getD_eq_getElem?_getD, List.getElem?_eq_getElem hl, Option.getD_some, ← e]
    refine (rbyid_some id b to tc P _ j hj w hb h0.tl (p2 j hj) (by omega) h1).mono ?_
    rintro x w' ⟨ho, t⟩
    exact TOut.copy (R := ⟨P[j].1, 0, L, gv⟩) rfl (hq.quiet t hk) ho t
/-- A list of tables came out. -/
def LOut (L : List Tbl) (kv : Nat) (w : World) (o : Nat → Nat) (x : Ending) (w' : World) : Prop := ∃ v P, x = .returned v ∧ P.map Prod.fst = L ∧ TabsO w' (ext w o kv) kv v P ∧ Tch (fun _ => False) w w'
theorem TabsO.new {w' : World} {v : Value} {P : List (Tbl × Value)} (h : TO w' w.heap.size v P) : TabsO w' (ext w o kv) kv v P := ⟨h.low, fun g hg => if_neg (by have := (h.bl_lt hg).1; omega)⟩
theorem list_x (h : CF w o k b L gv) (g : GI L gv) : Calls Try.prog 27 #[.pointer (some ⟨b, 0, none⟩)] w fun x w' => LOut L kv w o x w' := by
  obtain ⟨P, to, tc, h0⟩ := h
  obtain ⟨p1, p2⟩ := g.p8 h0.eq
  refine (list_any b to tc P _ w (by rw [blk_cell h0.blk]; rfl) h0.tl p1 p2).mono ?_
  rintro x w' ⟨⟨v, Q, hx, hQ, hTO⟩, t⟩
  exact ⟨v, Q, hx, by rw [hQ, h0.eq], TabsO.new hTO, t⟩
theorem rlist_x (h : RF w o k b L gv) (g : GI L gv) : Calls Try.prog 10 #[.pointer (some ⟨b, 0, none⟩)] w fun x w' => LOut L kv w o x w' := by
  obtain ⟨P, tv, h0, hb0, hg⟩ := h
  obtain ⟨to, tc, htv⟩ := row_slice h0.to.own
  subst htv
  obtain ⟨p1, p2⟩ := g.p8 h0.eq
  refine (rlist_any b to tc P _ w (by rw [blk_cell h0.blk]; rfl) h0.tl p1 p2).mono ?_
  rintro x w' ⟨⟨v, Q, hx, hQ, hTO⟩, t⟩
  exact ⟨v, Q, hx, by rw [hQ, h0.eq], TabsO.new hTO, t⟩
theorem CO.cf {w' : World} {base d : Nat} {P : List (Tbl × Value)} {tv : Value} (h : CO w' base d L gv P tv) (hb : w.heap.size ≤ base) : CF w' (ext w o kv) kv d L gv := by
  obtain ⟨to, tc, htv⟩ := row_slice h.to.own
  subst htv
  have hn : ∀ i, w.heap.size ≤ i → ¬ Oth w' (ext w o kv) kv i := fun i hi hf => hf.2 (if_neg (by omega))
  refine ⟨P, to, tc, h.blk, h.eq, h.to.tl' (fun g hg hf => ?_), hn d (by have := h.ge; omega)⟩
  rcases hf with hf | hf
  · exact hn g (by have := (h.to.bl_lt hg).1; omega) hf
  · rcases hg with e | ⟨i, hi, e⟩
    · exact h.nb.1 (by rw [← hf]; exact e)
    · exact h.nb.2 i hi (by rw [← hf]; exact e)
theorem RO.rf {w' : World} {d : Nat} {P : List (Tbl × Value)} {tv : Value} (h : RO w' 0 d L (gv + 1) P tv) (hd : w.heap.size ≤ d) (hb : ∀ g, BL tv P g → w.heap.size ≤ g) : RF w' (ext w o kv) kv d L gv := ⟨P, tv, h, if_neg (by omega), fun g hg => if_neg (by have := hb g hg; omega)⟩
theorem clone_x (h : CF w o k b L gv) (g : GI L gv) : Calls Try.prog 8 #[.pointer (some ⟨b, 0, none⟩)] w fun x w' => ∃ d, x = .returned (.pointer (some ⟨d, 0, none⟩)) ∧ CF w' (ext w o kv) kv d L gv ∧ Tch (fun _ => False) w w' := by
  obtain ⟨P, to, tc, h0⟩ := h
  obtain ⟨p1, p2⟩ := g.p8 h0.eq
  refine (clone_any b L gv P to tc _ w h0 p1 p2).mono ?_
  rintro x w' ⟨⟨d, tv, Q, hx, hco⟩, t⟩
  exact ⟨d, hx, hco.cf (Nat.le_refl _), t⟩
theorem rclone_x (h : RF w o k b L gv) (g : GI L gv) : Calls Try.prog 9 #[.pointer (some ⟨b, 0, none⟩)] w fun x w' => ∃ d, x = .returned (.pointer (some ⟨d, 0, none⟩)) ∧ RF w' (ext w o kv) kv d L gv ∧ Tch (fun _ => False) w w' := by
  obtain ⟨P, tv, h0, hb0, hg⟩ := h
  obtain ⟨to, tc, htv⟩ := row_slice h0.to.own
  subst htv
  obtain ⟨p1, p2⟩ := g.p8 h0.eq
  have hra : RA w (fun _ => False) b L (gv + 1) P to tc := ⟨h0.blk, h0.eq, h0.to.tl' (fun g hg hf => by
    rcases hf with hf | hf
    · exact hf
    · exact (h0.bl_lt hg).2 hf), fun h => h⟩
  refine (rclone_any b L (gv + 1) P to tc _ w hra p1 p2).mono ?_
  rintro x w' ⟨⟨d, tv, Q, hx, hro⟩, t⟩
  exact ⟨d, hx, RO.rf ⟨hro.blk, Nat.zero_le _, hro.eq, hro.to.low, hro.nb⟩ hro.ge (fun g hg => (hro.to.bl_lt hg).1), t⟩
/-- A catalog was loaded, or not. -/
def DOut (X : World → (Nat → Nat) → Nat → Prop) (E : Int) (kv : Nat) (w : World) (o : Nat → Nat) (x : Ending) (w' : World) : Prop := (E = 0 → ∃ d, x = .returned (.tuple #[.pointer (some ⟨d, 0, none⟩), .int .i64 0]) ∧ X w' (ext w o kv) d) ∧ (E ≠ 0 → x = .returned (.tuple #[.pointer none, .int .i64 E])) ∧ Tch (fun _ => False) w w'
theorem load_x (l : List (Tbl × Value)) (lo : Option Addr) (lc : Nat) (F : Nat → Prop) (next : Int) (hT : TL w F lo l) (hcl : ∀ i (hi : i < l.length), l[i].1.cols.length ≤ 9223372036854775807) :
    Calls Try.prog 29 #[.slice lo l.length lc, .int .i64 next] w fun x w' => DOut (fun w o d => CF w o kv d (l.map Prod.fst) (next - 1)) (ldE (l.map Prod.fst) next) kv w o x w' := by
  refine (load_any l lo lc F next w hT hcl).mono ?_
  rintro x w' ⟨⟨h1, h2⟩, t⟩
  refine ⟨fun e => ?_, h2, t⟩
  obtain ⟨d, P, tv, hx, hco⟩ := h1 e
  exact ⟨d, hx, hco.cf (Nat.le_refl _)⟩
theorem rload_x (l : List (Tbl × Value)) (lo : Option Addr) (lc : Nat) (F : Nat → Prop) (next : Int) (hT : TL w F lo l) :
    Calls Try.prog 30 #[.slice lo l.length lc, .int .i64 next] w fun x w' => DOut (fun w o d => RF w o kv d (l.map Prod.fst) (next - 1)) (ldE (l.map Prod.fst) next) kv w o x w' := by
  refine (rload_any l lo lc F next w hT).mono ?_
  rintro x w' ⟨⟨h1, h2⟩, t⟩
  refine ⟨fun e => ?_, h2, t⟩
  obtain ⟨d, P, tv, hx, hro, hd, hbl⟩ := h1 e
  exact ⟨d, hx, RO.rf (by rw [Int.sub_add_cancel]; exact hro) hd hbl⟩
/-- A Put. -/
def POut (X : World → (Nat → Nat) → List Tbl → Int → Prop) (R : Res) (k : Nat) (w : World) (o : Nat → Nat) (x : Ending) (w' : World) : Prop := x = .returned (.int .i64 R.E) ∧ X w' (ext w o k) R.L R.g ∧ Ev (fun j => j = k) w o w' (ext w o k)
theorem Ev.own1 {w' : World} {S : Nat → Prop} (t : Tch S w w') (hS : ∀ i, i < w.heap.size → S i → o i = k) : Ev (fun j => j = k) w o w' (ext w o k) :=
  ⟨t.mono (fun i hi h => hS i hi h), fun i hi _ => if_pos hi, fun i hi e => by show ext w o k i = k; unfold ext; rw [if_pos hi]; exact e, fun i hi _ => if_neg (by omega)⟩
theorem CF.same {w' : World} (h : CF w o k b L gv) (t : Tch (fun _ => False) w w') : CF w' (ext w o k) k b L gv := by
  obtain ⟨P, to, tc, h⟩ := h
  have h1 := h.tch t (fun _ _ h => h.elim)
  refine ⟨P, to, tc, h1.fresh (fun i _ hf => ?_)⟩
  obtain ⟨_, h2⟩ := hf
  unfold ext at h2
  split at h2
  · rename_i hi; exact ⟨hi, h2⟩
  · exact absurd rfl h2
theorem RF.same {w' : World} (h : RF w o k b L gv) (t : Tch (fun _ => False) w w') : RF w' (ext w o k) k b L gv := by
  obtain ⟨P, tv, h, hb, hg⟩ := h
  refine ⟨P, tv, h.tch t (fun _ _ _ h => h), ?_, fun g hgl => ?_⟩
  · show ext w o k b = k
    unfold ext; rw [if_pos (blk_lt h.blk)]; exact hb
  · show ext w o k g = k
    unfold ext; rw [if_pos (h.bl_lt hgl).1]; exact hg g hgl
theorem put_x (h : CF w o k b L gv) (g : GI L gv) (t : Tbl) (ao : Option Addr) (c : Nat) (ht : SL w ao (ccl t.cols)) (hno : ao = none → t.cols = [] ∧ c = 0) (hcap : t.cols.length ≤ c) (hcl : t.cols.length ≤ 9223372036854775807) (hab : ∀ g o, ao = some ⟨g, o, none⟩ → t.cols ≠ [] → g ≠ b) :
    Calls Try.prog 49 #[.pointer (some ⟨b, 0, none⟩), tA t.id t.ver t.nm (.slice ao t.cols.length c) t.key] w fun x w' => POut (CX k b) (putR L gv t) k w o x w' := by
  have hq := h
  obtain ⟨P, to, tc, h0⟩ := h
  obtain ⟨p1, p2⟩ := g.p8 h0.eq
  refine (put_any b L gv P to tc _ t ao c w h0 p1 p2 oth_lt ht hno hcap hcl g.low g.high hab).mono ?_
  rintro x w' ⟨rfl, h1, h2⟩
  unfold putR
  by_cases hE : putE L gv t = 0
  · rw [if_pos hE]
    obtain ⟨P', to', tc', hca, tt⟩ := h1 hE
    refine ⟨by rw [hE], ⟨P', to', tc', hca.fresh (fun i _ hf => ?_)⟩, Ev.own1 tt (fun i _ e => by rw [show i = b from e]; exact h0.ob)⟩
    obtain ⟨_, h2⟩ := hf
    unfold ext at h2
    split at h2
    · rename_i hi; exact ⟨hi, h2⟩
    · exact absurd rfl h2
  · rw [if_neg hE]
    exact ⟨rfl, hq.same (h2 hE), Ev.own1 (h2 hE) (fun _ _ h => h.elim)⟩
theorem rput_x (h : RF w o k b L gv) (g : GI L gv) (t : Tbl) (ao : Option Addr) (c : Nat) (ht : SL w ao (ccl t.cols)) (hno : ao = none → t.cols = [] ∧ c = 0) :
    Calls Try.prog 50 #[.pointer (some ⟨b, 0, none⟩), tA t.id t.ver t.nm (.slice ao t.cols.length c) t.key] w fun x w' => POut (RX k b) (putR L gv t) k w o x w' := by
  have hq := h
  obtain ⟨P, tv, h0, hb0, hg⟩ := h
  obtain ⟨p1, p2⟩ := g.p8 h0.eq
  have q : Calls Try.prog 50 #[.pointer (some ⟨b, 0, none⟩), tA t.id t.ver t.nm (.slice ao t.cols.length c) t.key] w fun x w' => RPut b (putE L gv t) (putL L t) (putG L gv t + 1) P tv w x w' := by
    by_cases hE : putE L gv t = 0
    · rcases posP_cases (fun u => decide (u.id = t.id)) P with ⟨h2, _⟩ | ⟨k, hk, h2, _⟩
      · exact rput_new b L gv P tv t ao c w h0 ht hno p1 g.low g.high hE (by omega)
      · exact rput_in b L gv P tv t ao c w h0 ht hno p1 g.low g.high hE k hk h2
    · exact rput_no b L gv P tv t ao c w h0 ht hno p1 g.low g.high hE
  refine q.mono ?_
  rintro x w' ⟨rfl, h1, h2⟩
  unfold putR
  by_cases hE : putE L gv t = 0
  · rw [if_pos hE]
    obtain ⟨P', tv', hro, hbl, tt⟩ := h1 hE
    have hk2 : ∀ i, i < w.heap.size → (i = b ∨ BL tv P i) → o i = k := fun i _ hi => by
      rcases hi with rfl | hi
      · exact hb0
      · exact hg i hi
    refine ⟨by rw [hE], ⟨P', tv', hro, ?_, fun g' hg' => ?_⟩, Ev.own1 tt hk2⟩
    · show ext w o k b = k
      unfold ext; rw [if_pos (blk_lt h0.blk)]; exact hb0
    · show ext w o k g' = k
      unfold ext
      rcases hbl g' hg' with h5 | h5
      · rw [if_pos (h0.bl_lt h5).1]; exact hg g' h5
      · rw [if_neg (by omega)]
  · rw [if_neg hE]
    exact ⟨rfl, hq.same (h2 hE), Ev.own1 (h2 hE) (fun _ _ h => h.elim)⟩
theorem next_x (h : CF w o k b L gv) (g : GI L gv) : Calls Try.prog 15 #[.pointer (some ⟨b, 0, none⟩)] w fun x w' => x = .returned (.int .i64 (gv + 1)) ∧ w' = w := by
  obtain ⟨P, to, tc, h0⟩ := h
  exact next_any b gv w (by rw [blk_cell h0.blk]; rfl) g.low (by have := g.high; omega)
theorem rnext_x (h : RF w o k b L gv) : Calls Try.prog 11 #[.pointer (some ⟨b, 0, none⟩)] w fun x w' => x = .returned (.int .i64 (gv + 1)) ∧ w' = w := by
  obtain ⟨P, tv, h0, _⟩ := h
  exact Go.Proofs.Ytolamjipigfocaa.rnext_any b (gv + 1) w (by rw [blk_cell h0.blk]; rfl)
end
end Go.Proofs.Ytolamjipigfocaa
