import Derived.Test.YtkcmpipipelgoaaHAt
/- The document's history: its notes in a list; newest, Noted. -/
namespace Go.Proofs.Ytkcmpipipelgoaa
open Go.RowKit Go
set_option maxRecDepth 100000

/-- A note of the document's: from where on, of which number, is it gone, the table, where its columns lie. -/
structure Dn where
  l : Int
  i : Int
  g : Bool
  t : Tbl
  ao : Option Addr
  c : Nat
def Dn.nt (n : Dn) : Nt := ⟨n.l, !n.g, n.t, n.ao, n.c⟩
def Dn.cs (n : Dn) : List Value := [.int .i64 n.l, .int .i64 n.i, .bool n.g, .int .i64 n.t.id, .int .i64 n.t.ver, .string n.t.nm, .slice n.ao n.t.cols.length n.c, .int .i64 n.t.key]
def ncl (L : List Dn) : List Value := L.flatMap Dn.cs
theorem ncl_len : ∀ L : List Dn, (ncl L).length = L.length * 8
  | [] => rfl
  | a :: l => by
    have := ncl_len l
    unfold ncl at this ⊢
    simp only [List.flatMap_cons, List.length_append, this, List.length_cons]
    simp [Dn.cs]; omega
theorem ncl_append (l m : List Dn) : ncl (l ++ m) = ncl l ++ ncl m := by simp [ncl]
theorem ncl_get : ∀ (l : List Dn) (k j : Nat) (n : Dn), l[k]? = some n → j < 8 → (ncl l)[k * 8 + j]? = n.cs[j]?
  | [], k, j, n, hk, _ => by simp at hk
  | a :: l, 0, j, n, hk, hj => by
    unfold ncl
    rw [List.flatMap_cons, Nat.zero_mul, Nat.zero_add, List.getElem?_append_left (by simp [Dn.cs]; omega)]
    simp at hk; rw [hk]
  | a :: l, k + 1, j, n, hk, hj => by
    have := ncl_get l k j n (by simpa using hk) hj
    unfold ncl at this ⊢
    rw [List.flatMap_cons, List.getElem?_append_right (by simp [Dn.cs]; omega)]
    rw [show (k + 1) * 8 + j - a.cs.length = k * 8 + j by simp [Dn.cs]; omega]
    exact this
/-- The place of the newest note of a number that is not above a position, and one more; 0: there is none. -/
def nwK : List Dn → Int → Int → Nat
  | [], _, _ => 0
  | n :: r, x, i => if nwK r x i = 0 then (if n.i = i ∧ n.l ≤ x then 1 else 0) else nwK r x i + 1
theorem nwK_le : ∀ (L : List Dn) (x i : Int), nwK L x i ≤ L.length
  | [], _, _ => Nat.le_refl _
  | n :: r, x, i => by
    have := nwK_le r x i
    unfold nwK
    split
    · split <;> simp
    · simp; omega
theorem nwK_snoc : ∀ (L : List Dn) (n : Dn) (x i : Int), nwK (L ++ [n]) x i = if n.i = i ∧ n.l ≤ x then L.length + 1 else nwK L x i
  | [], n, x, i => by simp [nwK]
  | a :: r, n, x, i => by
    have e := nwK_snoc r n x i
    show (if nwK (r ++ [n]) x i = 0 then (if a.i = i ∧ a.l ≤ x then 1 else 0) else nwK (r ++ [n]) x i + 1) = _
    rw [e]
    by_cases h : n.i = i ∧ n.l ≤ x
    · rw [if_pos h, if_pos h, if_neg (by omega)]
      rfl
    · rw [if_neg h, if_neg h]
      rfl
structure Dh where
  b : Int
  l : Int
  L : List Dn
def ob (lo : Option Addr) : Option Nat := lo.map (·.block)
theorem ob_eq (lo : Option Addr) (n lc : Nat) : (Value.slice lo n lc).ownBlock = ob lo := by cases lo <;> rfl
def own2 (F : Nat → Prop) (b : Nat) (lo : Option Addr) : Nat → Prop := fun g => F g ∨ g = b ∨ ob lo = some g
/-- The document's history at b, its list at lo; none of the blocks F is its own. -/
structure DW (w : World) (F : Nat → Prop) (b : Nat) (lo : Option Addr) (lc : Nat) (h : Dh) : Prop where
  blk : w.heap[b]? = some (.cells #[.int .i64 h.b, .int .i64 h.l, .slice lo h.L.length lc] 86 (0, 0))
  own : w.ownsRow 0 89 8 (.slice lo h.L.length lc) h.L.length (ncl h.L)
  fb : ¬ F b
  fl : ∀ g, ob lo = some g → ¬ F g ∧ g ≠ b ∧ g < w.heap.size
  nt : ∀ n, n ∈ h.L → NtIn w (own2 F b lo) n.nt
/-- .. wherever its list lies. -/
def DF (w : World) (F : Nat → Prop) (b : Nat) (h : Dh) : Prop := ∃ lo lc, DW w F b lo lc h
theorem DW.tch {S F : Nat → Prop} {w w' : World} {b : Nat} {lo : Option Addr} {lc : Nat} {h : Dh} (H : DW w F b lo lc h) (t : Tch S w w') (hS : ∀ g, g < w.heap.size → S g → F g) : DW w' F b lo lc h :=
  { H with
    blk := (t.block b (blk_lt H.blk) (fun e => H.fb (hS _ (blk_lt H.blk) e))).trans H.blk
    own := own_tch H.own t (fun g e e2 => by rw [ob_eq] at e; exact (H.fl g e).1 (hS g (H.fl g e).2.2 e2))
    fl := fun g e => ⟨(H.fl g e).1, (H.fl g e).2.1, Nat.lt_of_lt_of_le (H.fl g e).2.2 t.size⟩
    nt := fun n hn => (H.nt n hn).tch t (fun g hg e => .inl (hS g hg e)) }
theorem DF.tch {S F : Nat → Prop} {w w' : World} {b : Nat} {h : Dh} (H : DF w F b h) (t : Tch S w w') (hS : ∀ g, g < w.heap.size → S g → F g) : DF w' F b h := by
  obtain ⟨lo, lc, H⟩ := H
  exact ⟨lo, lc, H.tch t hS⟩
theorem DF.no {F : Nat → Prop} {w w' : World} {b : Nat} {h : Dh} (H : DF w F b h) (t : Tch (fun _ => False) w w') : DF w' F b h := H.tch t (fun _ _ e => e.elim)
theorem DF.mono {F F' : Nat → Prop} {w : World} {b : Nat} {h : Dh} (H : DF w F b h) (hF : ∀ g, g < w.heap.size → F' g → F g) : DF w F' b h := by
  obtain ⟨lo, lc, H⟩ := H
  exact ⟨lo, lc, { H with
    fb := fun e => H.fb (hF _ (blk_lt H.blk) e)
    fl := fun g e => ⟨fun e2 => (H.fl g e).1 (hF g (H.fl g e).2.2 e2), (H.fl g e).2.1, (H.fl g e).2.2⟩
    nt := fun n hn => (H.nt n hn).mono (fun g hg e => e.elim (fun e => .inl (hF g hg e)) .inr) }⟩
theorem DW.at {w : World} {F : Nat → Prop} {b : Nat} {lo : Option Addr} {lc : Nat} {h : Dh} (H : DW w F b lo lc h) {k : Nat} {n : Dn} (hk : h.L[k]? = some n) : ∃ g, lo = some ⟨g, 0, none⟩ ∧ ∀ j u, n.cs[j]? = some u → j < 8 → w.cell? ⟨g, k * 8 + j, none⟩ = some u := by
  have hlt := (List.getElem?_eq_some_iff.1 hk).1
  obtain ⟨g, e, _, hat⟩ := own_at H.own (by omega)
  refine ⟨g, e, fun j u hu hj => ?_⟩
  have := hat (k * 8 + j) u (by rw [ncl_get _ _ _ _ hk hj]; exact hu)
  rw [Nat.zero_add] at this
  exact this

theorem dnoted_f {w : World} {F : Nat → Prop} {b : Nat} {h : Dh} (H : DF w F b h) :
    Calls Try.prog 40 #[.pointer (some ⟨b, 0, none⟩)] w fun r w' => r = .returned (.int .i64 h.L.length) ∧ w' = w := by
  obtain ⟨lo, lc, H⟩ := H
  have c2 : w.cell? ⟨b, 2, none⟩ = some (.slice lo h.L.length lc) := blk_cell H.blk 2
  clear H
  go_enter Try.func40, Try.ntmps40
  go_wp2_with fail
  go_ret
  exact ⟨rfl, rfl⟩

set_option maxHeartbeats 2000000 in
theorem newest_w {w : World} {F : Nat → Prop} {b : Nat} {lo : Option Addr} {lc : Nat} {h : Dh} (H : DW w F b lo lc h) (x i : Int) (hl : h.L.length ≤ 140737488355328) :
    Calls Try.prog 51 #[.pointer (some ⟨b, 0, none⟩), .int .i64 x, .int .i64 i] w fun r w' => r = .returned (.int .i64 ((nwK h.L x i : Int) - 1)) ∧ w' = w := by
  have HH : Hid (DW w F b lo lc h) := H
  have c2 : w.cell? ⟨b, 2, none⟩ = some (.slice lo h.L.length lc) := blk_cell H.blk 2
  obtain ⟨m, hm⟩ : ∃ m, m = h.L.length := ⟨_, rfl⟩
  rw [← hm] at c2 hl
  have Hm : Hid (m = h.L.length) := hm
  obtain ⟨r, hr⟩ : ∃ r, r = (nwK h.L x i : Int) - 1 := ⟨_, rfl⟩
  have HR : Hid (r = (nwK h.L x i : Int) - 1) := hr
  rw [← hr]
  have HZ : Hid ((-1 : Int) = (nwK (h.L.take 0) x i : Int) - 1) := by show _ = _; simp [nwK]
  clear H hm hr
  go_enter Try.func51, Try.ntmps51
  go_wp2_with fail
  go_loopw [7, 8] (fun s7 s8 wr => ∃ (k : Nat) (p : Int), s7 = .int .i64 p ∧ s8 = .int .i64 k ∧ k ≤ m ∧ wr = w ∧ Hid (p = (nwK (h.L.take k) x i : Int) - 1)) (fun _ s8 _ => m - (intOf s8).toNat)
  case atStart => exact ⟨0, -1, rfl, rfl, by omega, rfl, HZ⟩
  case round =>
    obtain ⟨k, p, rfl, rfl, hk, hwr, HP⟩ := hrel
    subst hwr
    by_cases hlt : (k : Int) < m
    · obtain ⟨n, hn⟩ : ∃ n, h.L[k]? = some n := ⟨_, List.getElem?_eq_getElem (by have := Hm.out; omega)⟩
      obtain ⟨g, rfl, hat⟩ := HH.out.at hn
      have z0 : wr.cell? ⟨g, k * 8, none⟩ = some (.int .i64 n.l) := hat 0 _ rfl (by omega)
      have z1 : wr.cell? ⟨g, k * 8 + 1, none⟩ = some (.int .i64 n.i) := hat 1 _ rfl (by omega)
      have HS : Hid ((nwK (h.L.take (k + 1)) x i : Int) - 1 = if n.i = i ∧ n.l ≤ x then (k : Int) else (nwK (h.L.take k) x i : Int) - 1) := by
        show _ = _
        rw [List.take_add_one, hn]
        show ((nwK (h.L.take k ++ [n]) x i : Nat) : Int) - 1 = _
        rw [nwK_snoc]
        have : (h.L.take k).length = k := by rw [List.length_take]; have := Hm.out; omega
        split
        · omega
        · rfl
      obtain ⟨nl, hnl⟩ : ∃ y, y = n.l := ⟨_, rfl⟩
      obtain ⟨ni, hni⟩ : ∃ y, y = n.i := ⟨_, rfl⟩
      rw [← hnl] at z0 HS
      rw [← hni] at z1 HS
      clear hn hat hnl hni
      by_cases h1 : ni = i
      · subst h1
        by_cases h2 : nl ≤ x
        · have HK : Hid ((k : Int) = (nwK (h.L.take (k + 1)) x ni : Int) - 1) := by show _ = _; rw [HS.out, if_pos ⟨rfl, h2⟩]
          go_wp2_with fail
          go_roundw
          case rel => exact ⟨k + 1, k, rfl, by go_num, by omega, trivial, HK⟩
          case measure => simp [intOf]; omega
        · have HK : Hid (p = (nwK (h.L.take (k + 1)) x ni : Int) - 1) := by show _ = _; rw [HS.out, if_neg (fun e => h2 e.2)]; exact HP.out
          go_wp2_with fail
          go_roundw
          case rel => exact ⟨k + 1, p, rfl, by go_num, by omega, trivial, HK⟩
          case measure => simp [intOf]; omega
      · have HK : Hid (p = (nwK (h.L.take (k + 1)) x i : Int) - 1) := by show _ = _; rw [HS.out, if_neg (fun e => h1 e.1)]; exact HP.out
        go_wp2_with fail
        go_roundw
        case rel => exact ⟨k + 1, p, rfl, by go_num, by omega, trivial, HK⟩
        case measure => simp [intOf]; omega
    · have HK : Hid (p = r) := by
        show _ = _
        rw [HP.out, HR.out, List.take_of_length_le (by have := Hm.out; omega)]
      go_wp2_with fail
      go_ret
      exact ⟨by rw [HK.out]; rfl, rfl⟩
end Go.Proofs.Ytkcmpipipelgoaa
/- The document's copied and right. -/
namespace Go.Proofs.Ytkcmpipipelgoaa
open Go.RowKit Go

set_option maxHeartbeats 2000000 in
set_option maxRecDepth 100000 in
theorem dcopied_any (t : Tbl) (ao : Option Addr) (c : Nat) (w : World) (h : SL w ao (ccl t.cols)) (hno : ao = none → t.cols = [] ∧ c = 0) (hlen : t.cols.length * 32 ≤ 140737488351232) :
    Calls Try.prog 30 #[tA t.id t.ver t.nm (.slice ao t.cols.length c) t.key] w fun x w' => (∃ v, x = .returned (tA t.id t.ver t.nm v t.key) ∧ w'.ownsRow w.heap.size 80 3 v t.cols.length (ccl t.cols)) ∧ Tch (fun _ => False) w w' := by
  obtain ⟨N, hN⟩ : ∃ N, N = w.heap.size := ⟨_, rfl⟩
  obtain ⟨w0, hw0⟩ : ∃ w0, w0 = (w.alloc (.cells #[.int .i64 t.id, .int .i64 t.ver, .string t.nm, .slice ao t.cols.length c, .int .i64 t.key] 36)).alloc (.cells #[.int .i64 0, .int .i64 0, .string ⟨#[]⟩, .slice none 0 0, .int .i64 0] 36) := ⟨_, rfl⟩
  have t0 : Tch (fun _ => False) w w0 := by rw [hw0]; exact (Tch.alloc _ _ _).allocR _
  obtain ⟨i0, hi0, hz0, hz1, hz2⟩ := info_parts info_col
  have hX0 : w0.heap[N]? = some (.cells #[.int .i64 t.id, .int .i64 t.ver, .string t.nm, .slice ao t.cols.length c, .int .i64 t.key] 36 (0, 0)) := by
    rw [hw0, hN]
    exact (Tch.alloc (fun _ => False) _ _).block _ (by simp) (fun h => h) |>.trans (alloc_new _ _)
  have x3' : w0.cell? ⟨N, 3, none⟩ = some (.slice ao t.cols.length c) := by rw [blk_cell hX0]; rfl
  have hsl := h.no t0
  have hsz : w.heap.size ≤ w0.heap.size := t0.size
  have Hw0 : Hid _ := hw0
  have HN : Hid (N = w.heap.size) := hN
  rw [hw0, hN] at x3'
  clear h hw0 hN hX0
  have hrs : Try.f30.results = #[.cell 2 36] := by kernel_rfl
  have HXY : Hid (∀ W, Tch (fun _ => False) w0 W → ((W.cell? ⟨w.heap.size, 0, none⟩ = some (.int .i64 t.id) ∧ W.cell? ⟨w.heap.size, 1, none⟩ = some (.int .i64 t.ver) ∧ W.cell? ⟨w.heap.size, 2, none⟩ = some (.string t.nm) ∧ W.cell? ⟨w.heap.size, 3, none⟩ = some (.slice ao t.cols.length c) ∧ W.cell? ⟨w.heap.size, 4, none⟩ = some (.int .i64 t.key)) ∧ W.cell? ⟨w.heap.size + 1, 0, none⟩ = some (.int .i64 0) ∧ W.cell? ⟨w.heap.size + 1, 1, none⟩ = some (.int .i64 0) ∧ W.cell? ⟨w.heap.size + 1, 2, none⟩ = some (.string ⟨#[]⟩) ∧ W.cell? ⟨w.heap.size + 1, 3, none⟩ = some (.slice none 0 0) ∧ W.cell? ⟨w.heap.size + 1, 4, none⟩ = some (.int .i64 0)) ∧ W.frozen? ⟨w.heap.size, 3, none⟩ = false ∧ W.frozen? ⟨w.heap.size + 1, 0, none⟩ = false ∧ W.frozen? ⟨w.heap.size + 1, 1, none⟩ = false ∧ W.frozen? ⟨w.heap.size + 1, 2, none⟩ = false ∧ W.frozen? ⟨w.heap.size + 1, 3, none⟩ = false ∧ W.frozen? ⟨w.heap.size + 1, 4, none⟩ = false) := fun W tW => by
    have hs0 : w0.heap.size = w.heap.size + 2 := by rw [Hw0.out, World.size_alloc, World.size_alloc]
    have hX : W.heap[w.heap.size]? = some (.cells #[.int .i64 t.id, .int .i64 t.ver, .string t.nm, .slice ao t.cols.length c, .int .i64 t.key] 36 (0, 0)) := by
      rw [tW.block _ (by omega) (fun h => h), Hw0.out]
      exact (Tch.alloc (fun _ => False) _ _).block _ (by simp) (fun h => h) |>.trans (alloc_new _ _)
    have hY : W.heap[w.heap.size + 1]? = some (.cells #[.int .i64 0, .int .i64 0, .string ⟨#[]⟩, .slice none 0 0, .int .i64 0] 36 (0, 0)) := by
      rw [tW.block _ (by omega) (fun h => h), Hw0.out, ← World.size_alloc]; exact alloc_new _ _
    exact ⟨⟨⟨by rw [blk_cell hX]; rfl, by rw [blk_cell hX]; rfl, by rw [blk_cell hX]; rfl, by rw [blk_cell hX]; rfl, by rw [blk_cell hX]; rfl⟩, by rw [blk_cell hY]; rfl, by rw [blk_cell hY]; rfl, by rw [blk_cell hY]; rfl, by rw [blk_cell hY]; rfl, by rw [blk_cell hY]; rfl⟩, blk_frozen hX 3, blk_frozen hY 0, blk_frozen hY 1, blk_frozen hY 2, blk_frozen hY 3, blk_frozen hY 4⟩
  have Ht0 : Hid _ := t0
  rcases ao with _ | ad
  · obtain ⟨hc0, rfl⟩ := hno rfl
    have hl0 : t.cols.length = 0 := by rw [hc0]; rfl
    have HV0 : Hid (∀ W : World, W.ownsRow w.heap.size 80 3 (.slice none 0 0) 0 (ccl t.cols)) := fun W => by rw [hc0]; exact World.ownsRow_nil _ _ _ _
    rw [hl0] at x3' ⊢
    clear hl0 hc0 hno hsl hsz hlen HXY t0
    go_enter Try.func30, Try.ntmps30
    go_wp2_with fail
    refine bodyPost_ret (v := tA t.id t.ver t.nm (.slice none 0 0) t.key) (by simp only [results, hrs]; go_simp) rfl ⟨⟨_, rfl, HV0.out _⟩, ?_⟩
    exact (Tch.alloc _ _ _).allocR _
  · have hnews : ∀ j u, (ccl t.cols)[j]? = some u → w0.cell? (ad.add j) = some u := fun j u hu => by
      have hne : ccl t.cols ≠ [] := by rintro e; rw [e] at hu; simp at hu
      obtain ⟨g, o, e, hat⟩ := hsl hne
      injection e with e
      subst e
      rw [add_plain]
      exact hat j u hu
    clear hsl t0
    go_enter Try.func30, Try.ntmps30
    go_wp2_with (at_builtin; have hw0 := Hw0.out; rw [← hw0]; clear hw0; refine wpList_append_keeps _ rfl _ _ 34 rfl w.heap.size 80 i0 (.agg #[.string ⟨#[]⟩, .int .i64 0, .bool false]) 3 32 Try.underlying34 hi0 hz0 hz1 hz2 rfl (by decide) (.slice none 0 0) 0 [] rfl (World.ownsRow_nil _ _ _ _) ad t.cols.length c (ccl t.cols) rfl (ccl_len t.cols) hnews (ccl_one t.cols) (by unfold maxLen; omega) (by omega) hsz ?_; intro v' w1 hown' hgr hat hnil; have HF : Hid (w1.ownsRow w.heap.size 80 3 v' t.cols.length (ccl t.cols)) := (by have h1 := hown'; rw [Nat.zero_add, List.nil_append] at h1; exact h1); have HT1 : Hid (Tch (fun _ => False) w0 w1) := ((grown_at (Tch.refl (fun _ => False) w0) hgr).mono (fun i _ e => by cases e)); have hat' : Hid (v'.ownBlock = none ∨ v'.ownBlock = some w0.heap.size) := hat; obtain ⟨o1, c1, hv1⟩ := row_slice HF.out; subst hv1; obtain ⟨⟨⟨x0, x1, x2, x3, x4⟩, y0, y1, y2, y3, y4⟩, f3, g0, g1, g2, g3, g4⟩ := HXY.out w1 HT1.out)
    have HV : Hid (∀ W, Tch (fun i => i = w.heap.size ∨ i = w.heap.size + 1) w1 W → W.ownsRow w.heap.size 80 3 (.slice o1 t.cols.length c1) t.cols.length (ccl t.cols)) := fun W tW => own_tch HF.out tW (fun g e h => by
      have hs0 : w0.heap.size = w.heap.size + 2 := by rw [Hw0.out, World.size_alloc, World.size_alloc]
      rcases hat'.out with e2 | e2
      · rw [e2] at e; cases e
      · rw [e2] at e; injection e with e; omega)
    have HT : Hid (∀ W, Tch (fun i => i = w.heap.size ∨ i = w.heap.size + 1) w1 W → Tch (fun _ => False) w W) := fun W tW => (Ht0.out.trans' HT1.out).trans tW (fun i hi h => by omega)
    refine bodyPost_ret (v := tA t.id t.ver t.nm (.slice o1 t.cols.length c1) t.key) (by simp only [results, hrs]; go_simp) rfl ⟨⟨.slice o1 t.cols.length c1, rfl, HV.out _ ?_⟩, HT.out _ ?_⟩
    all_goals exact (((((Tch.setCell (fun i => i = w.heap.size ∨ i = w.heap.size + 1) w1 ⟨w.heap.size, 3, none⟩ _ (Or.inl rfl)).setCellR ⟨w.heap.size + 1, 0, none⟩ _ (Or.inr rfl)).setCellR ⟨w.heap.size + 1, 1, none⟩ _ (Or.inr rfl)).setCellR ⟨w.heap.size + 1, 2, none⟩ _ (Or.inr rfl)).setCellR ⟨w.heap.size + 1, 3, none⟩ _ (Or.inr rfl)).setCellR ⟨w.heap.size + 1, 4, none⟩ _ (Or.inr rfl)
set_option maxHeartbeats 2000000 in
set_option maxRecDepth 100000 in
theorem dright_any (t : Tbl) (ao : Option Addr) (c : Nat) (w : World) (h : SL w ao (ccl t.cols)) :
    Calls Try.prog 29 #[tA t.id t.ver t.nm (.slice ao t.cols.length c) t.key] w fun r w' => r = .returned (.bool (decide (rightE t = 0))) ∧ Tch (fun _ => False) w w' := by
  obtain ⟨N, hN⟩ : ∃ N, N = w.heap.size := ⟨_, rfl⟩
  obtain ⟨w1, hw1⟩ : ∃ w1, w1 = w.alloc (.cells #[.int .i64 t.id, .int .i64 t.ver, .string t.nm, .slice ao t.cols.length c, .int .i64 t.key] 36) := ⟨_, rfl⟩
  have t1 : Tch (fun _ => False) w w1 := by rw [hw1]; exact Tch.alloc _ _ _
  have bN : w1.heap[N]? = some (.cells #[.int .i64 t.id, .int .i64 t.ver, .string t.nm, .slice ao t.cols.length c, .int .i64 t.key] 36 (0, 0)) := by rw [hw1, hN]; exact alloc_new _ _
  have q1 := rright_any t ao c w1 (h.no t1)
  obtain ⟨rt, hrt⟩ : ∃ rt, rt = rightE t := ⟨_, rfl⟩
  rw [← hrt] at q1 ⊢
  have HT1 : Hid (Tch (fun _ => False) w w1) := t1
  have HW1 : Hid (w1 = _) := hw1
  have HN : Hid (N = w.heap.size) := hN
  have x0 : w1.cell? ⟨N, 0, none⟩ = some (.int .i64 t.id) := blk_cell bN 0
  have x1 : w1.cell? ⟨N, 1, none⟩ = some (.int .i64 t.ver) := blk_cell bN 1
  have x2 : w1.cell? ⟨N, 2, none⟩ = some (.string t.nm) := blk_cell bN 2
  have x3 : w1.cell? ⟨N, 3, none⟩ = some (.slice ao t.cols.length c) := blk_cell bN 3
  have x4 : w1.cell? ⟨N, 4, none⟩ = some (.int .i64 t.key) := blk_cell bN 4
  clear hw1 hN hrt t1 bN h
  go_enter Try.func29, Try.ntmps29
  go_upto_region 1 with (fail)
  rw [← HW1.out, ← HN.out]
  go_wp2_with fail
  refine q1.mono ?_
  rintro e w2 ⟨rfl, t2⟩
  clear q1 x0 x1 x2 x3 x4
  have HT2 : Hid (Tch (fun _ => False) w w2) := HT1.out.trans' t2
  clear t2
  by_cases hr : rt = 0
  · have hrb : (rt == 0) = true := by simp [hr]
    have HR : Hid (decide (rt = 0) = true) := by show _ = _; simp [hr]
    clear hr
    go_wp2_with fail
    go_ret
    exact ⟨by rw [HR.out]; rfl, HT2.out⟩
  · have hrb : (rt == 0) = false := by simp [hr]
    have HR : Hid (decide (rt = 0) = false) := by show _ = _; simp [hr]
    clear hr
    go_wp2_with fail
    go_ret
    exact ⟨by rw [HR.out]; rfl, HT2.out⟩
end Go.Proofs.Ytkcmpipipelgoaa
/- The document's At and Gone. -/
namespace Go.Proofs.Ytkcmpipipelgoaa
open Go.RowKit Go
set_option maxRecDepth 100000

/-- What was, by the document's list. -/
def dwas (L : List Dn) (x i : Int) : Nt := if nwK L x i = 0 then ntZ else ((L[nwK L x i - 1]?).map Dn.nt).getD ntZ
def datE (h : Dh) (x i : Int) : Int := if x < h.b then 170 else if (dwas h.L x i).th = true then 0 else 170
def datT (h : Dh) (x i : Int) : Tbl := if datE h x i = 0 then (dwas h.L x i).t else tblZ
theorem dwas_zero {L : List Dn} {x i : Int} (h : nwK L x i = 0) : dwas L x i = ntZ := if_pos h
theorem dwas_some {L : List Dn} {x i : Int} {k : Nat} {n : Dn} (h : nwK L x i = k + 1) (hn : L[k]? = some n) : dwas L x i = n.nt := by
  unfold dwas
  rw [if_neg (by omega), h, show k + 1 - 1 = k by omega, hn]
  rfl

set_option maxHeartbeats 2000000 in
theorem dat_f {w : World} {F : Nat → Prop} {b : Nat} {h : Dh} (H : DF w F b h) (x i : Int) (hl : h.L.length ≤ 140737488355328) :
    Calls Try.prog 34 #[.pointer (some ⟨b, 0, none⟩), .int .i64 x, .int .i64 i] w fun r w' => AtOut (datT h x i) (datE h x i) w.heap.size r w' ∧ Tch (fun _ => False) w w' := by
  obtain ⟨lo, lc, H⟩ := H
  obtain ⟨N, hN⟩ : ∃ N, N = w.heap.size := ⟨_, rfl⟩
  obtain ⟨w1, hw1⟩ : ∃ w1, w1 = w.alloc (.cells #[.int .i64 0, .int .i64 0, .string ⟨#[]⟩, .slice none 0 0, .int .i64 0] 36) := ⟨_, rfl⟩
  have t1 : Tch (fun _ => False) w w1 := by rw [hw1]; exact Tch.alloc _ _ _
  have bN : w1.heap[N]? = some (.cells #[.int .i64 0, .int .i64 0, .string ⟨#[]⟩, .slice none 0 0, .int .i64 0] 36 (0, 0)) := by rw [hw1, hN]; exact alloc_new _ _
  have H1 := H.tch t1 (fun _ _ e => e.elim)
  have q1 := newest_w H1 x i hl
  have HE : Hid (datE h x i = if x < h.b then 170 else if (dwas h.L x i).th = true then 0 else 170) := rfl
  have HA : Hid (datT h x i = if datE h x i = 0 then (dwas h.L x i).t else tblZ) := rfl
  have HH1 : Hid (DW w1 F b lo lc h) := H1
  have HB1 : Hid _ := bN
  have HT1 : Hid (Tch (fun _ => False) w w1) := t1
  have HW1 : Hid (w1 = _) := hw1
  have HN : Hid (N = w.heap.size) := hN
  have HK : Hid (nwK h.L x i ≤ h.L.length) := nwK_le _ _ _
  have c0 : w1.cell? ⟨b, 0, none⟩ = some (.int .i64 h.b) := blk_cell H1.blk 0
  have c2 : w1.cell? ⟨b, 2, none⟩ = some (.slice lo h.L.length lc) := blk_cell H1.blk 2
  obtain ⟨m, hm⟩ : ∃ m, m = h.L.length := ⟨_, rfl⟩
  rw [← hm] at c2 hl HK
  have Hm : Hid (m = h.L.length) := hm
  obtain ⟨hb, hhb⟩ : ∃ y, y = h.b := ⟨_, rfl⟩
  rw [← hhb] at c0 HE
  obtain ⟨p, hp⟩ : ∃ p, p = (nwK h.L x i : Int) - 1 := ⟨_, rfl⟩
  rw [← hp] at q1
  have HP : Hid (p = (nwK h.L x i : Int) - 1) := hp
  have hrs : Try.f34.results = #[.cell 6 36, .tmp 7] := by kernel_rfl
  have y0 : w1.cell? ⟨N, 0, none⟩ = some (.int .i64 0) := blk_cell bN 0
  have y1 : w1.cell? ⟨N, 1, none⟩ = some (.int .i64 0) := blk_cell bN 1
  have y2 : w1.cell? ⟨N, 2, none⟩ = some (.string ⟨#[]⟩) := blk_cell bN 2
  have y3 : w1.cell? ⟨N, 3, none⟩ = some (.slice none 0 0) := blk_cell bN 3
  have y4 : w1.cell? ⟨N, 4, none⟩ = some (.int .i64 0) := blk_cell bN 4
  have yf := blk_frozen bN
  have HFin : Hid (datE h x i = 170 → datT h x i = tblZ) := fun e => by rw [HA.out, e]; rfl
  clear hw1 hN t1 bN H H1 hm hhb hp
  go_enter Try.func34, Try.ntmps34
  go_upto_region 1 with (fail)
  rw [← HW1.out, ← HN.out]
  go_wp2_with fail
  refine q1.mono ?_
  rintro e w2 ⟨rfl, hw2⟩
  subst hw2
  clear q1
  by_cases hlt : x < hb
  · have HE0 : Hid (datE h x i = 170) := by show _ = _; rw [HE.out, if_pos hlt]
    go_wp2_with fail
    rw [HFin.out HE0.out, HE0.out]
    refine bodyPost_ret (res_pair hrs rfl rfl (set5 HB1.out _ _ _ _ _)) rfl ⟨⟨_, rfl, rfl, .inl ⟨rfl, rfl⟩⟩, HT1.out.trans (tch5 _ N _ _ _ _ _) (fun g hg e => by have := HN.out; have e' : g = N := e; omega)⟩
  · rcases Nat.eq_zero_or_pos (nwK h.L x i) with h0 | h0
    · have HE0 : Hid (datE h x i = 170) := by show _ = _; rw [HE.out, if_neg hlt, dwas_zero h0]; rfl
      have hp1 : p = -1 := by rw [HP.out, h0]; rfl
      subst hp1
      clear h0
      go_wp2_with fail
      rw [HFin.out HE0.out, HE0.out]
      refine bodyPost_ret (res_pair hrs rfl rfl (set5 HB1.out _ _ _ _ _)) rfl ⟨⟨_, rfl, rfl, .inl ⟨rfl, rfl⟩⟩, HT1.out.trans (tch5 _ N _ _ _ _ _) (fun g hg e => by have := HN.out; have e' : g = N := e; omega)⟩
    · obtain ⟨k, hk⟩ : ∃ k, nwK h.L x i = k + 1 := ⟨nwK h.L x i - 1, by omega⟩
      have hpk : p = (k : Int) := by rw [HP.out, hk]; omega
      have hkm : k < m := by have := HK.out; omega
      have hkm' : (k : Int) < (m : Int) := by omega
      have hk0 : ¬ (k : Int) < 0 := by omega
      obtain ⟨n, hn⟩ : ∃ n, h.L[k]? = some n := ⟨_, List.getElem?_eq_getElem (by have := Hm.out; omega)⟩
      have HD : Hid (dwas h.L x i = n.nt) := dwas_some hk hn
      have hin : NtIn w2 (own2 F b lo) n.nt := HH1.out.nt n (List.mem_of_getElem? hn)
      have HI : Hid (NtIn w2 (own2 F b lo) n.nt) := hin
      obtain ⟨g, hg, hat⟩ := HH1.out.at hn
      have z2 : w2.cell? ⟨g, k * 8 + 2, none⟩ = some (.bool n.g) := hat 2 _ rfl (by omega)
      have z3 : w2.cell? ⟨g, k * 8 + 3, none⟩ = some (.int .i64 n.t.id) := hat 3 _ rfl (by omega)
      have z4 : w2.cell? ⟨g, k * 8 + 4, none⟩ = some (.int .i64 n.t.ver) := hat 4 _ rfl (by omega)
      have z5 : w2.cell? ⟨g, k * 8 + 5, none⟩ = some (.string n.t.nm) := hat 5 _ rfl (by omega)
      have z6 : w2.cell? ⟨g, k * 8 + 6, none⟩ = some (.slice n.ao n.t.cols.length n.c) := hat 6 _ rfl (by omega)
      have z7 : w2.cell? ⟨g, k * 8 + 7, none⟩ = some (.int .i64 n.t.key) := hat 7 _ rfl (by omega)
      subst hpk
      subst hg
      have HE' : Hid (datE h x i = if n.g = true then 170 else 0) := by
        show _ = _
        rw [HE.out, if_neg hlt, HD.out]
        cases hg : n.g <;> simp [Dn.nt, hg]
      obtain ⟨ng, hng⟩ : ∃ y, y = n.g := ⟨_, rfl⟩
      rw [← hng] at z2 HE'
      have q2 := dcopied_any n.t n.ao n.c w2 hin.sl hin.no (by have : n.t.cols.length ≤ 8 := hin.le; omega)
      clear hn hat h0 hk hin hng
      cases ng with
      | true =>
        have HE0 : Hid (datE h x i = 170) := HE'.out
        clear q2
        go_wp2_with fail
        rw [HFin.out HE0.out, HE0.out]
        refine bodyPost_ret (res_pair hrs rfl rfl (set5 HB1.out _ _ _ _ _)) rfl ⟨⟨_, rfl, rfl, .inl ⟨rfl, rfl⟩⟩, HT1.out.trans (tch5 _ N _ _ _ _ _) (fun g hg e => by have := HN.out; have e' : g = N := e; omega)⟩
      | false =>
        have HE0 : Hid (datE h x i = 0) := HE'.out
        have HA0 : Hid (datT h x i = n.t) := by show _ = _; rw [HA.out, if_pos HE0.out, HD.out]; rfl
        clear y0 y1 y2 y3 y4 yf
        go_wp2_with fail
        refine q2.mono ?_
        rintro e w4 ⟨⟨v, rfl, hv⟩, t4⟩
        obtain ⟨vo, vc, rfl⟩ := row_slice hv
        have b4 := (t4.block N (blk_lt HB1.out) (fun e => e)).trans HB1.out
        have HB4 : Hid _ := b4
        have HT4 : Hid (Tch (fun _ => False) w2 w4) := t4
        have HV : Hid (w4.ownsRow w2.heap.size 80 3 (.slice vo n.t.cols.length vc) n.t.cols.length (ccl n.t.cols)) := hv
        have y0 : w4.cell? ⟨N, 0, none⟩ = some (.int .i64 0) := blk_cell b4 0
        have y1 : w4.cell? ⟨N, 1, none⟩ = some (.int .i64 0) := blk_cell b4 1
        have y2 : w4.cell? ⟨N, 2, none⟩ = some (.string ⟨#[]⟩) := blk_cell b4 2
        have y3 : w4.cell? ⟨N, 3, none⟩ = some (.slice none 0 0) := blk_cell b4 3
        have y4 : w4.cell? ⟨N, 4, none⟩ = some (.int .i64 0) := blk_cell b4 4
        have yf := blk_frozen b4
        clear q2 z2 z3 z4 z5 z6 z7 b4 t4 hv c0 c2
        go_wp2_with fail
        rw [HE0.out, HA0.out]
        have t5 := tch5 w4 N (.int .i64 n.t.id) (.int .i64 n.t.ver) (.string n.t.nm) (.slice vo n.t.cols.length vc) (.int .i64 n.t.key)
        have hN3 : N < w2.heap.size := blk_lt HB1.out
        have hw3 := HT1.out.size
        refine bodyPost_ret (res_pair hrs rfl rfl (set5 HB4.out _ _ _ _ _)) rfl ⟨⟨_, rfl, own_low (own_tch HV.out t5 (fun g e e' => by have := row_ge HV.out e; have e2 : g = N := e'; omega)) hw3⟩, (HT1.out.trans' HT4.out).trans t5 (fun g hg e => by have := HN.out; have e' : g = N := e; omega)⟩
end Go.Proofs.Ytkcmpipipelgoaa
