import Derived.Test.YtdbaafigmfclcaaTTree
/- Put of a tree. -/
namespace Go.Proofs.Ytdbaafigmfclcaa
open Go.RowKit Go

def PutOut (w : World) (b : Nat) (l : List It) (F : List Nat) (k : ByteArray) (v : GV) (x : Ending) (w' : World) : Prop := ∃ (l' : List It) (ht' : Nat) (F' : List Nat) (old : GV) (th : Bool), x = .returned (.tuple #[ev old, .bool th]) ∧ TW w' b l' ht' F' ∧ PutRel k v l l' old th ∧ Fits w.heap.size F F' ∧ Tch (fun i => i ∈ F) w w'
theorem PutRel.sorted {k : ByteArray} {v old : GV} {l l' : List It} {th : Bool} (h : PutRel k v l l' old th) (hs : Sorted l) : Sorted l' := by
  have hL : ∀ e, Lo k e → KL e (k, v) := fun e he => he
  have hG : ∀ e, Hi k e → KL (k, v) e := fun e he => by
    have := kc_flip e.1 k
    unfold Hi at he
    unfold KL
    show kc k e.1 < 0
    omega
  rcases h with ⟨_, h⟩ | ⟨_, _, h⟩
  · exact h.sorted hs hL hG
  · exact h.sorted hs hL hG
/-- A root and the blocks of what is under it. -/
theorem nod_cons {b : Nat} {G G' : List Nat} {n : Nat} (hn : Nod (b :: G)) (hf : Fits n G G') (hb : b < n) : Nod (b :: G') ∧ Fits n (b :: G) (b :: G') := by
  have hf' : Fits n (b :: G) (b :: G') := fun x => by
    have h1 := hf x
    have h2 := hn x
    rw [List.count_cons] at h2
    rw [List.count_cons, List.count_cons]
    constructor
    · intro hx; have := h1.1 hx; omega
    · intro hx
      have e : (b == x) = false := by simp; omega
      simp [e]
      exact h1.2 hx
  exact ⟨hf'.nod hn, hf'⟩
theorem nod_tail {b : Nat} {G : List Nat} (hn : Nod (b :: G)) : Nod G ∧ b ∉ G := by
  refine ⟨fun x => ?_, fun hb => ?_⟩
  · have := hn x; rw [List.count_cons] at this; omega
  · have h1 := hn b
    rw [List.count_cons, beq_self_eq_true, if_pos rfl] at h1
    have := count_mem hb
    omega
set_option maxHeartbeats 4000000 in
set_option maxRecDepth 100000 in
theorem put_root (h : Nat) (w : World) (b p : Nat) (t : Nd It h) (G : List Nat) (k : ByteArray) (v : GV) (hb : w.heap[b]? = some (.cells #[pv p] 64 (0, 0))) (hN : NW h w p t G) (hn : Nod (b :: G)) (hs : t.sub) (hl : t.its.length ≤ 15) (hso : Sorted (t.flat h)) (hsz : (t.flat h).length < 900000000000000000) (hone : 1 ≤ t.its.length ∨ h = 0) :
    Calls Try.prog 9 #[pv b, .string k, ev v] w fun x w' => PutOut w b (t.flat h) (b :: G) k v x w' := by
  obtain ⟨hnG, hbG⟩ := nod_tail hn
  have q := put_any h w p k v t G hN hnG hs hl hso (by omega)
  have c0 : w.cell? ⟨b, 0, none⟩ = some (pv p) := by rw [blk_cell hb]; rfl
  have Hb : Hid (w.heap[b]? = some (.cells #[pv p] 64 (0, 0))) := hb
  have Hn : Hid (Nod (b :: G)) := hn
  have HbG : Hid (b ∉ G) := hbG
  have HnG : Hid (Nod G) := hnG
  have Hso : Hid (Sorted (t.flat h)) := hso
  have Hsz : Hid ((t.flat h).length < 900000000000000000) := hsz
  clear hb hN hn hs hl hso hsz hnG hbG
  go_enter Try.func9, Try.ntmps9
  go_wp2_with fail
  clear c0
  refine q.mono ?_
  rintro x w1 ⟨t', G', old, th, rfl, nk, fk, tk, sk, lk, lk', pr⟩
  have hb1 : w1.heap[b]? = some (.cells #[pv p] 64 (0, 0)) := by rw [tk.block b (blk_lt Hb.out) HbG.out]; exact Hb.out
  have c0 : w1.cell? ⟨b, 0, none⟩ = some (pv p) := by rw [blk_cell hb1]; rfl
  obtain ⟨iv, kv, qs, FF, hP, hK, hFe⟩ := NW_iff.1 nk
  obtain ⟨io, ic, rfl⟩ := row_slice hP.its
  have c1 := hP.nd.cells.1
  obtain ⟨n, hnn⟩ : ∃ n, n = t'.its.length := ⟨_, rfl⟩
  rw [← hnn] at c1
  have Hnn : Hid (n = t'.its.length) := hnn
  obtain ⟨nodG', fits'⟩ := nod_cons Hn.out fk (blk_lt Hb.out)
  have htc : Tch (fun i => i ∈ b :: G) w w1 := tk.mono (fun i _ hi => by simp [hi])
  have hsl := pr.sorted Hso.out
  have X : Hid (NW h w1 p t' G' ∧ t'.sub ∧ PutRel k v (t.flat h) (t'.flat h) old th ∧ Nod (b :: G') ∧ Fits w.heap.size (b :: G) (b :: G') ∧ Tch (fun i => i ∈ b :: G) w w1 ∧ Sorted (t'.flat h)) := ⟨nk, sk, pr, nodG', fits', htc, hsl⟩
  have Hb1 : Hid (w1.heap[b]? = some (.cells #[pv p] 64 (0, 0))) := hb1
  have hpos : 1 ≤ (t'.flat h).length := by
    rcases pr with ⟨_, x, y, _, _, _, e⟩ | ⟨_, _, x, y, _, _, _, e⟩
    · rw [e]; simp; omega
    · rw [e]; simp; omega
  have hits : 1 ≤ t'.its.length := by
    rcases hone with h1 | rfl
    · omega
    · exact hpos
  have Hits : Hid (1 ≤ t'.its.length) := hits
  have hlen : (t'.flat h).length ≤ (t.flat h).length + 1 := by
    rcases pr with ⟨_, hi⟩ | ⟨_, _, hi⟩
    · have := hi.len; omega
    · have := hi.len; omega
  rcases Nat.lt_or_ge 15 n with h16 | h16
  · have h16i : (15 : Int) < n := by omega
    have qa := above_any h w1 p t' G' nk (nod_tail nodG').1 sk (by omega) (by have := Hsz.out; omega)
    have f0 := blk_frozen hb1 0
    clear nk fk tk sk lk lk' pr hP hK hFe hnn nodG' fits' htc hsl hpos hits hlen hb1 hone q
    go_wp2_with fail
    refine qa.mono ?_
    rintro x w2 ⟨N, t2, G2, rfl, n2, ok2, i2, fl2, fi2, tc2⟩
    obtain ⟨x1, x2, x3, x4, x5, x6, x7⟩ := X.out
    have hbG' : b ∉ G' := (nod_tail x4).2
    have hb2 : w2.heap[b]? = some (.cells #[pv p] 64 (0, 0)) := by rw [tc2.block b (blk_lt Hb1.out) hbG']; exact Hb1.out
    have c2 : w2.cell? ⟨b, 0, none⟩ = some (pv p) := by rw [blk_cell hb2]; rfl
    have f2 := blk_frozen hb2 0
    obtain ⟨y1, y2⟩ := nod_cons x4 fi2 (blk_lt Hb1.out)
    have hbG2 : b ∉ G2 := (nod_tail y1).2
    have ts : Tch (fun i => i = b) w2 (w2.setCell ⟨b, 0, none⟩ (pv N)) := Tch.setCell _ _ _ _ rfl
    have hb3 : (w2.setCell ⟨b, 0, none⟩ (pv N)).heap[b]? = some (.cells #[pv N] 64 (0, 0)) := by rw [blk_set hb2]; rfl
    have HF : Hid (PutOut w b (t.flat h) (b :: G) k v (.returned (.tuple #[ev old, .bool th])) (w2.setCell ⟨b, 0, none⟩ (pv N))) := ⟨t2.flat (h + 1), h + 2, b :: G2, old, th, rfl, ⟨y1, by rw [fl2]; exact x7, Or.inr ⟨h + 1, t2, N, G2, rfl, hb3, n2.tch ts (fun x hx e => hbG2 (e ▸ hx)), ok2, by omega, rfl, rfl⟩⟩, by rw [fl2]; exact x3, x5.trans y2 x6.size, (x6.trans tc2 (fun i hi hm => by
      rcases x5.old (List.mem_cons_of_mem b hm) with h6 | h6
      · exact h6
      · omega)).trans ts (fun i hi e => by rw [e]; simp)⟩
    clear x1 x2 x3 x4 x5 x6 x7 hb2 y1 y2 ts hb3 n2 ok2 i2 fl2 fi2 tc2 qa c0 c1 hbG' hbG2 X f0
    go_wp2_with fail
    go_ret2
    exact HF.out
  · have h16i : ¬ (15 : Int) < n := by omega
    have HF : Hid (PutOut w b (t.flat h) (b :: G) k v (.returned (.tuple #[ev old, .bool th])) w1) := ⟨t'.flat h, h + 1, b :: G', old, th, rfl, ⟨nodG', hsl, Or.inr ⟨h, t', p, G', rfl, hb1, nk, (ok_iff h t').2 ⟨by omega, sk⟩, hits, rfl, rfl⟩⟩, pr, fits', htc⟩
    clear nk fk tk sk lk lk' pr hP hK hFe hnn nodG' fits' htc hsl hpos hits hlen hb1 hone X q
    go_wp2_with fail
    go_ret2
    exact HF.out
set_option maxHeartbeats 4000000 in
set_option maxRecDepth 100000 in
theorem put_empty (w : World) (b : Nat) (k : ByteArray) (v : GV) (hb : w.heap[b]? = some (.cells #[.pointer none] 64 (0, 0))) :
    Calls Try.prog 9 #[pv b, .string k, ev v] w fun x w' => PutOut w b [] [b] k v x w' := by
  obtain ⟨N, hN⟩ : ∃ N, N = w.heap.size := ⟨_, rfl⟩
  obtain ⟨w1, hw1⟩ : ∃ w1, w1 = (w.alloc (.cells #[.slice none 0 0, .slice none 0 0, .int .i64 0] 68)).setCell ⟨b, 0, none⟩ (pv N) := ⟨_, rfl⟩
  have t0 := Tch.alloc (fun _ => False) w (.cells #[.slice none 0 0, .slice none 0 0, .int .i64 0] 68)
  have hbl := blk_lt hb
  have hb0 : (w.alloc (.cells #[.slice none 0 0, .slice none 0 0, .int .i64 0] 68)).heap[b]? = some (.cells #[.pointer none] 64 (0, 0)) := by rw [t0.block b hbl (fun h => h)]; exact hb
  have hb1 : w1.heap[b]? = some (.cells #[pv N] 64 (0, 0)) := by rw [hw1, blk_set hb0]; rfl
  have ts : Tch (fun i => i = b) (w.alloc (.cells #[.slice none 0 0, .slice none 0 0, .int .i64 0] 68)) w1 := by rw [hw1]; exact Tch.setCell _ _ _ _ rfl
  have hnd : ND w1 N (.slice none 0 0) (.slice none 0 0) 0 := by
    have h0 : ND (w.alloc (.cells #[.slice none 0 0, .slice none 0 0, .int .i64 0] 68)) N (.slice none 0 0) (.slice none 0 0) 0 := by unfold ND; rw [hN]; exact alloc_new _ _
    exact h0.tch ts (by omega)
  have hnw : NW 0 w1 N ([] : List It) [N] := ⟨.slice none 0 0, .slice none 0 0, ⟨hnd, World.ownsRow_nil _ _ _ _, World.ownsRow_nil _ _ _ _⟩, rfl⟩
  have hnn : Nod [N] := fun x => by rw [List.count_singleton]; split <;> omega
  have q := put_any 0 w1 N k v ([] : List It) [N] hnw hnn trivial (Nat.zero_le _) List.Pairwise.nil (by show ([] : List It).length < _; simp)
  have c0 : w.cell? ⟨b, 0, none⟩ = some (.pointer none) := by rw [blk_cell hb]; rfl
  have c0' : (w.alloc (.cells #[.slice none 0 0, .slice none 0 0, .int .i64 0] 68)).cell? ⟨b, 0, none⟩ = some (.pointer none) := by rw [blk_cell hb0]; rfl
  have f0' := blk_frozen hb0 0
  have c1 : w1.cell? ⟨b, 0, none⟩ = some (pv N) := by rw [blk_cell hb1]; rfl
  have HN : Hid (N = w.heap.size) := hN
  have Hw1 : Hid (w1 = (w.alloc (.cells #[.slice none 0 0, .slice none 0 0, .int .i64 0] 68)).setCell ⟨b, 0, none⟩ (pv N)) := hw1
  have Hb1 : Hid (w1.heap[b]? = some (.cells #[pv N] 64 (0, 0))) := hb1
  have T01 : Hid (Tch (fun i => i = b) w w1) := (t0.mono (fun _ _ h => h.elim)).trans' ts
  have HbN : Hid (b < N) := by show b < N; omega
  clear hb hb0 hb1 ts hnd hnw hnn t0 hbl
  rw [hw1] at c1
  rw [hN] at c1
  clear hw1 hN
  go_enter Try.func9, Try.ntmps9
  go_wp2_with fail
  rw [← HN.out]
  have hw := Hw1.out
  rw [← hw]
  clear hw c0 c0' f0' c1
  refine q.mono ?_
  rintro x w2 ⟨t', G', old, th, rfl, nk, fk, tk, sk, lk, lk', pr⟩
  have hbG : b ∉ [N] := by simp; have := HbN.out; omega
  have hb2 : w2.heap[b]? = some (.cells #[pv N] 64 (0, 0)) := by rw [tk.block b (blk_lt Hb1.out) hbG]; exact Hb1.out
  have c0 : w2.cell? ⟨b, 0, none⟩ = some (pv N) := by rw [blk_cell hb2]; rfl
  obtain ⟨iv, kv, qs, FF, hP, hK, hFe⟩ := NW_iff.1 nk
  obtain ⟨io, ic, rfl⟩ := row_slice hP.its
  have c1 := hP.nd.cells.1
  have hl1 : t'.its.length = 1 := by
    rcases pr with ⟨_, x, y, _, _, e, _⟩ | ⟨_, _, x, y, _, _, e, e2⟩
    · exfalso
      have : ([] : List It) = x ++ (k, old) :: y := e
      simp at this
    · have e' : ([] : List It) = x ++ y := e
      have hx : x = [] ∧ y = [] := by simpa using e'.symm
      obtain ⟨rfl, rfl⟩ := hx
      show (Nd.flat 0 t').length = 1
      rw [e2]; rfl
  rw [hl1] at c1
  have hsub : ∀ i ∈ G', i = N ∨ w1.heap.size ≤ i := fun i hi => by
    rcases fk.old hi with h6 | h6
    · exact Or.inl (List.mem_singleton.1 h6)
    · exact Or.inr h6
  have hNl : N < w1.heap.size := by
    have := T01.out.size
    have h5 := (NW.lt nk N nk.mem)
    have h6 := Hw1.out
    rw [h6]
    simp [World.setCell]
    have := HN.out
    omega
  have hnG := fk.nod (fun x => by rw [List.count_singleton]; split <;> omega : Nod [N])
  have hf : Fits w.heap.size [b] (b :: G') := fun x => by
    rw [List.count_cons, List.count_singleton]
    have h1 := hnG x
    constructor
    · intro hx
      have h7 : G'.count x = 0 := List.count_eq_zero.2 (fun hm => by
        rcases hsub x hm with h6 | h6
        · have := HN.out; omega
        · have := T01.out.size; omega)
      omega
    · intro hx
      have e : (b == x) = false := by have := HbN.out; have := HN.out; simp; omega
      simp [e]
      exact h1
  have hnB : Nod [b] := fun x => by rw [List.count_singleton]; split <;> omega
  have HF : Hid (PutOut w b [] [b] k v (.returned (.tuple #[ev old, .bool th])) w2) := ⟨t'.flat 0, 1, b :: G', old, th, rfl, ⟨hf.nod hnB, pr.sorted List.Pairwise.nil, Or.inr ⟨0, t', N, G', rfl, hb2, nk, (ok_iff 0 t').2 ⟨by omega, sk⟩, by omega, rfl, rfl⟩⟩, pr, hf, (T01.out.mono (fun i _ e => by rw [e]; simp)).trans tk (fun i hi hm => by
    have := List.mem_singleton.1 hm
    have := HN.out
    omega)⟩
  clear nk fk tk sk lk lk' pr hP hK hFe hl1 hb2 hbG hsub hNl hnG hf hnB q
  go_wp2_with fail
  go_ret2
  exact HF.out
theorem put_t (w : World) (b : Nat) (l : List It) (ht : Nat) (F : List Nat) (k : ByteArray) (v : GV) (h : TW w b l ht F) (hsz : l.length < 900000000000000000) :
    Calls Try.prog 9 #[pv b, .string k, ev v] w fun x w' => PutOut w b l F k v x w' := by
  obtain ⟨h1, h2, ⟨rfl, rfl, rfl, hb⟩ | ⟨h, t, p, G, rfl, hb, hN, h3, h4, rfl, rfl⟩⟩ := h
  · exact put_empty w b k v hb
  · have h5 := (ok_iff h t).1 h3
    exact put_root h w b p t G k v hb hN h1 h5.2 h5.1 h2 hsz (Or.inl h4)
end Go.Proofs.Ytdbaafigmfclcaa
