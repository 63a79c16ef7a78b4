import Derived.Test.YtnjiiebjdpipjaaTRemI
/- A tree in the world; above. -/
namespace Go.Proofs.Ytnjiiebjdpipjaa
open Go.RowKit Go

/-- A tree: its items, how many floors it has, its blocks. -/
def TW (w : World) (b : Nat) (l : List It) (ht : Nat) (F : List Nat) : Prop := Nod F ∧ Sorted l ∧
  ((l = [] ∧ ht = 0 ∧ F = [b] ∧ w.heap[b]? = some (.cells #[.pointer none] 64 (0, 0))) ∨
   ∃ (h : Nat) (t : Nd It h) (p : Nat) (G : List Nat), ht = h + 1 ∧ w.heap[b]? = some (.cells #[pv p] 64 (0, 0)) ∧ NW h w p t G ∧ t.ok ∧ 1 ≤ t.its.length ∧ t.flat h = l ∧ F = b :: G)
theorem TW.lt {w : World} {b : Nat} {l : List It} {ht : Nat} {F : List Nat} (h : TW w b l ht F) : ∀ x ∈ F, x < w.heap.size := fun x hx => by
  obtain ⟨_, _, ⟨_, _, rfl, hb⟩ | ⟨h, t, p, G, _, hb, hN, _, _, _, rfl⟩⟩ := h
  · rw [List.mem_singleton.1 hx]; exact blk_lt hb
  · rcases List.mem_cons.1 hx with rfl | hx
    · exact blk_lt hb
    · exact hN.lt x hx
theorem TW.tch {S : Nat → Prop} {w w' : World} {b : Nat} {l : List It} {ht : Nat} {F : List Nat} (h : TW w b l ht F) (t : Tch S w w') (hS : ∀ x ∈ F, ¬ S x) : TW w' b l ht F := by
  obtain ⟨h1, h2, ⟨e1, e2, rfl, hb⟩ | ⟨h, t', p, G, e1, hb, hN, h3, h4, h5, rfl⟩⟩ := h
  · exact ⟨h1, h2, Or.inl ⟨e1, e2, rfl, by rw [t.block b (blk_lt hb) (hS b (by simp))]; exact hb⟩⟩
  · exact ⟨h1, h2, Or.inr ⟨h, t', p, G, e1, by rw [t.block b (blk_lt hb) (hS b (by simp))]; exact hb, hN.tch t (fun x hx => hS x (by simp [hx])), h3, h4, h5, rfl⟩⟩
/-- How many floors there may be. -/
theorem TW.floors {w : World} {b : Nat} {l : List It} {ht : Nat} {F : List Nat} (h : TW w b l ht F) : (l.length = 0 ∧ ht = 0) ∨ (1 ≤ l.length ∧ 1 ≤ ht ∧ 2 * 8 ^ (ht - 1) ≤ l.length + 1 ∧ l.length + 1 ≤ 16 ^ ht) := by
  obtain ⟨_, _, ⟨rfl, rfl, _, _⟩ | ⟨h, t, p, G, rfl, _, _, h3, h4, rfl, _⟩⟩ := h
  · exact Or.inl ⟨rfl, rfl⟩
  · right
    have h5 := flat_low h t h3 h4
    have h6 := flat_high h t h3
    have h7 : 2 * 8 ^ h ≤ (t.its.length + 1) * 8 ^ h := Nat.mul_le_mul_right _ (by omega)
    have h8 : 1 ≤ 8 ^ h := Nat.pow_pos (by omega)
    refine ⟨by omega, by omega, by simpa using Nat.le_trans h7 h5, h6⟩

set_option maxHeartbeats 2000000 in
set_option maxRecDepth 100000 in
theorem above_any (h : Nat) (w : World) (p : Nat) (t : Nd It h) (G : List Nat) (hN : NW h w p t G) (hn : Nod G) (hs : t.sub) (h16 : t.its.length = 16) (hb : (t.flat h).length ≤ 1000000000000000000) :
    Calls Try.prog 30 #[pv p] w fun x w' => ∃ (N : Nat) (t' : Nd It (h + 1)) (G' : List Nat), x = .returned (pv N) ∧ NW (h + 1) w' N t' G' ∧ t'.ok ∧ t'.its.length = 1 ∧ t'.flat (h + 1) = t.flat h ∧ Fits w.heap.size G G' ∧ Tch (fun i => i ∈ G) w w' := by
  obtain ⟨c2, -⟩ := hN.size
  obtain ⟨s, hsz⟩ : ∃ s : Int, s = ((Nd.flat h t).length : Int) := ⟨_, rfl⟩
  rw [← hsz] at c2
  obtain ⟨K, hK⟩ : ∃ K, K = w.heap.size := ⟨_, rfl⟩
  obtain ⟨w1, hw1⟩ : ∃ w1, w1 = w.alloc (.cells #[pv p] 62) := ⟨_, rfl⟩
  have t1 : Tch (fun _ => False) w w1 := by rw [hw1]; exact Tch.alloc _ _ _
  have hs1 : w1.heap.size = K + 1 := by rw [hw1, hK, World.size_alloc]
  obtain ⟨w2, hw2⟩ : ∃ w2, w2 = w1.alloc (.cells #[.slice none 0 0, .slice (some ⟨K, 0, none⟩) 1 1, .int .i64 s] 68) := ⟨_, rfl⟩
  have t2 : Tch (fun _ => False) w1 w2 := by rw [hw2]; exact Tch.alloc _ _ _
  have hK1 : w1.heap[K]? = some (.cells #[pv p] 62 (0, 0)) := by rw [hw1, hK]; exact alloc_new _ _
  have hK2 : w2.heap[K]? = some (.cells [pv p].toArray 62 (0, 0)) := by rw [t2.block K (blk_lt hK1) (fun h => h)]; exact hK1
  have hN2 : w2.heap[K + 1]? = some (.cells #[.slice none 0 0, .slice (some ⟨K, 0, none⟩) 1 1, .int .i64 s] 68 (0, 0)) := by rw [hw2, ← hs1]; exact alloc_new _ _
  have hNx : NWX h w2 (K + 1) [] ([] ++ t :: []) (fb (K + 1) (.slice none 0 0) (.slice (some ⟨K, 0, none⟩) 1 1) ++ G) s := ⟨_, _, [p], G, ⟨hN2, World.ownsRow_nil _ _ _ _, own_one hK2 rfl⟩, ⟨[(p, t, G)], rfl, rfl, by simp, fun x hx => by
    rw [List.mem_singleton.1 hx]
    exact hN.tch (t1.trans' t2) (fun _ _ h => h)⟩, rfl⟩
  have hfbe : fb (K + 1) (.slice none 0 0) (.slice (some ⟨K, 0, none⟩) 1 1) = [K + 1, K] := rfl
  have hGlt := hN.lt
  have hnod : Nod (fb (K + 1) (.slice none 0 0) (.slice (some ⟨K, 0, none⟩) 1 1) ++ G) := fun b => by
    rw [hfbe, List.count_append]
    have h1 := hn b
    by_cases hbG : b ∈ G
    · have h2 := hGlt b hbG
      have h3 : [K + 1, K].count b = 0 := List.count_eq_zero.2 (by simp; omega)
      omega
    · have h3 : G.count b = 0 := List.count_eq_zero.2 hbG
      have h4 : [K + 1, K].count b ≤ 1 := by
        rw [List.count_cons, List.count_singleton]
        by_cases e1 : K = b
        · have e2 : (K + 1 == b) = false := by simp; omega
          simp [e1]
        · simp [e1]; split <;> omega
      omega
  obtain ⟨m, hm⟩ : ∃ m, t.its[7]? = some m := ⟨t.its[7]'(by omega), List.getElem?_eq_getElem (by omega)⟩
  have he := sub_even h t hs
  have q := split_x h w2 (K + 1) s [] [] [] [] t m _ hNx hnod rfl rfl (by simp) h16 he hm hb
  have hck := cut_ok h t hs h16
  have Hq : Hid _ := hw2
  have HK : Hid (K = w.heap.size) := hK
  have Hs1 : Hid (w1.heap.size = K + 1) := hs1
  have hw2' : w2 = (w.alloc (.cells #[pv p] 62)).alloc (.cells #[.slice none 0 0, .slice (some ⟨K, 0, none⟩) 1 1, .int .i64 s] 68) := by rw [hw2, hw1]
  have Hw2 : Hid _ := hw2'
  have c2' : (w.alloc (.cells #[pv p] 62)).cell? ⟨p, 2, none⟩ = some (.int .i64 s) := by rw [← hw1, t1.cell (p := ⟨p, 2, none⟩) (cell_lt c2) (fun h => h)]; exact c2
  have T02 : Hid (Tch (fun _ => False) w w2) := t1.trans' t2
  have HG : Hid (∀ b ∈ G, b < K) := by rw [hK]; exact hGlt
  have Hn : Hid (Nod G) := hn
  have Hsz : Hid (s = ((Nd.flat h t).length : Int)) := hsz
  have Hfl : Hid (Nd.flat (h + 1) (([m], [Nd.lo h 7 t, Nd.hi h 7 t]) : Nd It (h + 1)) = t.flat h) := by
    show _ = _
    have := glue_in h [] [] [] [] (Nd.lo h 7 t) m (Nd.hi h 7 t) rfl (lo_even h 7 t he (by omega))
    rw [glue_cut h 7 t m hm] at this
    simp only [List.nil_append] at this
    rw [this]
    rfl
  have Hok : Hid (Nd.ok (h + 1) (([m], [Nd.lo h 7 t, Nd.hi h 7 t]) : Nd It (h + 1))) := ⟨by show [m].length ≤ 15; simp, rfl, fun x hx => by
    simp only [List.mem_cons, List.not_mem_nil, or_false] at hx
    rcases hx with rfl | rfl
    · exact ⟨hck.1, by omega⟩
    · exact ⟨hck.2.2.1, by omega⟩⟩
  have hpK : (p : Nat) < K := by rw [hK]; exact cell_lt c2
  have HpK : Hid (p < K) := hpK
  clear hw1 hw2 hw2' t1 t2 hs1 hK1 hK2 hN2 hNx hnod hfbe hGlt hm he hck hN hn hs h16 hb hsz hpK Hq hK
  go_enter Try.func30, Try.ntmps30
  go_wp2_with fail
  rw [← HK.out]
  have hw := Hw2.out
  rw [← hw]
  clear hw c2 c2'
  refine q.mono ?_
  rintro x w3 ⟨rfl, G', N3, fi3, tc3⟩
  have N3' : Hid (NWX h w3 (K + 1) [m] [Nd.lo h 7 t, Nd.hi h 7 t] G' s) := N3
  have Fi : Hid (Fits w2.heap.size (fb (K + 1) (.slice none 0 0) (.slice (some ⟨K, 0, none⟩) 1 1) ++ G) G') := fi3
  have Tc : Hid (Tch (fun i => i ∈ fb (K + 1) (.slice none 0 0) (.slice (some ⟨K, 0, none⟩) 1 1) ++ G) w2 w3) := tc3
  clear q N3 fi3 tc3
  go_wp2_with fail
  go_ret
  have hfb : fb (K + 1) (.slice none 0 0) (.slice (some ⟨K, 0, none⟩) 1 1) = [K + 1, K] := rfl
  refine ⟨K + 1, (([m], [Nd.lo h 7 t, Nd.hi h 7 t]) : Nd It (h + 1)), G', rfl, ?_, Hok.out, rfl, Hfl.out, fun b => ?_, ?_⟩
  · rw [NW_X, Hfl.out, ← Hsz.out]
    exact N3'.out
  · have h1 := Fi.out b
    have h2 := T02.out.size
    have h3 := Hn.out b
    rw [hfb, List.count_append] at h1
    constructor
    · intro hb
      have h4 : [K + 1, K].count b = 0 := List.count_eq_zero.2 (by have := HK.out; simp; omega)
      have := h1.1 (by omega)
      omega
    · intro hb
      rcases Nat.lt_or_ge b w2.heap.size with h5 | h5
      · have h6 := h1.1 h5
        have h7 : G.count b = 0 := List.count_eq_zero.2 (fun hm => by have := HG.out b hm; have := HK.out; omega)
        have h8 : [K + 1, K].count b ≤ 1 := by
          rw [List.count_cons, List.count_singleton]
          by_cases e1 : K = b
          · have e2 : (K + 1 == b) = false := by simp; omega
            simp [e1]
          · simp [e1]; split <;> omega
        omega
      · exact h1.2 h5
  · refine (T02.out.mono (fun _ _ h => h.elim)).trans Tc.out (fun i hi hm => ?_)
    rw [hfb] at hm
    rcases List.mem_append.1 hm with h5 | h5
    · simp only [List.mem_cons, List.not_mem_nil, or_false] at h5
      have := HK.out
      omega
    · exact h5
end Go.Proofs.Ytnjiiebjdpipjaa
/- Put of a tree. -/
namespace Go.Proofs.Ytnjiiebjdpipjaa
open Go.RowKit Go

def PutOut (w : World) (b : Nat) (l : List It) (F : List Nat) (k : ByteArray) (v : GV) (x : Ending) (w' : World) : Prop := ∃ (l' : List It) (ht' : Nat) (F' : List Nat) (old : GV) (th : Bool), x = .returned (.tuple #[ev old, .bool th]) ∧ TW w' b l' ht' F' ∧ PutRel k v l l' old th ∧ Fits w.heap.size F F' ∧ Tch (fun i => i ∈ F) w w'
theorem PutRel.sorted {k : ByteArray} {v old : GV} {l l' : List It} {th : Bool} (h : PutRel k v l l' old th) (hs : Sorted l) : Sorted l' := by
  have hL : ∀ e, Lo k e → KL e (k, v) := fun e he => he
  have hG : ∀ e, Hi k e → KL (k, v) e := fun e he => by
    have := kc_flip e.1 k
    unfold Hi at he
    unfold KL
    show kc k e.1 < 0
    omega
  rcases h with ⟨_, h⟩ | ⟨_, _, h⟩
  · exact h.sorted hs hL hG
  · exact h.sorted hs hL hG
/-- A root and the blocks of what is under it. -/
theorem nod_cons {b : Nat} {G G' : List Nat} {n : Nat} (hn : Nod (b :: G)) (hf : Fits n G G') (hb : b < n) : Nod (b :: G') ∧ Fits n (b :: G) (b :: G') := by
  have hf' : Fits n (b :: G) (b :: G') := fun x => by
    have h1 := hf x
    have h2 := hn x
    rw [List.count_cons] at h2
    rw [List.count_cons, List.count_cons]
    constructor
    · intro hx; have := h1.1 hx; omega
    · intro hx
      have e : (b == x) = false := by simp; omega
      simp [e]
      exact h1.2 hx
  exact ⟨hf'.nod hn, hf'⟩
theorem nod_tail {b : Nat} {G : List Nat} (hn : Nod (b :: G)) : Nod G ∧ b ∉ G := by
  refine ⟨fun x => ?_, fun hb => ?_⟩
  · have := hn x; rw [List.count_cons] at this; omega
  · have h1 := hn b
    rw [List.count_cons, beq_self_eq_true, if_pos rfl] at h1
    have := count_mem hb
    omega
set_option maxHeartbeats 4000000 in
set_option maxRecDepth 100000 in
theorem put_root (h : Nat) (w : World) (b p : Nat) (t : Nd It h) (G : List Nat) (k : ByteArray) (v : GV) (hb : w.heap[b]? = some (.cells #[pv p] 64 (0, 0))) (hN : NW h w p t G) (hn : Nod (b :: G)) (hs : t.sub) (hl : t.its.length ≤ 15) (hso : Sorted (t.flat h)) (hsz : (t.flat h).length < 900000000000000000) (hone : 1 ≤ t.its.length ∨ h = 0) :
    Calls Try.prog 9 #[pv b, .string k, ev v] w fun x w' => PutOut w b (t.flat h) (b :: G) k v x w' := by
  obtain ⟨hnG, hbG⟩ := nod_tail hn
  have q := put_any h w p k v t G hN hnG hs hl hso (by omega)
  have c0 : w.cell? ⟨b, 0, none⟩ = some (pv p) := by rw [blk_cell hb]; rfl
  have Hb : Hid (w.heap[b]? = some (.cells #[pv p] 64 (0, 0))) := hb
  have Hn : Hid (Nod (b :: G)) := hn
  have HbG : Hid (b ∉ G) := hbG
  have HnG : Hid (Nod G) := hnG
  have Hso : Hid (Sorted (t.flat h)) := hso
  have Hsz : Hid ((t.flat h).length < 900000000000000000) := hsz
  clear hb hN hn hs hl hso hsz hnG hbG
  go_enter Try.func9, Try.ntmps9
  go_wp2_with fail
  clear c0
  refine q.mono ?_
  rintro x w1 ⟨t', G', old, th, rfl, nk, fk, tk, sk, lk, lk', pr⟩
  have hb1 : w1.heap[b]? = some (.cells #[pv p] 64 (0, 0)) := by rw [tk.block b (blk_lt Hb.out) HbG.out]; exact Hb.out
  have c0 : w1.cell? ⟨b, 0, none⟩ = some (pv p) := by rw [blk_cell hb1]; rfl
  obtain ⟨iv, kv, qs, FF, hP, hK, hFe⟩ := NW_iff.1 nk
  obtain ⟨io, ic, rfl⟩ := row_slice hP.its
  have c1 := hP.nd.cells.1
  obtain ⟨n, hnn⟩ : ∃ n, n = t'.its.length := ⟨_, rfl⟩
  rw [← hnn] at c1
  have Hnn : Hid (n = t'.its.length) := hnn
  obtain ⟨nodG', fits'⟩ := nod_cons Hn.out fk (blk_lt Hb.out)
  have htc : Tch (fun i => i ∈ b :: G) w w1 := tk.mono (fun i _ hi => by simp [hi])
  have hsl := pr.sorted Hso.out
  have X : Hid (NW h w1 p t' G' ∧ t'.sub ∧ PutRel k v (t.flat h) (t'.flat h) old th ∧ Nod (b :: G') ∧ Fits w.heap.size (b :: G) (b :: G') ∧ Tch (fun i => i ∈ b :: G) w w1 ∧ Sorted (t'.flat h)) := ⟨nk, sk, pr, nodG', fits', htc, hsl⟩
  have Hb1 : Hid (w1.heap[b]? = some (.cells #[pv p] 64 (0, 0))) := hb1
  have hpos : 1 ≤ (t'.flat h).length := by
    rcases pr with ⟨_, x, y, _, _, _, e⟩ | ⟨_, _, x, y, _, _, _, e⟩
    · rw [e]; simp; omega
    · rw [e]; simp; omega
  have hits : 1 ≤ t'.its.length := by
    rcases hone with h1 | rfl
    · omega
    · exact hpos
  have Hits : Hid (1 ≤ t'.its.length) := hits
  have hlen : (t'.flat h).length ≤ (t.flat h).length + 1 := by
    rcases pr with ⟨_, hi⟩ | ⟨_, _, hi⟩
    · have := hi.len; omega
    · have := hi.len; omega
  rcases Nat.lt_or_ge 15 n with h16 | h16
  · have h16i : (15 : Int) < n := by omega
    have qa := above_any h w1 p t' G' nk (nod_tail nodG').1 sk (by omega) (by have := Hsz.out; omega)
    have f0 := blk_frozen hb1 0
    clear nk fk tk sk lk lk' pr hP hK hFe hnn nodG' fits' htc hsl hpos hits hlen hb1 hone q
    go_wp2_with fail
    refine qa.mono ?_
    rintro x w2 ⟨N, t2, G2, rfl, n2, ok2, i2, fl2, fi2, tc2⟩
    obtain ⟨x1, x2, x3, x4, x5, x6, x7⟩ := X.out
    have hbG' : b ∉ G' := (nod_tail x4).2
    have hb2 : w2.heap[b]? = some (.cells #[pv p] 64 (0, 0)) := by rw [tc2.block b (blk_lt Hb1.out) hbG']; exact Hb1.out
    have c2 : w2.cell? ⟨b, 0, none⟩ = some (pv p) := by rw [blk_cell hb2]; rfl
    have f2 := blk_frozen hb2 0
    obtain ⟨y1, y2⟩ := nod_cons x4 fi2 (blk_lt Hb1.out)
    have hbG2 : b ∉ G2 := (nod_tail y1).2
    have ts : Tch (fun i => i = b) w2 (w2.setCell ⟨b, 0, none⟩ (pv N)) := Tch.setCell _ _ _ _ rfl
    have hb3 : (w2.setCell ⟨b, 0, none⟩ (pv N)).heap[b]? = some (.cells #[pv N] 64 (0, 0)) := by rw [blk_set hb2]; rfl
    have HF : Hid (PutOut w b (t.flat h) (b :: G) k v (.returned (.tuple #[ev old, .bool th])) (w2.setCell ⟨b, 0, none⟩ (pv N))) := ⟨t2.flat (h + 1), h + 2, b :: G2, old, th, rfl, ⟨y1, by rw [fl2]; exact x7, Or.inr ⟨h + 1, t2, N, G2, rfl, hb3, n2.tch ts (fun x hx e => hbG2 (e ▸ hx)), ok2, by omega, rfl, rfl⟩⟩, by rw [fl2]; exact x3, x5.trans y2 x6.size, (x6.trans tc2 (fun i hi hm => by
      rcases x5.old (List.mem_cons_of_mem b hm) with h6 | h6
      · exact h6
      · omega)).trans ts (fun i hi e => by rw [e]; simp)⟩
    clear x1 x2 x3 x4 x5 x6 x7 hb2 y1 y2 ts hb3 n2 ok2 i2 fl2 fi2 tc2 qa c0 c1 hbG' hbG2 X f0
    go_wp2_with fail
    go_ret2
    exact HF.out
  · have h16i : ¬ (15 : Int) < n := by omega
    have HF : Hid (PutOut w b (t.flat h) (b :: G) k v (.returned (.tuple #[ev old, .bool th])) w1) := ⟨t'.flat h, h + 1, b :: G', old, th, rfl, ⟨nodG', hsl, Or.inr ⟨h, t', p, G', rfl, hb1, nk, (ok_iff h t').2 ⟨by omega, sk⟩, hits, rfl, rfl⟩⟩, pr, fits', htc⟩
    clear nk fk tk sk lk lk' pr hP hK hFe hnn nodG' fits' htc hsl hpos hits hlen hb1 hone X q
    go_wp2_with fail
    go_ret2
    exact HF.out
set_option maxHeartbeats 4000000 in
set_option maxRecDepth 100000 in
theorem put_empty (w : World) (b : Nat) (k : ByteArray) (v : GV) (hb : w.heap[b]? = some (.cells #[.pointer none] 64 (0, 0))) :
    Calls Try.prog 9 #[pv b, .string k, ev v] w fun x w' => PutOut w b [] [b] k v x w' := by
  obtain ⟨N, hN⟩ : ∃ N, N = w.heap.size := ⟨_, rfl⟩
  obtain ⟨w1, hw1⟩ : ∃ w1, w1 = (w.alloc (.cells #[.slice none 0 0, .slice none 0 0, .int .i64 0] 68)).setCell ⟨b, 0, none⟩ (pv N) := ⟨_, rfl⟩
  have t0 := Tch.alloc (fun _ => False) w (.cells #[.slice none 0 0, .slice none 0 0, .int .i64 0] 68)
  have hbl := blk_lt hb
  have hb0 : (w.alloc (.cells #[.slice none 0 0, .slice none 0 0, .int .i64 0] 68)).heap[b]? = some (.cells #[.pointer none] 64 (0, 0)) := by rw [t0.block b hbl (fun h => h)]; exact hb
  have hb1 : w1.heap[b]? = some (.cells #[pv N] 64 (0, 0)) := by rw [hw1, blk_set hb0]; rfl
  have ts : Tch (fun i => i = b) (w.alloc (.cells #[.slice none 0 0, .slice none 0 0, .int .i64 0] 68)) w1 := by rw [hw1]; exact Tch.setCell _ _ _ _ rfl
  have hnd : ND w1 N (.slice none 0 0) (.slice none 0 0) 0 := by
    have h0 : ND (w.alloc (.cells #[.slice none 0 0, .slice none 0 0, .int .i64 0] 68)) N (.slice none 0 0) (.slice none 0 0) 0 := by unfold ND; rw [hN]; exact alloc_new _ _
    exact h0.tch ts (by omega)
  have hnw : NW 0 w1 N ([] : List It) [N] := ⟨.slice none 0 0, .slice none 0 0, ⟨hnd, World.ownsRow_nil _ _ _ _, World.ownsRow_nil _ _ _ _⟩, rfl⟩
  have hnn : Nod [N] := fun x => by rw [List.count_singleton]; split <;> omega
  have q := put_any 0 w1 N k v ([] : List It) [N] hnw hnn trivial (Nat.zero_le _) List.Pairwise.nil (by show ([] : List It).length < _; simp)
  have c0 : w.cell? ⟨b, 0, none⟩ = some (.pointer none) := by rw [blk_cell hb]; rfl
  have c0' : (w.alloc (.cells #[.slice none 0 0, .slice none 0 0, .int .i64 0] 68)).cell? ⟨b, 0, none⟩ = some (.pointer none) := by rw [blk_cell hb0]; rfl
  have f0' := blk_frozen hb0 0
  have c1 : w1.cell? ⟨b, 0, none⟩ = some (pv N) := by rw [blk_cell hb1]; rfl
  have HN : Hid (N = w.heap.size) := hN
  have Hw1 : Hid (w1 = (w.alloc (.cells #[.slice none 0 0, .slice none 0 0, .int .i64 0] 68)).setCell ⟨b, 0, none⟩ (pv N)) := hw1
  have Hb1 : Hid (w1.heap[b]? = some (.cells #[pv N] 64 (0, 0))) := hb1
  have T01 : Hid (Tch (fun i => i = b) w w1) := (t0.mono (fun _ _ h => h.elim)).trans' ts
  have HbN : Hid (b < N) := by show b < N; omega
  clear hb hb0 hb1 ts hnd hnw hnn t0 hbl
  rw [hw1] at c1
  rw [hN] at c1
  clear hw1 hN
  go_enter Try.func9, Try.ntmps9
  go_wp2_with fail
  rw [← HN.out]
  have hw := Hw1.out
  rw [← hw]
  clear hw c0 c0' f0' c1
  refine q.mono ?_
  rintro x w2 ⟨t', G', old, th, rfl, nk, fk, tk, sk, lk, lk', pr⟩
  have hbG : b ∉ [N] := by simp; have := HbN.out; omega
  have hb2 : w2.heap[b]? = some (.cells #[pv N] 64 (0, 0)) := by rw [tk.block b (blk_lt Hb1.out) hbG]; exact Hb1.out
  have c0 : w2.cell? ⟨b, 0, none⟩ = some (pv N) := by rw [blk_cell hb2]; rfl
  obtain ⟨iv, kv, qs, FF, hP, hK, hFe⟩ := NW_iff.1 nk
  obtain ⟨io, ic, rfl⟩ := row_slice hP.its
  have c1 := hP.nd.cells.1
  have hl1 : t'.its.length = 1 := by
    rcases pr with ⟨_, x, y, _, _, e, _⟩ | ⟨_, _, x, y, _, _, e, e2⟩
    · exfalso
      have : ([] : List It) = x ++ (k, old) :: y := e
      simp at this
    · have e' : ([] : List It) = x ++ y := e
      have hx : x = [] ∧ y = [] := by simpa using e'.symm
      obtain ⟨rfl, rfl⟩ := hx
      show (Nd.flat 0 t').length = 1
      rw [e2]; rfl
  rw [hl1] at c1
  have hsub : ∀ i ∈ G', i = N ∨ w1.heap.size ≤ i := fun i hi => by
    rcases fk.old hi with h6 | h6
    · exact Or.inl (List.mem_singleton.1 h6)
    · exact Or.inr h6
  have hNl : N < w1.heap.size := by
    have := T01.out.size
    have h5 := (NW.lt nk N nk.mem)
    have h6 := Hw1.out
    rw [h6]
    simp [World.setCell]
    have := HN.out
    omega
  have hnG := fk.nod (fun x => by rw [List.count_singleton]; split <;> omega : Nod [N])
  have hf : Fits w.heap.size [b] (b :: G') := fun x => by
    rw [List.count_cons, List.count_singleton]
    have h1 := hnG x
    constructor
    · intro hx
      have h7 : G'.count x = 0 := List.count_eq_zero.2 (fun hm => by
        rcases hsub x hm with h6 | h6
        · have := HN.out; omega
        · have := T01.out.size; omega)
      omega
    · intro hx
      have e : (b == x) = false := by have := HbN.out; have := HN.out; simp; omega
      simp [e]
      exact h1
  have hnB : Nod [b] := fun x => by rw [List.count_singleton]; split <;> omega
  have HF : Hid (PutOut w b [] [b] k v (.returned (.tuple #[ev old, .bool th])) w2) := ⟨t'.flat 0, 1, b :: G', old, th, rfl, ⟨hf.nod hnB, pr.sorted List.Pairwise.nil, Or.inr ⟨0, t', N, G', rfl, hb2, nk, (ok_iff 0 t').2 ⟨by omega, sk⟩, by omega, rfl, rfl⟩⟩, pr, hf, (T01.out.mono (fun i _ e => by rw [e]; simp)).trans tk (fun i hi hm => by
    have := List.mem_singleton.1 hm
    have := HN.out
    omega)⟩
  clear nk fk tk sk lk lk' pr hP hK hFe hl1 hb2 hbG hsub hNl hnG hf hnB q
  go_wp2_with fail
  go_ret2
  exact HF.out
theorem put_t (w : World) (b : Nat) (l : List It) (ht : Nat) (F : List Nat) (k : ByteArray) (v : GV) (h : TW w b l ht F) (hsz : l.length < 900000000000000000) :
    Calls Try.prog 9 #[pv b, .string k, ev v] w fun x w' => PutOut w b l F k v x w' := by
  obtain ⟨h1, h2, ⟨rfl, rfl, rfl, hb⟩ | ⟨h, t, p, G, rfl, hb, hN, h3, h4, rfl, rfl⟩⟩ := h
  · exact put_empty w b k v hb
  · have h5 := (ok_iff h t).1 h3
    exact put_root h w b p t G k v hb hN h1 h5.2 h5.1 h2 hsz (Or.inl h4)
end Go.Proofs.Ytnjiiebjdpipjaa
/- Delete of a tree. -/
namespace Go.Proofs.Ytnjiiebjdpipjaa
open Go.RowKit Go

def DelOut (w : World) (b : Nat) (l : List It) (F : List Nat) (k : ByteArray) (x : Ending) (w' : World) : Prop := ∃ (l' : List It) (ht' : Nat) (F' : List Nat) (old : GV) (th : Bool), x = .returned (.tuple #[ev old, .bool th]) ∧ TW w' b l' ht' F' ∧ RemRel k l l' old th ∧ Fits w.heap.size F F' ∧ Tch (fun i => i ∈ F) w w'
theorem RemRel.sorted {k : ByteArray} {old : GV} {l l' : List It} {th : Bool} (h : RemRel k l l' old th) (hs : Sorted l) : Sorted l' := by
  rcases h with ⟨_, h⟩ | ⟨_, _, e, _⟩
  · exact h.sorted_back hs
  · rw [e]; exact hs
set_option maxHeartbeats 4000000 in
set_option maxRecDepth 100000 in
theorem del_root (h : Nat) (w : World) (b p : Nat) (t : Nd It h) (G : List Nat) (k : ByteArray) (hb : w.heap[b]? = some (.cells #[pv p] 64 (0, 0))) (hN : NW h w p t G) (hn : Nod (b :: G)) (hs : t.sub) (hl : t.its.length ≤ 15) (hso : Sorted (t.flat h)) (hsz : (t.flat h).length < 900000000000000000) (hone : 1 ≤ t.its.length) :
    Calls Try.prog 14 #[pv b, .string k] w fun x w' => DelOut w b (t.flat h) (b :: G) k x w' := by
  obtain ⟨hnG, hbG⟩ := nod_tail hn
  have q := rem_any h w p k t G hN hnG hs hl (fun _ => hone) hso (by omega)
  have c0 : w.cell? ⟨b, 0, none⟩ = some (pv p) := by rw [blk_cell hb]; rfl
  have Hb : Hid (w.heap[b]? = some (.cells #[pv p] 64 (0, 0))) := hb
  have Hn : Hid (Nod (b :: G)) := hn
  have HbG : Hid (b ∉ G) := hbG
  have Hso : Hid (Sorted (t.flat h)) := hso
  have Hl15 : Hid (t.its.length ≤ 15) := hl
  clear hb hN hn hs hl hso hsz hnG hbG hone
  go_enter Try.func14, Try.ntmps14
  go_wp2_with fail
  clear c0
  refine q.mono ?_
  rintro x w1 ⟨t', G', old, th, rfl, nk, fk, tk, sk, lk, lk', pr⟩
  have hb1 : w1.heap[b]? = some (.cells #[pv p] 64 (0, 0)) := by rw [tk.block b (blk_lt Hb.out) HbG.out]; exact Hb.out
  have c0 : w1.cell? ⟨b, 0, none⟩ = some (pv p) := by rw [blk_cell hb1]; rfl
  obtain ⟨iv, kv, qs, FF, hP, hK, hFe⟩ := NW_iff.1 nk
  obtain ⟨io, ic, rfl⟩ := row_slice hP.its
  have c1 := hP.nd.cells.1
  obtain ⟨n, hnn⟩ : ∃ n, n = t'.its.length := ⟨_, rfl⟩
  rw [← hnn] at c1
  obtain ⟨nodG', fits'⟩ := nod_cons Hn.out fk (blk_lt Hb.out)
  have htc : Tch (fun i => i ∈ b :: G) w w1 := tk.mono (fun i _ hi => by simp [hi])
  have hsl := pr.sorted Hso.out
  have f0 := blk_frozen hb1 0
  have hl15 := Hl15.out
  rcases Nat.eq_zero_or_pos n with h0 | h0
  · subst h0
    have hbG' : b ∉ G' := (nod_tail nodG').2
    have he := sub_even h t' sk
    rcases hK.len he with e | e
    · -- a leaf: nothing is left
      subst e
      have qk := kid_none p 0 _ kv _ _ w1 hP
      have hfl : t'.flat h = [] := by
        cases h with
        | zero => exact List.eq_nil_of_length_eq_zero hnn.symm
        | succ h =>
          exfalso
          obtain ⟨ks, e1, e2, _, _⟩ := hK
          have h5 : t'.2.length = t'.1.length + 1 := sk.1
          rw [e2, List.length_map] at h5
          have h6 := congrArg List.length e1
          rw [List.length_map] at h6
          simp at h6
          omega
      rw [hfl] at pr hsl
      have ts : Tch (fun i => i = b) w1 (w1.setCell ⟨b, 0, none⟩ (.pointer none)) := Tch.setCell _ _ _ _ rfl
      have hb2 : (w1.setCell ⟨b, 0, none⟩ (.pointer none)).heap[b]? = some (.cells #[.pointer none] 64 (0, 0)) := by rw [blk_set hb1]; rfl
      have hnB : Nod [b] := fun x => by rw [List.count_singleton]; split <;> omega
      have hf : Fits w.heap.size (b :: G) [b] := fun x => by
        have e1 := hnB x
        refine ⟨fun _ => ?_, fun _ => e1⟩
        rw [List.count_singleton, List.count_cons]
        omega
      have HF : Hid (DelOut w b (t.flat h) (b :: G) k (.returned (.tuple #[ev old, .bool th])) (w1.setCell ⟨b, 0, none⟩ (.pointer none))) := ⟨[], 0, [b], old, th, rfl, ⟨hnB, List.Pairwise.nil, Or.inl ⟨rfl, rfl, rfl, hb2⟩⟩, pr, hf, htc.trans ts (fun i hi e => by rw [e]; simp)⟩
      clear nk fk tk sk lk lk' pr hP hK hFe hnn nodG' fits' htc hsl hb1 ts hb2 hnB hf he hfl hbG' q
      go_wp2_with (go_at_call 31; refine qk.mono ?_; rintro x w1' ⟨rfl, hwx⟩; subst hwx; clear qk)
      go_ret2
      exact HF.out
    · -- one kid is left: it is the root
      cases h with
      | zero => exfalso; rw [hK.1] at e; simp at e
      | succ h =>
        rw [← hnn] at e
        have h5 : t'.2.length = t'.1.length + 1 := sk.1
        have hn0 : t'.1.length = 0 := hnn.symm
        have qk := kid_some p 0 _ kv _ qs _ w1 hP (by omega) (by omega)
        obtain ⟨ks, rfl, e2, rfl, h3⟩ := hK
        rw [List.length_map] at e
        obtain ⟨x, rfl⟩ := List.length_eq_one_iff.1 e
        obtain ⟨q2, k2, F2⟩ := x
        have hk2 := h3 (q2, k2, F2) (by simp)
        have ok2 := sk.2 k2 (by rw [e2]; simp)
        simp only [List.map_cons, List.map_nil, List.getElem_cons_zero] at qk
        have hfl : Nd.flat (h + 1) t' = k2.flat h := by
          have h8 : t'.1 = [] := List.eq_nil_of_length_eq_zero hn0
          show mix t'.1 (t'.2.map (Nd.flat h)) = _
          rw [h8, e2]
          rfl
        have hF2 : ∀ x, F2.count x ≤ G'.count x := fun x => by rw [hFe, List.count_append]; simp
        have hbF2 : b ∉ F2 := fun hm => by
          have h9 := hF2 b
          have h10 := count_mem hm
          exact hbG' (List.count_pos_iff.1 (by omega))
        have ts : Tch (fun i => i = b) w1 (w1.setCell ⟨b, 0, none⟩ (pv q2)) := Tch.setCell _ _ _ _ rfl
        have hb2 : (w1.setCell ⟨b, 0, none⟩ (pv q2)).heap[b]? = some (.cells #[pv q2] 64 (0, 0)) := by rw [blk_set hb1]; rfl
        have hf2 : Fits w.heap.size (b :: G) (b :: F2) := fun x => by
          have h9 := fits' x
          have h10 := hF2 x
          rw [List.count_cons] at h9 ⊢
          exact ⟨fun hx => by have := h9.1 hx; rw [List.count_cons] at *; omega, fun hx => by have := h9.2 hx; omega⟩
        have HF : Hid (DelOut w b (t.flat (h + 1)) (b :: G) k (.returned (.tuple #[ev old, .bool th])) (w1.setCell ⟨b, 0, none⟩ (pv q2))) := ⟨t'.flat (h + 1), h + 1, b :: F2, old, th, rfl, ⟨hf2.nod Hn.out, hsl, Or.inr ⟨h, k2, q2, F2, rfl, hb2, hk2.tch ts (fun x hx e => hbF2 (e ▸ hx)), ok2.1, by omega, hfl.symm, rfl⟩⟩, pr, hf2, htc.trans ts (fun i hi e => by rw [e]; simp)⟩
        clear nk fk tk sk lk lk' pr hP hFe hnn nodG' fits' htc hsl hb1 ts hb2 hf2 he hfl hbG' h3 e2 hk2 ok2 hF2 hbF2 h5 hn0 e q
        go_wp2_with (go_at_call 31; refine qk.mono ?_; rintro x w1' ⟨rfl, hwx⟩; subst hwx; clear qk)
        go_ret2
        exact HF.out
  · have h0i : ¬ (n : Int) = 0 := by omega
    have HF : Hid (DelOut w b (t.flat h) (b :: G) k (.returned (.tuple #[ev old, .bool th])) w1) := ⟨t'.flat h, h + 1, b :: G', old, th, rfl, ⟨nodG', hsl, Or.inr ⟨h, t', p, G', rfl, hb1, nk, (ok_iff h t').2 ⟨by omega, sk⟩, by omega, rfl, rfl⟩⟩, pr, fits', htc⟩
    clear nk fk tk sk lk lk' pr hP hK hFe hnn nodG' fits' htc hsl hb1 f0 q
    go_wp2_with fail
    go_ret2
    exact HF.out
set_option maxHeartbeats 1000000 in
set_option maxRecDepth 100000 in
theorem del_empty (w : World) (b : Nat) (k : ByteArray) (hb : w.heap[b]? = some (.cells #[.pointer none] 64 (0, 0))) :
    Calls Try.prog 14 #[pv b, .string k] w fun x w' => DelOut w b [] [b] k x w' := by
  have c0 : w.cell? ⟨b, 0, none⟩ = some (.pointer none) := by rw [blk_cell hb]; rfl
  have hnB : Nod [b] := fun x => by rw [List.count_singleton]; split <;> omega
  have HF : Hid (DelOut w b [] [b] k (.returned (.tuple #[ev gv0, .bool false])) w) := ⟨[], 0, [b], gv0, false, rfl, ⟨hnB, List.Pairwise.nil, Or.inl ⟨rfl, rfl, rfl, hb⟩⟩, Or.inr ⟨rfl, rfl, rfl, [], [], rfl, by simp, by simp⟩, Fits.refl hnB, Tch.refl _ _⟩
  clear hb hnB
  go_enter Try.func14, Try.ntmps14
  go_wp2_with fail
  go_ret2
  exact HF.out
theorem del_t (w : World) (b : Nat) (l : List It) (ht : Nat) (F : List Nat) (k : ByteArray) (h : TW w b l ht F) (hsz : l.length < 900000000000000000) :
    Calls Try.prog 14 #[pv b, .string k] w fun x w' => DelOut w b l F k x w' := by
  obtain ⟨h1, h2, ⟨rfl, rfl, rfl, hb⟩ | ⟨h, t, p, G, rfl, hb, hN, h3, h4, rfl, rfl⟩⟩ := h
  · exact del_empty w b k hb
  · have h5 := (ok_iff h t).1 h3
    exact del_root h w b p t G k hb hN h1 h5.2 h5.1 h2 hsz h4
end Go.Proofs.Ytnjiiebjdpipjaa
