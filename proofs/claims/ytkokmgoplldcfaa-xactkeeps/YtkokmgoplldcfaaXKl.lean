/- XactKeeps: the law. -/
import Derived.Test.YtkokmgoplldcfaaXL1
import Derived.Test.YtkokmgoplldcfaaXL7
import Derived.Deep.DeepCutAuto
import Derived.Deep.CutBlock
namespace Go.Proofs.Ytkokmgoplldcfaa
open Go.RowKit Go Go.Sort

theorem ins_g : insB 400 [] = gcells (fun _ => false) := by
  unfold insB gcells
  exact List.map_congr_left (fun j _ => by simp)

set_option maxHeartbeats 8000000 in
set_option maxRecDepth 100000 in
theorem keeps_law (ao : Option Addr) (c : Nat) (L : List (Int × Int)) (below : Int) (w : World) (hL : DL w ao L) :
    Calls Try.prog 4 #[.slice ao L.length c, .int .i64 below] w fun x w' => x = .returned (.bool true) ∧ Tch (fun _ => False) w w' := by
  obtain ⟨n, hn⟩ : ∃ n, n = L.length := ⟨_, rfl⟩
  rw [← hn]
  have Hn : Hid (n = L.length) := hn
  have HL : Hid (DL w ao L) := hL
  obtain ⟨N, hN⟩ : ∃ N, N = w.heap.size := ⟨_, rfl⟩
  have HN : Hid (N = w.heap.size) := hN
  have q0 := new_ok 1 w (by omega) (by omega)
  clear hL hn hN
  go_enter Try.func4, Try.ntmps4
  go_wp2_with fail
  refine q0.mono ?_
  rintro x w1 ⟨⟨b, rfl, hbw, hM⟩, t1⟩
  have hM1 := hM (fun i => i < N) (fun i hi => by have := HN.out; omega)
  have q1 := begin_f b _ w1 _ hM1 (by show 1 ≤ _; omega)
  have Ht1 : Hid (Tch (fun _ => False) w w1) := t1
  clear q0 hM hM1 t1
  go_wp2_with fail
  refine q1.mono ?_
  rintro x w2 ⟨rfl, hM2, k2⟩
  obtain ⟨m1, hm1⟩ : ∃ m1, m1 = (⟨1, [], []⟩ : Mg).begin := ⟨_, rfl⟩
  rw [← hm1] at hM2
  have q2 := state_f b _ w2 _ hM2 1 (by omega) (by omega)
  have e1 : m1.state 1 = 1 := by rw [hm1]; rfl
  rw [e1] at q2
  have q2' : Calls Try.prog 19 #[.pointer (some ⟨b, 0, none⟩), .int .i64 1] w2 fun x w' => x = .returned (.int .i64 1) ∧ Tch (fun _ => False) w2 w' := q2
  have HM2 : Hid (MF w2 b m1 (fun i => i < N)) := hM2
  have Ht2 : Hid (Tch (fun _ => False) w w2) := low_trans HN.out Ht1.out k2
  have Hm1 : Hid (m1 = (⟨1, [], []⟩ : Mg).begin) := hm1
  clear q1 hM2 k2 q2 hm1 e1
  go_wp2_with fail
  refine q2'.mono ?_
  rintro x w3 ⟨rfl, t3⟩
  have HM3 : Hid (MF w3 b m1 (fun i => i < N)) := HM2.out.no t3
  have Ht3 : Hid (Tch (fun _ => False) w w3) := Ht2.out.trans' t3
  clear q2' t3
  have hmk : ∀ W : World, (Instr.makeSlice 40 (.int .i64 400) (.int .i64 400)).run Try.prog W = .ok (.slice (some ⟨W.heap.size, 0, none⟩) 400 400) (W.alloc (.cells (insB 400 []).toArray 4)) := mk_bools 400 (by omega)
  obtain ⟨G, hG⟩ : ∃ G, G = w3.heap.size := ⟨_, rfl⟩
  obtain ⟨w4, hw4⟩ : ∃ w4, w4 = w3.alloc (.cells (insB 400 []).toArray 4) := ⟨_, rfl⟩
  have HG : Hid (G = w3.heap.size) := hG
  have HNG : Hid (N ≤ G) := by show _ ≤ _; rw [hG, HN.out]; exact Ht3.out.size
  have HLW : Hid (∃ m E F, LW w N b G w4 (.slice none 0 0) (gOf m) m E F ∧ m.nx ≤ 2 + 0 ∧ E.length ≤ 0 ∧ 2 ≤ m.nx) := by
    have t4 : Tch (fun _ => False) w3 w4 := by rw [hw4]; exact Tch.alloc _ _ _
    have hs4 : w4.heap.size = G + 1 := by rw [hw4, hG]; simp
    refine ⟨m1, [], fun i => i < N ∨ w3.heap.size ≤ i ∧ i < w4.heap.size, ⟨HM3.out.fresh t4, ?_, fun i hi => Or.inl hi, Or.inr ⟨by omega, by omega⟩, ?_, ⟨rfl, Or.inl ⟨rfl, rfl⟩⟩, (fun i hi => by cases hi), (fun i hi => by cases hi), (fun x hx => by cases hx), (fun x hx => by cases hx), (fun x hx => by cases hx), Ht3.out.trans' t4⟩, ?_, ?_, ?_⟩
    · intro j h1 h2
      have : j = 1 := by rw [Hm1.out] at h2; have : j < 2 := h2; omega
      subst this
      rw [Hm1.out]; exact fun e => by cases e
    · have e : gcells (gOf m1) = insB 400 [] := by
        rw [ins_g]
        refine gcells_congr (fun j => decide_eq_false ?_)
        rintro ⟨h1, h2, h3⟩
        have : j = 1 := by rw [Hm1.out] at h2; have : j < 2 := h2; omega
        subst this
        rw [Hm1.out] at h3
        cases h3
      rw [e, hw4, hG]; exact alloc_new _ _
    · rw [Hm1.out]; exact Nat.le_refl _
    · exact Nat.le_refl _
    · rw [Hm1.out]; exact Nat.le_refl _
  have Hw4 : Hid (w4 = w3.alloc (.cells (insB 400 []).toArray 4)) := hw4
  clear hw4 hG
  go_wp2_with fail
  have hw4 := Hw4.out
  rw [← hw4, ← HG.out]
  clear hw4 hmk
  refine loop1 w w4 N b G n c ao L Hn HL HN HNG HLW _ _ _ _ _ _ _ _ _ _ _ _ _ _ _ _ _ _ _ _ _ _ _ _ _ _ _ _ _ _ _ _ _ _ _ _ _ _ _ _ _ _ _ _ _ _ _ _ _ _ _ _ _ _ _ _ _ _ _ _ _ _ _ _ _ _ _ _ _ _ _ _ _ _ _ _ _ _ _ _ _ _ _ _ _ _ _ _ _ _ _ _ _ _ _ _ _ _ _ _ _ _ _ _ _ _ _ _ _ _ _ _ _ _ _ _ _ _ _ _ _ _ _ _ _ _ _ _ _ _ _ _ _ _ _ _ _ _ _ _ _ _ _ _ _ _ _ _ _ _ _ _ _ _ _ _ _ _ _ _ _ _ _ _ _ _ _ _ _ _ _ _ _ _ _ _ _ _ _ _ _ _ _ _ _ _ _ _ _ _ _ _ _ _ _ _ _ _ _ _ _ _ _ _ _ _ _ _ _ _ _ _ _ _ _ _ _ _ _ _ _ _ _ _ _ _ _ _ _ _ _ _ _ _ _ _ _ _ _ _ _ _ _ _ _ _ _ _ _ _ _ _ _ _ _ _ _ _ _ _ _ _ _ _ _ _ _ _ _ _ _ _ _ _ _ _ _ _ _ _ _ _ _ _ _ _ _ _ _ _ _ _ _ _ _ _ _ _ _ _ _ _ _ _ _ _ _ _ _ _ _ _ _ _ _ _ _ _ _ _ _ _ _ _ _ _ _ _ _ _ _ _ _ _ _ _ _ _ _ _ _ _ _ _ _ _ _ _ _ _ _ _ _ _ _ _ _ _ _ _ _ _ _ _ _ _ _ _ _ _ _ _ _ _ _ _ _ _ _ _ _ _ _ _ _ _ _ _ ?_
  intro x4 x8 x10 x11 x12 x13 x14 x15 x16 x17 x18 x19 x20 x21 x22 x23 x24 x61 x62 x63 x64 x65 x66 x67 x68 x69 x70 x71 x72 x73 x74 x75 x76 x77 x78 x79 x80 x81 x82 x83 x84 x85 x86 x87 x88 x89 x90 x91 x92 x93 x94 x95 x96 x97 x98 x99 x100 x101 x102 x103 x104 x105 x106 x107 x108 x109 x110 x111 x112 x113 x114 x115 x116 x117 x118 x119 x120 x121 x122 x123 x124 x125 x126 x127 x128 x129 x130 x131 x132 x133 x134 x135 x136 x137 x138 x139 x140 x141 x142 x143 x144 x145 x146 x147 x148 x149 x150 x151 x152 x153 x154 x155 x156 x157 x158 x159 x160 x161 x162 x163 x164 x165 x166 x167 x168 x169 x170 x171 x172 x173 x174 x175 x176 x177 x178 x179 x180 x181 x182 x183 x184 x185 x186 x187 x188 x189 x190 x191 x192 x193 x194 x195 x196 x197 x198 x199 x200 x201 x202 x203 x204 x205 x206 x207 x208 x209 x210 x211 x212 x213 x214 x215 x216 x217 x218 x219 x220 x221 x222 x223 x224 x225 x226 x227 x228 x229 x230 x231 x232 x233 x234 x235 x236 x237 x238 x239 x240 x241 x242 x243 x244 x245 x246 x247 x248 x249 x250 x251 x252 x253 x254 x255 x256 x257 x258 x259 x260 x261 x262 x263 x264 x265 x266 x267 x268 x269 x270 x271 x272 x273 x274 x275 x276 x277 x278 x279 wc hcut
  obtain ⟨m, E, F, hW, hnx, hEl, hnx2⟩ := hcut.out
  have q := next_f b _ wc _ hW.mf
  obtain ⟨nx, hnx'⟩ : ∃ nx, nx = m.nx := ⟨_, rfl⟩
  rw [← hnx'] at q hnx hnx2
  have Hnx : Hid (nx = m.nx) := hnx'
  have HW : Hid (LW w N b G wc x8 (gOf m) m E F) := hW
  have hkv := row_slice hW.row
  obtain ⟨ko, kc, rfl⟩ := hkv
  obtain ⟨el, hel⟩ : ∃ el, el = E.length := ⟨_, rfl⟩
  rw [← hel] at hEl HW ⊢
  have Hel : Hid (el = E.length) := hel
  clear hW hcut hnx' hel
  go_wp2_with fail
  refine q.mono ?_
  rintro x w5 ⟨rfl, hw5⟩
  obtain rfl := hw5.symm
  clear q hw5
  have hmk := mk_ints nx (by omega)
  obtain ⟨B, hB⟩ : ∃ B, B = wc.heap.size := ⟨_, rfl⟩
  obtain ⟨w6, hw6⟩ : ∃ w6, w6 = wc.alloc (.cells (wcl nx (fun _ => 0)).toArray 3) := ⟨_, rfl⟩
  have hB6 : w6.heap[B]? = some (.cells (wcl nx (fun _ => 0)).toArray 3 (0, 0)) := by rw [hw6, hB]; exact alloc_new _ _
  have HB6 : Hid (w6.heap[B]? = some (.cells (wcl nx (fun _ => 0)).toArray 3 (0, 0))) := hB6
  have HB : Hid (B = wc.heap.size ∧ w6.heap.size = B + 1) := ⟨hB, by rw [hw6, hB]; simp⟩
  have Ht6 : Hid (Tch (fun _ => False) wc w6) := by show Tch _ _ _; rw [hw6]; exact Tch.alloc _ _ _
  have Hw6 : Hid (w6 = wc.alloc (.cells (wcl nx (fun _ => 0)).toArray 3)) := hw6
  clear hw6 hB hB6
  go_wp2_with fail
  have hw6 := Hw6.out
  rw [← hw6, ← HB.out.1]
  clear hw6 hmk
  go_loopw [27] (fun i wr => ∃ j : Nat, i = .int .i64 j ∧ 1 ≤ j ∧ j ≤ nx ∧ Hid (wr.heap[B]? = some (.cells (wcl nx (fun i => if 1 ≤ i ∧ i < j then m.state i else 0)).toArray 3 (0, 0))) ∧ Hid (Tch (fun _ => False) wc wr)) (fun i _ => nx - (intOf i).toNat)
  case atStart =>
    refine ⟨1, rfl, by omega, by omega, ?_, Ht6⟩
    have e : (fun i : Nat => if 1 ≤ i ∧ i < 1 then m.state (i : Int) else 0) = fun _ => 0 := by funext i; rw [if_neg (by omega)]
    rw [e]; exact HB6
  case round =>
    obtain ⟨j, rfl, hj1, hjn, HBj, Htj⟩ := hrel
    by_cases hjlt : (j : Int) < nx
    · have hjl : j < nx := by omega
      have q := state_f b _ wr _ (HW.out.mf.no Htj.out) j (by omega) (by omega)
      obtain ⟨s, hs⟩ : ∃ s, s = m.state j := ⟨_, rfl⟩
      rw [← hs] at q
      have Hs : Hid (s = m.state j) := hs
      have hBl : B < wr.heap.size := blk_lt HBj.out
      clear hs
      go_wp2_with fail
      refine q.mono ?_
      rintro x w7 ⟨rfl, t7⟩
      clear q
      have hB7 := (t7.block B hBl (fun h => h)).trans HBj.out
      have c7 : w7.cell? ⟨B, j, none⟩ = some (.int .i64 ((if 1 ≤ j ∧ j < j then m.state j else 0 : Nat) : Int)) := by rw [blk_cell hB7, List.getElem?_toArray, wcl_at _ hjl]
      have f7 := blk_frozen hB7 j
      have HB' : Hid ((w7.setCell ⟨B, j, none⟩ (.int .i64 s)).heap[B]? = some (.cells (wcl nx (fun i => if 1 ≤ i ∧ i < j + 1 then m.state i else 0)).toArray 3 (0, 0))) := by
        show _ = _
        rw [blk_set hB7]
        have h9 := wcl_set nx (fun i : Nat => if 1 ≤ i ∧ i < j then m.state (i : Int) else 0) j s
        have e : (fun i : Nat => if i = j then s else if 1 ≤ i ∧ i < j then m.state (i : Int) else 0) = fun i : Nat => if 1 ≤ i ∧ i < j + 1 then m.state (i : Int) else 0 := by
          funext i
          by_cases hi : i = j
          · subst hi; rw [if_pos rfl, if_pos (by omega), Hs.out]
          · rw [if_neg hi]
            by_cases h2 : 1 ≤ i ∧ i < j
            · rw [if_pos h2, if_pos (by omega)]
            · rw [if_neg h2, if_neg (by omega)]
        rw [e] at h9
        rw [← h9]
        simp
      have Ht' : Hid (Tch (fun _ => False) wc (w7.setCell ⟨B, j, none⟩ (.int .i64 s))) := (Htj.out.trans' t7).trans (Tch.setCell (fun i => i = B) w7 ⟨B, j, none⟩ _ rfl) (fun i hi e => by have := HB.out; omega)
      clear t7 hB7
      go_wp2_with fail
      go_roundw
      case rel => exact ⟨j + 1, by go_num, by omega, by omega, HB', Ht'⟩
      case measure => simp [intOf]; omega
    · obtain rfl : j = nx := by omega
      obtain ⟨w7, hw7⟩ : ∃ w7, w7 = wr := ⟨_, rfl⟩
      subst hw7
      obtain ⟨F1, hF1⟩ : ∃ F1 : Nat → Prop, F1 = fun i => F i ∨ wc.heap.size ≤ i ∧ i < w7.heap.size := ⟨_, rfl⟩
      have hW7 := HW.out.fresh HN.out Htj.out
      rw [← hF1] at hW7
      have q := forget_f b m w7 F1 hW7.mf below
      have hBF : F1 B := by rw [hF1]; exact Or.inr ⟨by have := HB.out; omega, blk_lt HBj.out⟩
      have HKD : Hid (KD w7 (.slice ko el kc) E F1) := hW7.kd
      have Hall : Hid (All m) := hW7.all
      have Hwf : Hid (Wf m) := hW7.mf.wf
      have Hok : Hid (∀ x ∈ E, EntOK m x.e) := hW7.ok
      have Ht7 : Hid (Tch (fun _ => False) w w7) := hW7.t
      have HlF : Hid (∀ i, i < N → F1 i) := hW7.lo
      have HBF : Hid (F1 B) := hBF
      obtain ⟨mm, hmm⟩ : ∃ mm, mm = m.many below := ⟨_, rfl⟩
      rw [← hmm] at q
      have Hmm : Hid (mm = m.many below) := hmm
      clear hW7 hF1 hBF hmm
      go_wp2_with fail
      refine q.mono ?_
      rintro x w8 ⟨rfl, hM8, k8⟩
      have HM8 : Hid (MF w8 b (m.forget below) F1) := hM8
      have Hk8 : Hid (Kept F1 w7 w8) := k8
      have HB8 : Hid (w8.heap[B]? = some (.cells (wcl j (fun i => if 1 ≤ i ∧ i < j then m.state i else 0)).toArray 3 (0, 0))) := (k8.block B (blk_lt HBj.out) (fun hn => hn HBF.out)).trans HBj.out
      have HKD8 : Hid (KD w8 (.slice ko el kc) E F1) := HKD.out.kept k8
      have Ht8 : Hid (Tch (fun _ => False) w w8) := Ht7.out.trans k8 (fun i hi hn => hn (HlF.out i (by have := HN.out; omega)))
      clear q hM8 k8
      go_wp2_with fail
      refine loop7 w8 b B ko el kc j mm m E F1 below Hnx (by omega) (by omega) HM8 HKD8 Hwf Hall Hok Hel (by omega) Hmm HB8 _ _ _ _ _ _ _ _ _ _ _ _ _ _ _ _ _ _ _ _ _ _ _ _ _ _ _ _ _ _ _ _ _ _ _ _ _ _ _ _ _ _ _ _ _ _ _ _ _ _ _ _ _ _ _ _ _ _ _ _ _ _ _ _ _ _ _ _ _ _ _ _ _ _ _ _ _ _ _ _ _ _ _ _ _ _ _ _ _ _ _ _ _ _ _ _ _ _ _ _ _ _ _ _ _ _ _ _ _ _ _ _ _ _ _ _ _ _ _ _ _ _ _ _ _ _ _ _ _ _ _ _ _ _ _ _ _ _ _ _ _ _ _ _ _ _ _ _ _ _ _ _ _ _ _ _ _ _ _ _ _ _ _ _ _ _ _ _ _ _ _ _ _ _ _ _ _ _ _ _ _ _ _ _ _ _ _ _ _ _ _ _ _ _ _ _ _ _ _ _ _ _ _ _ _ _ _ _ _ _ _ _ _ _ _ _ _ _ _ _ _ _ _ _ _ _ _ _ _ _ _ _ _ _ _ _ _ _ _ _ _ _ _ _ _ _ _ _ _ _ _ _ _ _ _ _ _ _ _ _ _ _ _ _ _ _ _ _ _ _ _ _ _ _ _ _ _ _ _ _ _ _ _ _ _ _ _ _ _ _ _ _ _ _ _ _ _ _ _ _ _ _ _ _ _ _ _ _ _ _ _ _ _ _ _ _ _ _ _ _ _ _ _ _ _ _ _ _ _ _ _ _ _ _ _ _ _ _ _ _ _ _ _ _ _ _ _ _ _ _ _ _ _ _ _ _ _ _ _ _ _ _ _ _ _ _ _ _ _ _ _ _ _ _ _ _ _ _ _ _ _ _ _ _ _ _ ?_
      intro r4 r29 r30 r31 r32 r33 r298 r299 r300 r301 r302 r303 r304 r305 r306 r307 r308 r309 r310 r311 r312 r313 r314 r315 r316 r317 r318 r319 r320 r321 r322 r323 r324 r325 r326 r327 r328 r329 r330 r331 r332 r333 r334 r335 r336 r337 r338 r339 r340 r341 r342 r343 r344 r345 r346 r347 r348 r349 r350 r351 r352 r353 r354 r355 r356 r357 r358 r359 r360 r361 r362 r363 r364 r365 r366 r367 r368 r369 r370 r371 r372 r373 r374 r375 r376 r377 r378 r379 r380 r381 r382 r383 r384 r385 r386 r387 r388 r389 wz HwZ
      have HEnd : Hid (Tch (fun _ => False) w wz) := Ht8.out.trans' HwZ.out
      go_wp2_with fail
      go_ret
      exact ⟨rfl, HEnd.out⟩
end Go.Proofs.Ytkokmgoplldcfaa
