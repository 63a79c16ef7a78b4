import Derived.Test.YtolobljlkdacjaaXAk8
import Derived.Test.YtolobljlkdacjaaXAk9
import Derived.Test.YtolobljlkdacjaaXAk10
import Derived.Test.YtolobljlkdacjaaXAk11
import Derived.Test.YtolobljlkdacjaaXAk12
import Derived.Test.YtolobljlkdacjaaXAk13
import Derived.Test.YtolobljlkdacjaaXAk14
import Derived.Test.YtolobljlkdacjaaXAk15
import Derived.Test.YtolobljlkdacjaaXSt0
import Derived.Test.YtolobljlkdacjaaXSt1
import Derived.Test.YtolobljlkdacjaaXSt2
import Derived.Test.YtolobljlkdacjaaXSt3
import Derived.Test.YtolobljlkdacjaaXSt4
import Derived.Test.YtolobljlkdacjaaXSt5
import Derived.Test.YtolobljlkdacjaaXSt6
import Derived.Test.YtolobljlkdacjaaXSt7
import Derived.Test.YtolobljlkdacjaaXSt16
/- A step of any kind. -/
namespace Go.Proofs.Ytolobljlkdacjaa
open Go.RowKit Go

theorem asks_any (w : World) (o : Nat → Nat) (β sb : Nat) (m : Mg) (ks : List (Int × Int × Value)) (n : Nat) (sd : Sd w o β sb m ks n) (hn9 : n ≤ 99999000) (hks : ks.length ≤ 100000000) (oK oN oM : Int) (oT : Bool) (mn mx : Int) (lo : Option Addr) (lc : Nat) (l : List Int) (hl : l.length ≤ 549755813888) (hI : IR w lo l) (hlo : lo = none → lc = 0) (b1 : -9223372036854775808 ≤ oN) (b2 : oN ≤ 9223372036854775807) (b3 : -9223372036854775808 ≤ oM) (b4 : oM ≤ 9223372036854775807) (b5 : -9223372036854775808 ≤ mn) (b6 : mn ≤ 9223372036854775807) (hk : 8 ≤ oK ∧ oK ≤ 15) :
    Calls Try.prog 30 #[.pointer (some ⟨sb, 0, none⟩), .agg #[.int .i64 oK, .int .i64 oN, .int .i64 oM, .bool oT, .int .i64 mn, .int .i64 mx, .slice lo l.length lc]] w fun x w' => x = .returned (.bool true) ∧ ∃ o' ks', Sd w' o' β sb m ks' (n + 40) ∧ Ev (KS β) w o w' o' ∧ ks'.length ≤ ks.length + 1 := by
  obtain ⟨mb, rb, kv, rv, hv, wv, A, h, s, h4, h5, hh, hA⟩ := sd
  have hc : oK = 8 ∨ oK = 9 ∨ oK = 10 ∨ oK = 11 ∨ oK = 12 ∨ oK = 13 ∨ oK = 14 ∨ oK = 15 := by omega
  rcases hc with rfl | rfl | rfl | rfl | rfl | rfl | rfl | rfl
  · exact ask_8 w o β sb m mb rb kv rv hv wv ks A h s h4 h5 hh n hA oN oM oT mn mx _ b1 b2
  · exact ask_9 w o β sb m mb rb kv rv hv wv ks A h s h4 h5 hh n hA oN oM oT mn mx _ b1 b2
  · exact ask_10 w o β sb m mb rb kv rv hv wv ks A h s h4 h5 hh n hA oN oM oT mn mx _ b1 b2 hn9
  · exact ask_11 w o β sb m mb rb kv rv hv wv ks A h s h4 h5 hh n hA oN oM oT mn mx _ b1 b2 hn9
  · exact ask_12 w o β sb m mb rb kv rv hv wv ks A h s h4 h5 hh n hA oN oM oT mn mx _ b1 b2
  · exact ask_13 w o β sb m mb rb kv rv hv wv ks A h s h4 h5 hh n hA oN oM oT mn mx _ b1 b2 hn9 hks
  · exact ask_14 w o β sb m mb rb kv rv hv wv ks A h s h4 h5 hh n hA oN oM oT mn mx lo lc l hl hI hlo b1 b2 b3 b4
  · exact ask_15 w o β sb m mb rb kv rv hv wv ks A h s h4 h5 hh n hA oN oM oT mn mx _ b1 b2 b3 b4 b5 b6 hks
set_option maxHeartbeats 2000000 in
set_option maxRecDepth 100000 in
theorem step_asks (w : World) (o : Nat → Nat) (β sb : Nat) (m : Mg) (ks : List (Int × Int × Value)) (n : Nat) (sd : Sd w o β sb m ks n) (hn9 : n ≤ 99999000) (hks : ks.length ≤ 100000000) (oK oN oM : Int) (oT : Bool) (mn mx : Int) (lo : Option Addr) (lc : Nat) (l : List Int) (hl : l.length ≤ 549755813888) (hI : IR w lo l) (hlo : lo = none → lc = 0) (b1 : -9223372036854775808 ≤ oN) (b2 : oN ≤ 9223372036854775807) (b3 : -9223372036854775808 ≤ oM) (b4 : oM ≤ 9223372036854775807) (b5 : -9223372036854775808 ≤ mn) (b6 : mn ≤ 9223372036854775807) (hk : 8 ≤ oK ∧ oK ≤ 15) :
    Calls Try.prog 7 #[.pointer (some ⟨sb, 0, none⟩), .agg #[.int .i64 oK, .int .i64 oN, .int .i64 oM, .bool oT, .int .i64 mn, .int .i64 mx, .slice lo l.length lc]] w fun x w' => x = .returned (.bool true) ∧ ∃ o' ks', Sd w' o' β sb m ks' (n + 40) ∧ Ev (KS β) w o w' o' ∧ ks'.length ≤ ks.length + 1 := by
  obtain ⟨nl, hnl⟩ : ∃ nl, nl = l.length := ⟨_, rfl⟩
  obtain ⟨w0, hw0⟩ : ∃ w0, w0 = w.alloc (.cells #[.int .i64 oK, .int .i64 oN, .int .i64 oM, .bool oT, .int .i64 mn, .int .i64 mx, .slice lo l.length lc] 38) := ⟨_, rfl⟩
  have q : Calls Try.prog 30 #[.pointer (some ⟨sb, 0, none⟩), .agg #[.int .i64 oK, .int .i64 oN, .int .i64 oM, .bool oT, .int .i64 mn, .int .i64 mx, .slice lo nl lc]] w0 fun x w' => x = .returned (.bool true) ∧ ∃ o' ks', Sd w' o' β sb m ks' (n + 40) ∧ Ev (KS β) w o w' o' ∧ ks'.length ≤ ks.length + 1 := by
    obtain ⟨mb, rb, kv, rv, hv, wv, A, h, s, h4, h5, hh, hA⟩ := sd
    have p := PW.begin s h4 h5 #[.int .i64 oK, .int .i64 oN, .int .i64 oM, .bool oT, .int .i64 mn, .int .i64 mx, .slice lo l.length lc]
    rw [← hw0] at p
    rw [hnl]
    refine (asks_any w0 _ β sb m ks n ⟨mb, rb, kv, rv, hv, wv, A, h, p.s, p.was, p.held, hh, hA⟩ hn9 hks oK oN oM oT mn mx lo lc l hl (hI.no (by rw [hw0]; exact Tch.alloc _ _ _)) hlo b1 b2 b3 b4 b5 b6 hk).mono ?_
    rintro x w' ⟨rfl, o', ks', h6, h7, h8⟩
    exact ⟨rfl, o', ks', h6, p.ev.trans h7, h8⟩
  have hb : w0.heap[w.heap.size]? = some (.cells #[.int .i64 oK, .int .i64 oN, .int .i64 oM, .bool oT, .int .i64 mn, .int .i64 mx, .slice lo nl lc] 38 (0, 0)) := by rw [hw0, hnl]; exact alloc_new _ _
  have k0 : w0.cell? ⟨w.heap.size, 0, none⟩ = some (.int .i64 oK) := by rw [blk_cell hb]; rfl
  have k1 : w0.cell? ⟨w.heap.size, 1, none⟩ = some (.int .i64 oN) := by rw [blk_cell hb]; rfl
  have k2 : w0.cell? ⟨w.heap.size, 2, none⟩ = some (.int .i64 oM) := by rw [blk_cell hb]; rfl
  have k3 : w0.cell? ⟨w.heap.size, 3, none⟩ = some (.bool oT) := by rw [blk_cell hb]; rfl
  have k4 : w0.cell? ⟨w.heap.size, 4, none⟩ = some (.int .i64 mn) := by rw [blk_cell hb]; rfl
  have k5 : w0.cell? ⟨w.heap.size, 5, none⟩ = some (.int .i64 mx) := by rw [blk_cell hb]; rfl
  have k6 : w0.cell? ⟨w.heap.size, 6, none⟩ = some (.slice lo nl lc) := by rw [blk_cell hb]; rfl
  rw [← hnl] at hw0 ⊢
  have Hw0 : Hid _ := hw0
  rw [hw0] at k0 k1 k2 k3 k4 k5 k6
  have hc : oK = 8 ∨ oK = 9 ∨ oK = 10 ∨ oK = 11 ∨ oK = 12 ∨ oK = 13 ∨ oK = 14 ∨ oK = 15 := by omega
  clear sd hn9 hks hl hI hlo b1 b2 b3 b4 b5 b6 hk hb hnl hw0
  rcases hc with rfl | rfl | rfl | rfl | rfl | rfl | rfl | rfl
  · go_enter Try.func7, Try.ntmps7
    go_wp2_with fail
    have hw0 := Hw0.out
    rw [← hw0]
    clear hw0
    refine q.mono ?_
    rintro x w1 ⟨rfl, hf⟩
    have HF : Hid _ := hf
    clear q hf k0 k1 k2 k3 k4 k5 k6
    go_wp2_with fail
    go_ret
    exact ⟨rfl, HF.out⟩
  · go_enter Try.func7, Try.ntmps7
    go_wp2_with fail
    have hw0 := Hw0.out
    rw [← hw0]
    clear hw0
    refine q.mono ?_
    rintro x w1 ⟨rfl, hf⟩
    have HF : Hid _ := hf
    clear q hf k0 k1 k2 k3 k4 k5 k6
    go_wp2_with fail
    go_ret
    exact ⟨rfl, HF.out⟩
  · go_enter Try.func7, Try.ntmps7
    go_wp2_with fail
    have hw0 := Hw0.out
    rw [← hw0]
    clear hw0
    refine q.mono ?_
    rintro x w1 ⟨rfl, hf⟩
    have HF : Hid _ := hf
    clear q hf k0 k1 k2 k3 k4 k5 k6
    go_wp2_with fail
    go_ret
    exact ⟨rfl, HF.out⟩
  · go_enter Try.func7, Try.ntmps7
    go_wp2_with fail
    have hw0 := Hw0.out
    rw [← hw0]
    clear hw0
    refine q.mono ?_
    rintro x w1 ⟨rfl, hf⟩
    have HF : Hid _ := hf
    clear q hf k0 k1 k2 k3 k4 k5 k6
    go_wp2_with fail
    go_ret
    exact ⟨rfl, HF.out⟩
  · go_enter Try.func7, Try.ntmps7
    go_wp2_with fail
    have hw0 := Hw0.out
    rw [← hw0]
    clear hw0
    refine q.mono ?_
    rintro x w1 ⟨rfl, hf⟩
    have HF : Hid _ := hf
    clear q hf k0 k1 k2 k3 k4 k5 k6
    go_wp2_with fail
    go_ret
    exact ⟨rfl, HF.out⟩
  · go_enter Try.func7, Try.ntmps7
    go_wp2_with fail
    have hw0 := Hw0.out
    rw [← hw0]
    clear hw0
    refine q.mono ?_
    rintro x w1 ⟨rfl, hf⟩
    have HF : Hid _ := hf
    clear q hf k0 k1 k2 k3 k4 k5 k6
    go_wp2_with fail
    go_ret
    exact ⟨rfl, HF.out⟩
  · go_enter Try.func7, Try.ntmps7
    go_wp2_with fail
    have hw0 := Hw0.out
    rw [← hw0]
    clear hw0
    refine q.mono ?_
    rintro x w1 ⟨rfl, hf⟩
    have HF : Hid _ := hf
    clear q hf k0 k1 k2 k3 k4 k5 k6
    go_wp2_with fail
    go_ret
    exact ⟨rfl, HF.out⟩
  · go_enter Try.func7, Try.ntmps7
    go_wp2_with fail
    have hw0 := Hw0.out
    rw [← hw0]
    clear hw0
    refine q.mono ?_
    rintro x w1 ⟨rfl, hf⟩
    have HF : Hid _ := hf
    clear q hf k0 k1 k2 k3 k4 k5 k6
    go_wp2_with fail
    go_ret
    exact ⟨rfl, HF.out⟩
theorem Sd.mono {w : World} {o : Nat → Nat} {β sb : Nat} {m : Mg} {ks : List (Int × Int × Value)} {n n' : Nat} (h : Sd w o β sb m ks n) (hn : n ≤ n') : Sd w o β sb m ks n' := by
  obtain ⟨mb, rb, kv, rv, hv, wv, A, h, s, h4, h5, hh, hA⟩ := h
  exact ⟨mb, rb, kv, rv, hv, wv, A, h, s, h4, h5, hh, by omega⟩
theorem step_any (w : World) (o : Nat → Nat) (β sb : Nat) (m : Mg) (ks : List (Int × Int × Value)) (n : Nat) (sd : Sd w o β sb m ks n) (hn9 : n ≤ 99999000) (hks : ks.length ≤ 100000000) (oK oN oM : Int) (oT : Bool) (mn mx : Int) (lo : Option Addr) (lc : Nat) (l : List Int) (hl : l.length ≤ 549755813888) (hI : IR w lo l) (hlo : lo = none → lc = 0) (b1 : -9223372036854775808 ≤ oN) (b2 : oN ≤ 9223372036854775807) (b3 : -9223372036854775808 ≤ oM) (b4 : oM ≤ 9223372036854775807) (b5 : -9223372036854775808 ≤ mn) (b6 : mn ≤ 9223372036854775807) :
    Calls Try.prog 7 #[.pointer (some ⟨sb, 0, none⟩), .agg #[.int .i64 oK, .int .i64 oN, .int .i64 oM, .bool oT, .int .i64 mn, .int .i64 mx, .slice lo l.length lc]] w fun x w' => x = .returned (.bool true) ∧ ∃ o' m' ks', Sd w' o' β sb m' ks' (n + 40) ∧ Ev (KS β) w o w' o' ∧ ks'.length ≤ ks.length + 1 := by
  have hup : ∀ (m' : Mg) (x : Ending) (w' : World), (x = .returned (.bool true) ∧ ∃ o', Sd w' o' β sb m' ks n ∧ Ev (KS β) w o w' o') → x = .returned (.bool true) ∧ ∃ o' m' ks', Sd w' o' β sb m' ks' (n + 40) ∧ Ev (KS β) w o w' o' ∧ ks'.length ≤ ks.length + 1 := fun m' x w' ⟨e, o', h1, h2⟩ => ⟨e, o', m', ks, h1.mono (by omega), h2, by omega⟩
  by_cases ha : 8 ≤ oK ∧ oK ≤ 15
  · refine (step_asks w o β sb m ks n sd hn9 hks oK oN oM oT mn mx lo lc l hl hI hlo b1 b2 b3 b4 b5 b6 ha).mono ?_
    rintro x w' ⟨rfl, o', ks', h1, h2, h3⟩
    exact ⟨rfl, o', m, ks', h1, h2, h3⟩
  · obtain ⟨mb, rb, kv, rv, hv, wv, A, h, s, h4, h5, hh, hA⟩ := sd
    by_cases hs : 1 ≤ oK ∧ oK ≤ 16
    · have hc : oK = 1 ∨ oK = 2 ∨ oK = 3 ∨ oK = 4 ∨ oK = 5 ∨ oK = 6 ∨ oK = 7 ∨ oK = 16 := by omega
      rcases hc with rfl | rfl | rfl | rfl | rfl | rfl | rfl | rfl
      · exact (step_1 w o β sb m mb rb kv rv hv wv ks A h s h4 h5 hh n hA oN oM oT mn mx _ b1 b2).mono (hup _)
      · exact (step_2 w o β sb m mb rb kv rv hv wv ks A h s h4 h5 hh n hA oN oM oT mn mx _ b1 b2).mono (hup _)
      · exact (step_3 w o β sb m mb rb kv rv hv wv ks A h s h4 h5 hh n hA oN oM oT mn mx _ b1 b2).mono (hup _)
      · exact (step_4 w o β sb m mb rb kv rv hv wv ks A h s h4 h5 hh n hA oN oM oT mn mx _ b1 b2).mono (hup _)
      · exact (step_5 w o β sb m mb rb kv rv hv wv ks A h s h4 h5 hh n hA oN oM oT mn mx _ b1 b2).mono (hup _)
      · exact (step_6 w o β sb m mb rb kv rv hv wv ks A h s h4 h5 hh n hA oN oM oT mn mx _ b1 b2).mono (hup _)
      · exact (step_7 w o β sb m mb rb kv rv hv wv ks A h s h4 h5 hh n hA oN oM oT mn mx _ b1 b2).mono (hup _)
      · exact (step_16 w o β sb m mb rb kv rv hv wv ks A h s h4 h5 hh n hA oN oM oT mn mx _ b1 b2).mono (hup _)
    · exact (step_none w o β sb m mb rb kv rv hv wv ks A h s h4 h5 hh n hA oN oM oT mn mx _ b1 b2 oK (fun j h1 h2 e => hs (by omega))).mono (hup _)
end Go.Proofs.Ytolobljlkdacjaa
