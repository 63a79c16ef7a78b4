import Derived.Test.YtnjiiebjdpipjaaSGone
import Derived.Test.YtnjiiebjdpipjaaSTEnds
import Derived.Test.YtnjiiebjdpipjaaTFloor
import Derived.Test.YtnjiiebjdpipjaaTKnown
import Derived.Test.YtnjiiebjdpipjaaOrdv
import Derived.Deep.DeepCutAuto
import Derived.Deep.CutBlock
/- TreeSorts: the slots that it leans on; its loops. -/
namespace Go.Proofs.Ytnjiiebjdpipjaa.S
open Go.RowKit Go

def loops : Code → List Code
  | .loop c => c :: loops c
  | .seq a b => loops a ++ loops b
  | .block _ c => loops c
  | .scope c => loops c
  | .cond _ a b => loops a ++ loops b
  | _ => []
def rngs : Code → List Code
  | .rangeFunc g ps a b => [.rangeFunc g ps a b]
  | .loop c => rngs c
  | .seq a b => rngs a ++ rngs b
  | .block _ c => rngs c
  | .scope c => rngs c
  | .cond _ a b => rngs a ++ rngs b
  | _ => []
noncomputable def sLoops : List Code := (Try.f4.body.elim [] loops)
noncomputable def sBody1 : Code := sLoops.getD 0 .skip
noncomputable def sBody2 : Code := sLoops.getD 1 .skip
noncomputable def sBody3 : Code := sLoops.getD 2 .skip
noncomputable def sRng : Code := (Try.f4.body.elim [] rngs).getD 0 .skip
theorem arr222 (a : Array Value) (h : a.size = 222) : a = ((List.range 222).map (fun n => a.getD n undef)).toArray := by
  refine Array.ext (by simp [h]) (fun n h1 h2 => ?_)
  simp [Array.getD, h1]
structure Fz (T : Array Value) (g kp r b i7 p i16 i20 c : Value) : Prop where
  size : T.size = 222
  s1 : T.getD 1 undef = g
  s2 : T.getD 2 undef = kp
  s4 : T.getD 4 undef = r
  s6 : T.getD 6 undef = b
  s7 : T.getD 7 undef = i7
  s12 : T.getD 12 undef = p
  s16 : T.getD 16 undef = i16
  s20 : T.getD 20 undef = i20
  s91 : T.getD 91 undef = c
set_option maxRecDepth 100000 in
theorem Fz.use {T : Array Value} {g kp r b i7 p i16 i20 c : Value} {P : Array Value → Prop} (h : Fz T g kp r b i7 p i16 i20 c) (H : ∀ u : Nat → Value, P (List.toArray (u 0 :: g :: kp :: u 3 :: r :: u 5 :: b :: i7 :: u 8 :: u 9 :: u 10 :: u 11 :: p :: u 13 :: u 14 :: u 15 :: i16 :: u 17 :: u 18 :: u 19 :: i20 :: u 21 :: u 22 :: u 23 :: u 24 :: u 25 :: u 26 :: u 27 :: u 28 :: u 29 :: u 30 :: u 31 :: u 32 :: u 33 :: u 34 :: u 35 :: u 36 :: u 37 :: u 38 :: u 39 :: u 40 :: u 41 :: u 42 :: u 43 :: u 44 :: u 45 :: u 46 :: u 47 :: u 48 :: u 49 :: u 50 :: u 51 :: u 52 :: u 53 :: u 54 :: u 55 :: u 56 :: u 57 :: u 58 :: u 59 :: u 60 :: u 61 :: u 62 :: u 63 :: u 64 :: u 65 :: u 66 :: u 67 :: u 68 :: u 69 :: u 70 :: u 71 :: u 72 :: u 73 :: u 74 :: u 75 :: u 76 :: u 77 :: u 78 :: u 79 :: u 80 :: u 81 :: u 82 :: u 83 :: u 84 :: u 85 :: u 86 :: u 87 :: u 88 :: u 89 :: u 90 :: c :: u 92 :: u 93 :: u 94 :: u 95 :: u 96 :: u 97 :: u 98 :: u 99 :: u 100 :: u 101 :: u 102 :: u 103 :: u 104 :: u 105 :: u 106 :: u 107 :: u 108 :: u 109 :: u 110 :: u 111 :: u 112 :: u 113 :: u 114 :: u 115 :: u 116 :: u 117 :: u 118 :: u 119 :: u 120 :: u 121 :: u 122 :: u 123 :: u 124 :: u 125 :: u 126 :: u 127 :: u 128 :: u 129 :: u 130 :: u 131 :: u 132 :: u 133 :: u 134 :: u 135 :: u 136 :: u 137 :: u 138 :: u 139 :: u 140 :: u 141 :: u 142 :: u 143 :: u 144 :: u 145 :: u 146 :: u 147 :: u 148 :: u 149 :: u 150 :: u 151 :: u 152 :: u 153 :: u 154 :: u 155 :: u 156 :: u 157 :: u 158 :: u 159 :: u 160 :: u 161 :: u 162 :: u 163 :: u 164 :: u 165 :: u 166 :: u 167 :: u 168 :: u 169 :: u 170 :: u 171 :: u 172 :: u 173 :: u 174 :: u 175 :: u 176 :: u 177 :: u 178 :: u 179 :: u 180 :: u 181 :: u 182 :: u 183 :: u 184 :: u 185 :: u 186 :: u 187 :: u 188 :: u 189 :: u 190 :: u 191 :: u 192 :: u 193 :: u 194 :: u 195 :: u 196 :: u 197 :: u 198 :: u 199 :: u 200 :: u 201 :: u 202 :: u 203 :: u 204 :: u 205 :: u 206 :: u 207 :: u 208 :: u 209 :: u 210 :: u 211 :: u 212 :: u 213 :: u 214 :: u 215 :: u 216 :: u 217 :: u 218 :: u 219 :: u 220 :: u 221 :: []))) : P T := by
  have h1 := arr222 T h.size
  obtain ⟨u, hu⟩ : ∃ u : Nat → Value, u = fun n => T.getD n undef := ⟨_, rfl⟩
  have e : ∀ n, T.getD n undef = u n := fun n => by rw [hu]
  have e1 : u 1 = g := (e 1).symm.trans h.s1
  have e2 : u 2 = kp := (e 2).symm.trans h.s2
  have e4 : u 4 = r := (e 4).symm.trans h.s4
  have e6 : u 6 = b := (e 6).symm.trans h.s6
  have e7 : u 7 = i7 := (e 7).symm.trans h.s7
  have e12 : u 12 = p := (e 12).symm.trans h.s12
  have e16 : u 16 = i16 := (e 16).symm.trans h.s16
  have e20 : u 20 = i20 := (e 20).symm.trans h.s20
  have e91 : u 91 = c := (e 91).symm.trans h.s91
  have h2 : T = (List.toArray (u 0 :: g :: kp :: u 3 :: r :: u 5 :: b :: i7 :: u 8 :: u 9 :: u 10 :: u 11 :: p :: u 13 :: u 14 :: u 15 :: i16 :: u 17 :: u 18 :: u 19 :: i20 :: u 21 :: u 22 :: u 23 :: u 24 :: u 25 :: u 26 :: u 27 :: u 28 :: u 29 :: u 30 :: u 31 :: u 32 :: u 33 :: u 34 :: u 35 :: u 36 :: u 37 :: u 38 :: u 39 :: u 40 :: u 41 :: u 42 :: u 43 :: u 44 :: u 45 :: u 46 :: u 47 :: u 48 :: u 49 :: u 50 :: u 51 :: u 52 :: u 53 :: u 54 :: u 55 :: u 56 :: u 57 :: u 58 :: u 59 :: u 60 :: u 61 :: u 62 :: u 63 :: u 64 :: u 65 :: u 66 :: u 67 :: u 68 :: u 69 :: u 70 :: u 71 :: u 72 :: u 73 :: u 74 :: u 75 :: u 76 :: u 77 :: u 78 :: u 79 :: u 80 :: u 81 :: u 82 :: u 83 :: u 84 :: u 85 :: u 86 :: u 87 :: u 88 :: u 89 :: u 90 :: c :: u 92 :: u 93 :: u 94 :: u 95 :: u 96 :: u 97 :: u 98 :: u 99 :: u 100 :: u 101 :: u 102 :: u 103 :: u 104 :: u 105 :: u 106 :: u 107 :: u 108 :: u 109 :: u 110 :: u 111 :: u 112 :: u 113 :: u 114 :: u 115 :: u 116 :: u 117 :: u 118 :: u 119 :: u 120 :: u 121 :: u 122 :: u 123 :: u 124 :: u 125 :: u 126 :: u 127 :: u 128 :: u 129 :: u 130 :: u 131 :: u 132 :: u 133 :: u 134 :: u 135 :: u 136 :: u 137 :: u 138 :: u 139 :: u 140 :: u 141 :: u 142 :: u 143 :: u 144 :: u 145 :: u 146 :: u 147 :: u 148 :: u 149 :: u 150 :: u 151 :: u 152 :: u 153 :: u 154 :: u 155 :: u 156 :: u 157 :: u 158 :: u 159 :: u 160 :: u 161 :: u 162 :: u 163 :: u 164 :: u 165 :: u 166 :: u 167 :: u 168 :: u 169 :: u 170 :: u 171 :: u 172 :: u 173 :: u 174 :: u 175 :: u 176 :: u 177 :: u 178 :: u 179 :: u 180 :: u 181 :: u 182 :: u 183 :: u 184 :: u 185 :: u 186 :: u 187 :: u 188 :: u 189 :: u 190 :: u 191 :: u 192 :: u 193 :: u 194 :: u 195 :: u 196 :: u 197 :: u 198 :: u 199 :: u 200 :: u 201 :: u 202 :: u 203 :: u 204 :: u 205 :: u 206 :: u 207 :: u 208 :: u 209 :: u 210 :: u 211 :: u 212 :: u 213 :: u 214 :: u 215 :: u 216 :: u 217 :: u 218 :: u 219 :: u 220 :: u 221 :: [])) := by
    refine h1.trans ?_
    rw [← hu]
    show List.toArray (u 0 :: u 1 :: u 2 :: u 3 :: u 4 :: u 5 :: u 6 :: u 7 :: u 8 :: u 9 :: u 10 :: u 11 :: u 12 :: u 13 :: u 14 :: u 15 :: u 16 :: u 17 :: u 18 :: u 19 :: u 20 :: u 21 :: u 22 :: u 23 :: u 24 :: u 25 :: u 26 :: u 27 :: u 28 :: u 29 :: u 30 :: u 31 :: u 32 :: u 33 :: u 34 :: u 35 :: u 36 :: u 37 :: u 38 :: u 39 :: u 40 :: u 41 :: u 42 :: u 43 :: u 44 :: u 45 :: u 46 :: u 47 :: u 48 :: u 49 :: u 50 :: u 51 :: u 52 :: u 53 :: u 54 :: u 55 :: u 56 :: u 57 :: u 58 :: u 59 :: u 60 :: u 61 :: u 62 :: u 63 :: u 64 :: u 65 :: u 66 :: u 67 :: u 68 :: u 69 :: u 70 :: u 71 :: u 72 :: u 73 :: u 74 :: u 75 :: u 76 :: u 77 :: u 78 :: u 79 :: u 80 :: u 81 :: u 82 :: u 83 :: u 84 :: u 85 :: u 86 :: u 87 :: u 88 :: u 89 :: u 90 :: u 91 :: u 92 :: u 93 :: u 94 :: u 95 :: u 96 :: u 97 :: u 98 :: u 99 :: u 100 :: u 101 :: u 102 :: u 103 :: u 104 :: u 105 :: u 106 :: u 107 :: u 108 :: u 109 :: u 110 :: u 111 :: u 112 :: u 113 :: u 114 :: u 115 :: u 116 :: u 117 :: u 118 :: u 119 :: u 120 :: u 121 :: u 122 :: u 123 :: u 124 :: u 125 :: u 126 :: u 127 :: u 128 :: u 129 :: u 130 :: u 131 :: u 132 :: u 133 :: u 134 :: u 135 :: u 136 :: u 137 :: u 138 :: u 139 :: u 140 :: u 141 :: u 142 :: u 143 :: u 144 :: u 145 :: u 146 :: u 147 :: u 148 :: u 149 :: u 150 :: u 151 :: u 152 :: u 153 :: u 154 :: u 155 :: u 156 :: u 157 :: u 158 :: u 159 :: u 160 :: u 161 :: u 162 :: u 163 :: u 164 :: u 165 :: u 166 :: u 167 :: u 168 :: u 169 :: u 170 :: u 171 :: u 172 :: u 173 :: u 174 :: u 175 :: u 176 :: u 177 :: u 178 :: u 179 :: u 180 :: u 181 :: u 182 :: u 183 :: u 184 :: u 185 :: u 186 :: u 187 :: u 188 :: u 189 :: u 190 :: u 191 :: u 192 :: u 193 :: u 194 :: u 195 :: u 196 :: u 197 :: u 198 :: u 199 :: u 200 :: u 201 :: u 202 :: u 203 :: u 204 :: u 205 :: u 206 :: u 207 :: u 208 :: u 209 :: u 210 :: u 211 :: u 212 :: u 213 :: u 214 :: u 215 :: u 216 :: u 217 :: u 218 :: u 219 :: u 220 :: u 221 :: []) = _
    rw [e1, e2, e4, e6, e7, e12, e16, e20, e91]
  rw [h2]
  exact H u
theorem nodup_len : ∀ (a b : List ByteArray), a.Nodup → (∀ x ∈ a, x ∈ b) → a.length ≤ b.length
  | [], _, _, _ => Nat.zero_le _
  | x :: a, b, hn, hs => by
    obtain ⟨h1, h2⟩ := List.nodup_cons.1 hn
    have hx : x ∈ b := hs x (by simp)
    obtain ⟨s, t, rfl⟩ := List.append_of_mem hx
    have := nodup_len a (s ++ t) h2 (fun y hy => by
      have hne : y ≠ x := fun e => h1 (e ▸ hy)
      have := hs y (by simp [hy])
      simp only [List.mem_append, List.mem_cons] at this ⊢
      rcases this with h | h | h
      · exact .inl h
      · exact absurd h hne
      · exact .inr h)
    simp only [List.length_cons, List.length_append] at this ⊢
    omega
theorem FE.len {l : List It} {S : ByteArray → Prop} {kl : List ByteArray} (h : FE l S) (hs : Sorted l) (hk : ∀ x, S x → x ∈ kl) : l.length ≤ kl.length := by
  have h1 : (l.map (·.1)).Nodup := by
    unfold List.Nodup
    rw [List.pairwise_map]
    refine hs.imp (fun {a b} hab e => ?_)
    unfold KL at hab
    rw [e, kc_self] at hab
    omega
  have := nodup_len (l.map (·.1)) kl h1 (fun x hx => by
    obtain ⟨e, he, rfl⟩ := List.mem_map.1 hx
    exact hk _ ((h e).1 he).1)
  simpa using this
end Go.Proofs.Ytnjiiebjdpipjaa.S
/- TreeSorts: loop 1: some keys are taken away. -/
namespace Go.Proofs.Ytnjiiebjdpipjaa.S
open Go.RowKit Go

set_option maxHeartbeats 4000000 in
set_option maxRecDepth 100000 in
theorem loop1 (w W : World) (b : Nat) (gl : List ByteArray) (go : Option Addr) (gcp : Nat) (P0 : ByteArray → Prop) (hgl : gl.length ≤ 9223372036854775807) (HG : Hid (SR w go gl)) (HF0 : Hid (FS w W b P0 2000)) {T : Array Value} {kp r p i16 i20 c : Value}
    (hf : Fz T (.slice go gl.length gcp) kp r (pv b) (.int .i64 0) p i16 i20 c) (Q0 : Exit → Act → World → Prop)
    (Hexit : Hid (∀ (T' : Array Value) (i7' : Value) (W' : World), Fz T' (.slice go gl.length gcp) kp r (pv b) i7' p i16 i20 c → FS w W' b (fun x => P0 x ∧ ¬ Ky gl 2000 x) 2000 → Q0 (.exit 0) ⟨T', []⟩ W')) :
    Code.wp Try.prog (Code.loop sBody1) Q0 ⟨T, []⟩ W := by
  refine hf.use (P := fun T => Code.wp Try.prog (Code.loop sBody1) Q0 ⟨T, []⟩ W) ?_
  clear hf T
  intro u
  obtain ⟨n, hn⟩ : ∃ n, n = gl.length := ⟨_, rfl⟩
  have Hn : Hid (n = gl.length) := hn
  have hnI : (n : Int) ≤ 9223372036854775807 := by omega
  rw [← hn] at Hexit ⊢
  clear hn hgl
  conv => arg 2; arg 1; whnf
  go_loopw [7] (fun s7 wr => ∃ (W : World) (i : Nat), W = wr ∧ s7 = .int .i64 i ∧ i ≤ 2000 ∧ i ≤ n ∧ Hid (FS w W b (fun x => P0 x ∧ ¬ Ky gl i x) 2000)) (fun s7 _ => 2000 - (intOf s7).toNat)
  case atStart =>
    refine ⟨_, 0, rfl, rfl, by omega, by omega, ?_⟩
    obtain ⟨l4, ht4, a1, a2, a3⟩ := HF0.out
    exact ⟨l4, ht4, a1, a2.congr (fun x => by simp [Ky]), a3⟩
  case round =>
    obtain ⟨wr, i, rfl, rfl, hi, hin, HF⟩ := hrel
    clear HF0
    by_cases hlt : (i : Int) < n
    · by_cases h2 : (i : Int) < 2000
      · obtain ⟨k, hk⟩ : ∃ k, gl[i]? = some k := ⟨gl[i]'(by have := Hn.out; omega), List.getElem?_eq_getElem _⟩
        obtain ⟨g, o, e, hc⟩ := (HG.out.no HF.out.tch) i k hk
        subst e
        have q1 := HF.out.del (by omega) k
        have Hk : Hid (gl[i]? = some k) := hk
        clear hk HF
        have HGr : Hid (∀ W, Tch (fun _ => False) w W → W.cell? ⟨g, o + i, none⟩ = some (.string k)) := fun W t => by
          obtain ⟨g', o', e, hc⟩ := (HG.out.no t) i k Hk.out
          injection e with e
          injection e with e1 e2
          subst e1; subst e2
          exact hc
        go_wp2_with fail
        refine q1.mono ?_
        clear q1 hc
        rintro x w1 ⟨old, th, rfl, hr, hF1⟩
        have hc := HGr.out w1 hF1.tch
        have q2 := hF1.get k
        have H1 : Hid (FS w w1 b (fun x => (P0 x ∧ ¬ Ky gl i x) ∧ x ≠ k) 2000) := hF1
        clear hF1
        have HE : Hid (∀ W, FS w W b (fun x => (P0 x ∧ ¬ Ky gl i x) ∧ x ≠ k) 2000 → FS w W b (fun x => P0 x ∧ ¬ Ky gl (i + 1) x) 2000) := fun W hW => by
          obtain ⟨l4, ht4, a1, a2, a3⟩ := hW
          refine ⟨l4, ht4, a1, a2.congr (fun x => ?_), a3⟩
          have := Ky_succ Hk.out x
          rw [← this]
          constructor
          · rintro ⟨⟨h1, h2⟩, h3⟩
            exact ⟨h1, fun h => h.elim h2 h3⟩
          · rintro ⟨h1, h2⟩
            exact ⟨⟨h1, fun h => h2 (.inl h)⟩, fun h => h2 (.inr h)⟩
        have hold : (th = true ∧ old = k) ∨ (th = false ∧ old = ⟨#[]⟩) := hr.elim (fun h => .inl ⟨h.1, h.2.1⟩) (fun h => .inr ⟨h.1, h.2.1⟩)
        clear hr
        have q3 : Calls Try.prog 18 #[pv b, .string k] w1 fun y w' => y = .returned (.tuple #[ev ⟨#[]⟩, .bool false]) ∧ FS w w' b (fun x => (P0 x ∧ ¬ Ky gl i x) ∧ x ≠ k) 2000 := by
          refine q2.mono ?_
          rintro y w' ⟨v, th2, rfl, hv, hF⟩
          rcases hv with ⟨_, _, hv⟩ | ⟨rfl, rfl, _⟩
          · exact absurd rfl hv.2
          · exact ⟨rfl, hF⟩
        clear q2
        rcases hold with ⟨rfl, rfl⟩ | ⟨rfl, rfl⟩
        · go_wp2_with fail
          refine q3.mono ?_
          clear q3 hc
          rintro x w2 ⟨rfl, h2⟩
          have hc := HGr.out w2 h2.tch
          have H2 : Hid (FS w w2 b (fun x => P0 x ∧ ¬ Ky gl (i + 1) x) 2000) := HE.out w2 h2
          clear h2
          go_wp2_with fail
          go_roundw
          case measure => simp [intOf]; omega
          case rel => exact ⟨_, i + 1, rfl, by go_num, by omega, by omega, H2⟩
        · go_wp2_with fail
          refine q3.mono ?_
          clear q3 hc
          rintro x w2 ⟨rfl, h2⟩
          have hc := HGr.out w2 h2.tch
          have H2 : Hid (FS w w2 b (fun x => P0 x ∧ ¬ Ky gl (i + 1) x) 2000) := HE.out w2 h2
          clear h2
          go_wp2_with fail
          go_roundw
          case measure => simp [intOf]; omega
          case rel => exact ⟨_, i + 1, rfl, by go_num, by omega, by omega, H2⟩
      · obtain rfl : i = 2000 := by omega
        have HX := Hexit
        clear Hexit
        go_wp2_with fail
        exact HX.out _ _ _ ⟨rfl, rfl, rfl, rfl, rfl, rfl, rfl, rfl, rfl, rfl⟩ HF.out
    · have hln : gl.length ≤ i := by have := Hn.out; omega
      have H4 : Hid (FS w wr b (fun x => P0 x ∧ ¬ Ky gl 2000 x) 2000) := by
        obtain ⟨l4, ht4, a1, a2, a3⟩ := HF.out
        refine ⟨l4, ht4, a1, a2.congr (fun x => ?_), by omega⟩
        unfold Ky
        rw [List.take_of_length_le hln, List.take_of_length_le (by omega)]
      have HX := Hexit
      clear Hexit HF hln
      go_wp2_with fail
      exact HX.out _ _ _ ⟨rfl, rfl, rfl, rfl, rfl, rfl, rfl, rfl, rfl, rfl⟩ H4.out
end Go.Proofs.Ytnjiiebjdpipjaa.S
