import Derived.Test.YtececlalnkiafaaHNote
import Derived.Laws.ResultCell
/- Gone, At, Noted. -/
namespace Go.Proofs.Ytececlalnkiafaa
open Go.RowKit Go
set_option maxRecDepth 100000

def goneE (h : Hs) (x i : Int) : Int := if x ≤ h.l then 171 else if (wasL (h.K i) h.l).th = true then 0 else 170
/-- A note that says gone. -/
def ntG (x : Int) : Nt := ⟨x, false, ⟨0, 0, ⟨#[]⟩, [], 0⟩, none, 0⟩
def Hs.gone (h : Hs) (x i : Int) : Hs := if goneE h x i = 0 then h.add i (ntG x) else h
theorem ntG_in (w : World) (G : Nat → Prop) (x : Int) : NtIn w G (ntG x) := ⟨SL.nil _ _, fun _ => ⟨rfl, rfl⟩, Nat.zero_le _, fun g o e => by cases e⟩

set_option maxHeartbeats 2000000 in
theorem gone_f {w : World} {F : Nat → Prop} {b : Nat} {h : Hs} (H : HF w F b h) (x i : Int) (hi : inR i) (hT : h.T < 70368744177664) :
    Calls Try.prog 11 #[.pointer (some ⟨b, 0, none⟩), .int .i64 x, .int .i64 i] w fun r w' => r = .returned (.int .i64 (goneE h x i)) ∧ HF w' F b (h.gone x i) ∧ Tch (fun g => ¬ F g) w w' := by
  obtain ⟨mb, sb, ns, H⟩ := H
  have q1 := was_w H h.l i hi (by omega)
  have HE : Hid (goneE h x i = if x ≤ h.l then 171 else if (wasL (h.K i) h.l).th = true then 0 else 170) := rfl
  obtain ⟨n, hn⟩ : ∃ n, n = wasL (h.K i) h.l := ⟨_, rfl⟩
  rw [← hn] at q1 HE
  obtain ⟨nt, hnt⟩ : ∃ nt, nt = n.th := ⟨_, rfl⟩
  unfold Nt.v at q1
  rw [← hnt] at q1 HE
  have hfd := fun W => fld1 (.int .i64 n.l) (.bool nt) (.int .i64 n.t.id) (.int .i64 n.t.ver) (.string n.t.nm) (.slice n.ao n.t.cols.length n.c) (.int .i64 n.t.key) W
  have c1 := H.c.2.1
  have HH : Hid (HW w F b mb sb ns h) := H
  have HT' : Hid (h.T < 70368744177664) := hT
  have HNF : Hid (∀ (S : Nat → Prop) W, Tch S w W → (∀ g, g < w.heap.size → S g → ¬ F g) → Tch (fun g => ¬ F g) w W) := fun S W tW hS => tW.mono hS
  clear H hT hn hnt
  go_enter Try.func11, Try.ntmps11
  by_cases hle : x ≤ h.l
  · go_wp2_with fail
    go_ret
    have e0 : goneE h x i = 171 := by rw [HE.out, if_pos hle]
    refine ⟨by rw [e0]; rfl, ⟨mb, sb, ns, ?_⟩, Tch.refl _ _⟩
    unfold Hs.gone
    rw [e0]
    exact HH.out
  · go_wp2_with fail
    refine q1.mono ?_
    rintro e w2 ⟨rfl, t2⟩
    clear q1 c1
    have H2 := HH.out.tch t2 (fun _ _ e => e.elim)
    cases nt with
    | false =>
      go_wp2_with fail
      go_ret
      have e0 : goneE h x i = 170 := by rw [HE.out, if_neg (by omega)]; rfl
      refine ⟨by rw [e0]; rfl, ⟨mb, sb, ns, ?_⟩, HNF.out _ _ t2 (fun _ _ e => e.elim)⟩
      unfold Hs.gone
      rw [e0]
      exact H2
    | true =>
      have q2 := note_w H2 i (ntG x) hi (ntG_in _ _ _) HT'.out
      unfold Nt.v ntG at q2
      have HT2 : Hid (Tch (fun _ => False) w w2) := t2
      clear H2 t2
      go_wp2_with fail
      refine q2.mono ?_
      rintro e w4 ⟨rfl, ⟨ns', H4⟩, t4⟩
      have HH4 : Hid (HW w4 F b mb sb ns' (h.add i (ntG x))) := H4
      have HT4 : Hid (Tch (fun g => ¬ F g) w w4) := (HNF.out _ _ HT2.out (fun _ _ e => e.elim)).trans t4 (fun g _ e => by
        rcases e with e | e | e
        · rw [e]; exact HH.out.fb
        · rw [e]; exact HH.out.fm
        · rw [e]; exact HH.out.fs)
      clear q2 H4 t4
      go_wp2_with fail
      go_ret
      have e0 : goneE h x i = 0 := by rw [HE.out, if_neg (by omega)]; rfl
      refine ⟨by rw [e0]; rfl, ⟨mb, sb, ns', ?_⟩, HT4.out⟩
      unfold Hs.gone
      rw [if_pos e0]
      exact HH4.out

theorem noted_f {w : World} {F : Nat → Prop} {b : Nat} {h : Hs} (H : HF w F b h) :
    Calls Try.prog 13 #[.pointer (some ⟨b, 0, none⟩)] w fun r w' => r = .returned (.int .i64 h.sz) ∧ w' = w := by
  obtain ⟨mb, sb, ns, H⟩ := H
  have c2 := H.c.2.2.1
  have hl := fun ty => H.nm.len ty
  clear H
  go_enter Try.func13, Try.ntmps13
  go_wp2_with fail
  go_ret
  exact ⟨rfl, rfl⟩
end Go.Proofs.Ytececlalnkiafaa
