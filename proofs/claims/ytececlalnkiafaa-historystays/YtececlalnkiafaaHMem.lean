import Derived.Test.YtececlalnkiafaaHMap
import Derived.Test.YtececlalnkiafaaHPure
import Derived.Test.YtececlalnkiafaaCTO
/- A history in the world. -/
namespace Go.Proofs.Ytececlalnkiafaa
open Go.RowKit Go
set_option maxRecDepth 100000

abbrev Nt.v (n : Nt) : Value := .agg #[.int .i64 n.l, .bool n.th, .int .i64 n.t.id, .int .i64 n.t.ver, .string n.t.nm, .slice n.ao n.t.cols.length n.c, .int .i64 n.t.key]
def nG (K : Int → List Nt) (f : Int → Nat) (i p : Int) : Option Value := if (f i : Int) ≤ p then ((K i)[(p - f i).toNat]?).map Nt.v else none
def sG (K : Int → List Nt) (f : Int → Nat) (i : Int) : Option Value := if (K i).isEmpty = true then none else some (spanV (f i) ((f i : Int) + (K i).length))
/-- A note's columns, for reading; none of the blocks G is theirs. -/
structure NtIn (w : World) (G : Nat → Prop) (n : Nt) : Prop where
  sl : SL w n.ao (ccl n.t.cols)
  no : n.ao = none → n.t.cols = [] ∧ n.c = 0
  le : n.t.cols.length ≤ 8
  nf : ∀ g o, n.ao = some ⟨g, o, none⟩ → ¬ G g ∧ g < w.heap.size
theorem NtIn.tch {S G : Nat → Prop} {w w' : World} {n : Nt} (h : NtIn w G n) (t : Tch S w w') (hS : ∀ g, g < w.heap.size → S g → G g) : NtIn w' G n :=
  ⟨h.sl.tch t (fun g o e hs => (h.nf g o e).1 (hS g (h.nf g o e).2 hs)), h.no, h.le, fun g o e => ⟨(h.nf g o e).1, Nat.lt_of_lt_of_le (h.nf g o e).2 t.size⟩⟩
theorem NtIn.mono {G G' : Nat → Prop} {w : World} {n : Nt} (h : NtIn w G n) (hG : ∀ g, g < w.heap.size → G' g → G g) : NtIn w G' n :=
  ⟨h.sl, h.no, h.le, fun g o e => ⟨fun hg => (h.nf g o e).1 (hG g (h.nf g o e).2 hg), (h.nf g o e).2⟩⟩
def own3 (F : Nat → Prop) (b mb sb : Nat) : Nat → Prop := fun g => F g ∨ g = b ∨ g = mb ∨ g = sb
structure HW (w : World) (F : Nat → Prop) (b mb sb ns : Nat) (h : Hs) : Prop where
  blk : w.heap[b]? = some (.cells #[.int .i64 h.b, .int .i64 h.l, .map (some mb), .map (some sb)] 73 (0, 0))
  nm : NM w mb h.sz (nG h.K h.f)
  sm : SM w sb ns (sG h.K h.f)
  fb : ¬ F b
  fm : ¬ F mb
  fs : ¬ F sb
  bm : b ≠ mb
  bs : b ≠ sb
  ms : mb ≠ sb
  nt : ∀ i n, n ∈ h.K i → NtIn w (own3 F b mb sb) n
  f0 : ∀ i, h.K i = [] → h.f i = 0
  pl : ∀ i, h.f i + (h.K i).length ≤ h.T
  sz : h.sz ≤ h.T
  nl : ns ≤ h.T
  id : ∀ i, h.K i ≠ [] → inR i
  tot : Tot h.K h.sz
theorem HW.tch {S F : Nat → Prop} {w w' : World} {b mb sb ns : Nat} {h : Hs} (H : HW w F b mb sb ns h) (t : Tch S w w') (hS : ∀ g, g < w.heap.size → S g → F g) : HW w' F b mb sb ns h :=
  { H with
    blk := (t.block b (blk_lt H.blk) (fun e => H.fb (hS _ (blk_lt H.blk) e))).trans H.blk
    nm := H.nm.tch t (fun e => H.fm (hS _ H.nm.lt e))
    sm := H.sm.tch t (fun e => H.fs (hS _ H.sm.lt e))
    nt := fun i n hn => (H.nt i n hn).tch t (fun g hg e => .inl (hS g hg e)) }
theorem HW.mono {F F' : Nat → Prop} {w : World} {b mb sb ns : Nat} {h : Hs} (H : HW w F b mb sb ns h) (hF : ∀ g, g < w.heap.size → F' g → F g) : HW w F' b mb sb ns h :=
  { H with
    fb := fun e => H.fb (hF _ (blk_lt H.blk) e)
    fm := fun e => H.fm (hF _ H.nm.lt e)
    fs := fun e => H.fs (hF _ H.sm.lt e)
    nt := fun i n hn => (H.nt i n hn).mono (fun g hg e => e.elim (fun e => .inl (hF g hg e)) .inr) }
/-- A history at b that owns none of the blocks F. -/
def HF (w : World) (F : Nat → Prop) (b : Nat) (h : Hs) : Prop := ∃ mb sb ns, HW w F b mb sb ns h
theorem HF.tch {S F : Nat → Prop} {w w' : World} {b : Nat} {h : Hs} (H : HF w F b h) (t : Tch S w w') (hS : ∀ g, g < w.heap.size → S g → F g) : HF w' F b h := by
  obtain ⟨mb, sb, ns, H⟩ := H
  exact ⟨mb, sb, ns, H.tch t hS⟩
theorem HF.no {F : Nat → Prop} {w w' : World} {b : Nat} {h : Hs} (H : HF w F b h) (t : Tch (fun _ => False) w w') : HF w' F b h := H.tch t (fun _ _ e => e.elim)
theorem HF.mono {F F' : Nat → Prop} {w : World} {b : Nat} {h : Hs} (H : HF w F b h) (hF : ∀ g, g < w.heap.size → F' g → F g) : HF w F' b h := by
  obtain ⟨mb, sb, ns, H⟩ := H
  exact ⟨mb, sb, ns, H.mono hF⟩
theorem sG_get (K : Int → List Nt) (f : Int → Nat) (i : Int) (h : K i = [] → f i = 0) : (sG K f i).getD (spanV 0 0) = spanV (f i) ((f i : Int) + (K i).length) := by
  unfold sG
  cases hK : K i with
  | nil => rw [h hK]; rfl
  | cons n r => simp
theorem nG_get (K : Int → List Nt) (f : Int → Nat) (i : Int) (j : Nat) {n : Nt} (h : (K i)[j]? = some n) : nG K f i ((f i : Int) + j) = some n.v := by
  unfold nG
  rw [if_pos (by omega), show ((f i : Int) + j - f i).toNat = j by omega, h]
  rfl
theorem inR_nat {n : Nat} (h : n ≤ 140737488355328) : inR (n : Int) := by unfold inR; omega
/-- What the two maps tell. -/
theorem HW.span {w : World} {F : Nat → Prop} {b mb sb ns : Nat} {h : Hs} (H : HW w F b mb sb ns h) {i : Int} (hi : inR i) : (Instr.lookup 71 (.map (some sb)) (.int .i64 i) false).run Try.prog w = .ok (spanV (h.f i) ((h.f i : Int) + (h.K i).length)) w := by
  rw [H.sm.look hi, sG_get _ _ _ (H.f0 i)]
theorem HW.note {w : World} {F : Nat → Prop} {b mb sb ns : Nat} {h : Hs} (H : HW w F b mb sb ns h) {i p : Int} (hi : inR i) {j : Nat} {n : Nt} (hp : p = (h.f i : Int) + j) (hn : (h.K i)[j]? = some n) (hT : h.T ≤ 140737488355328) : (Instr.lookup 70 (.map (some mb)) (keyV i p) false).run Try.prog w = .ok n.v w := by
  have hj := (List.getElem?_eq_some_iff.1 hn).1
  have := H.pl i
  rw [H.nm.look hi (by unfold inR; omega), hp, nG_get _ _ _ _ hn]
  rfl
end Go.Proofs.Ytececlalnkiafaa
