import Derived.Test.YtmaekkhmiafnmaaGreatDoorEV5
namespace Go.Proofs.YtmaekkhmiafnmaaGreatDoor
open Go Go.Lib
abbrev depL (l : List Ex) : Nat := dep.depL l
theorem depL_app : ∀ (l m : List Ex), depL (l ++ m) = max (depL l) (depL m)
  | [], m => by simp [dep.depL]
  | e :: l, m => by
    show max (dep e) (depL (l ++ m)) = max (max (dep e) (depL l)) (depL m)
    rw [depL_app l m]; omega
theorem depL_one (e : Ex) : depL [e] = dep e := by show max (dep e) 0 = dep e; omega
theorem dep_mk (o : Nat) (no : Bool) (v : Val) (nm : ByteArray) (l : List Ex) : dep (.mk o no v nm l) = depL l + 1 := rfl
theorem depL_mk (o : Nat) (no : Bool) (v : Val) (nm : ByteArray) (l : List Ex) : depL [.mk o no v nm l] = depL l + 1 := by rw [depL_one, dep_mk]
def ledep (m : Nat) (l : List Ex) : Prop := depL l ≤ m
theorem ledep.mk {m o : Nat} {no : Bool} {v : Val} {nm : ByteArray} {l : List Ex} (h : ledep m l) : ledep (m + 1) [.mk o no v nm l] := by
  unfold ledep at h ⊢; rw [depL_mk]; omega
theorem ledep.app {m : Nat} {l k : List Ex} (h : ledep m l) (g : ledep m k) : ledep m (l ++ k) := by
  unfold ledep at h g ⊢; rw [depL_app]; omega
theorem ledep.mono {m n : Nat} {l : List Ex} (h : ledep m l) (hn : m ≤ n) : ledep n l := Nat.le_trans h hn
theorem ledep.nil {m : Nat} : ledep m [] := Nat.zero_le _
theorem Okx.mono {x : Rs} {A B : List Ex → Prop} (h : Okx x A) (hB : ∀ l, A l → B l) : Okx x B := fun l r e => hB l (h l r e)
theorem num_dep {a : List UInt8} {t : Tk} {r : List Tk} {m : Nat} : Okx (numT a t r) (ledep (m + 1)) := by
  unfold numT
  split
  · exact Okx.ok (ledep.nil (m := m)).mk
  · exact Okx.no
theorem cmpR_dep {P : NT → List Tk → Rs} {m : Nat} (h5 : ∀ ts, Okx (P (.line 5) ts) (ledep m)) (hl : ∀ ts, Okx (P (.list []) ts) (ledep m)) {a : List Ex} (ha : ledep m a) (r : List Tk) : Okx (cmpR P a r) (ledep (m + 1)) := by
  unfold cmpR
  split
  · exact (h5 _).bind fun b r1 hb => Okx.ok (ha.app hb).mk
  · split
    · split
      · exact Okx.want fun r2 => Okx.ok ha.mk
      · exact Okx.want fun r2 => Okx.ok ha.mk
    · split
      · exact Okx.want fun r2 => (hl _).bind fun l r3 hl => Okx.want fun r4 => Okx.ok (ha.app hl).mk
      · exact (h5 _).bind fun b r2 hb => Okx.want fun r3 => (h5 _).bind fun c r4 hc => Okx.ok (ha.app (hb.app hc)).mk
      · exact (h5 _).bind fun b r1 hb => Okx.ok (ha.app hb).mk
      · split
        · exact Okx.no
        · exact Okx.ok (ha.mono (by omega))
theorem firstR_dep {P : NT → List Tk → Rs} {m : Nat} (h1 : ∀ ts, Okx (P (.line 1) ts) (ledep m)) (hl : ∀ ts, Okx (P (.list []) ts) (ledep m)) (hw : ∀ ts, Okx (P (.whens []) ts) (ledep (m + 1))) : ∀ ts, Okx (firstR P ts) (ledep (m + 1))
  | [] => Okx.out
  | t :: r => by
    have h0 := (ledep.nil (m := m))
    simp only [firstR]
    split
    · exact num_dep
    · split
      · exact Okx.ok h0.mk
      · split
        · unfold wordR
          split
          · exact Okx.ok h0.mk
          · split
            · exact Okx.want fun r1 => hw _
            · split
              · exact Okx.no
              · split
                · split
                  · exact Okx.no
                  · refine (hl _).bind fun l r1 hl => Okx.want fun r2 => ?_
                    split
                    · exact Okx.ok hl.mk
                    · exact Okx.no
                · exact Okx.ok h0.mk
        · split
          · exact (h1 _).bind fun e r1 he => Okx.want fun r2 => Okx.ok (he.mono (by omega))
          · exact Okx.no
def ntD (n : Nat) : NT → List Ex → Prop
  | .list acc => fun l => ∀ d, ledep d acc → n * n ≤ d → ledep d l
  | .whens acc => fun l => ∀ d, ledep d acc → n * n ≤ d → ledep (d + 1) l
  | .more _ e => fun l => ∀ d, ledep d e → n * n ≤ d → ledep (d + n) l
  | .line _ => ledep (n * n)
theorem sq_succ (n : Nat) : (n + 1) * (n + 1) = n * n + n + n + 1 := by rw [Nat.add_mul, Nat.mul_add]; omega
theorem rd_dep : ∀ (n : Nat) (nt : NT) (ts : List Tk), Okx (rd n nt ts) (ntD n nt)
  | 0, _, _ => Okx.out
  | n + 1, .line k, ts => by
    have ih := rd_dep n
    have hq := sq_succ n
    have hl : ∀ us, Okx (rd n (.list []) us) (ledep (n * n)) := fun us l r h => ih (.list []) us l r h _ ledep.nil (Nat.le_refl _)
    have hw : ∀ us, Okx (rd n (.whens []) us) (ledep (n * n + 1)) := fun us l r h => ih (.whens []) us l r h _ ledep.nil (Nat.le_refl _)
    have h1 : ∀ j us, Okx (rd n (.line j) us) (ledep (n * n)) := fun j us => ih (.line j) us
    refine Okx.mono (A := ledep (n * n + n + 1)) ?_ (fun l h => h.mono (by show _ ≤ (n + 1) * (n + 1); omega))
    have up : ∀ {x : Rs}, Okx x (ledep (n * n + 1)) → Okx x (ledep (n * n + n + 1)) := fun h => h.mono (fun l h => h.mono (by omega))
    unfold rd
    split
    · split
      · exact up ((h1 _ _).bind fun l r hl => Okx.ok hl.mk)
      · exact up ((h1 _ _).mono fun l h => h.mono (by omega))
    · split
      · exact up ((h1 _ _).bind fun l r h => cmpR_dep (fun us => h1 5 us) hl h r)
      · split
        · unfold minusR
          split
          · split
            · exact Okx.out
            · split
              · exact up num_dep
              · exact up ((h1 _ _).bind fun l r hl => Okx.ok hl.mk)
          · exact up ((h1 _ _).mono fun l h => h.mono (by omega))
        · split
          · exact up (firstR_dep (fun us => h1 1 us) hl hw ts)
          · exact (h1 _ _).bind fun l r h l' r' e => (ih (.more k l) r l' r' e _ h (Nat.le_refl _)).mono (by omega)
  | n + 1, .more k e, ts => by
    have ih := rd_dep n
    have hq := sq_succ n
    intro l r h d he hd
    unfold rd at h
    split at h
    · refine ((ih (.line (k + 1)) ts.tail).bind (B := ledep (d + (n + 1))) fun b r1 hb => ?_) l r h
      have hb : ledep (n * n) b := hb
      exact fun l' r' e' => (ih (.more k _) r1 l' r' e' (d + 1) (he.app (hb.mono (by omega))).mk (by omega)).mono (by omega)
    · injection h with h _
      subst h
      exact he.mono (by omega)
  | n + 1, .list acc, ts => by
    have ih := rd_dep n
    have hq := sq_succ n
    intro l r h d ha hd
    unfold rd at h
    refine ((ih (.line 1) ts).bind (B := ledep d) fun b r1 hb => ?_) l r h
    have hb : ledep (n * n) b := hb
    have hab := ha.app (hb.mono (n := d) (by omega))
    split
    · exact fun l' r' e' => ih (.list _) _ l' r' e' d hab (by omega)
    · exact Okx.ok hab
  | n + 1, .whens acc, ts => by
    have ih := rd_dep n
    have hq := sq_succ n
    intro l r h d ha hd
    unfold rd at h
    have i1 : ∀ us, Okx (rd n (.line 1) us) (ledep d) := fun us => (ih (.line 1) us).mono fun l h => ledep.mono h (by omega)
    refine ((i1 ts).bind (B := ledep (d + 1)) fun a r1 h1 => Okx.want fun r2 => (i1 r2).bind fun b r3 hb => ?_) l r h
    have hab := (ha.app h1).app hb
    split
    · exact fun l' r' e' => ih (.whens _) _ l' r' e' d hab (by omega)
    · split
      · exact (i1 _).bind fun c r4 hc => Okx.want fun r5 => Okx.ok (hab.app hc).mk
      · exact Okx.want fun r5 => Okx.ok hab.mk
def Nox (x : Rs) : Prop := ∀ w p, x = .no w p → w = 110 ∨ w = 114
theorem Nox.no {p : Nat} : Nox (.no 110 p) := fun w p e => by injection e with e _; exact Or.inl e.symm
theorem Nox.out : Nox .out := fun w p e => by cases e
theorem Nox.ok {l : List Ex} {r : List Tk} : Nox (.ok l r) := fun w p e => by cases e
theorem Nox.bind {x : Rs} {f : List Ex → List Tk → Rs} (h : Nox x) (hf : ∀ l r, Nox (f l r)) : Nox (x.bind f) := by
  cases x with
  | ok l r => exact hf l r
  | no w p => exact h
  | out => exact Nox.out
theorem Nox.want {ts : List Tk} {b : ByteArray} {f : List Tk → Rs} (hf : ∀ r, Nox (f r)) : Nox (wantT ts b f) := by
  unfold wantT
  split
  · exact hf _
  · exact Nox.no
theorem Nox.num {a : List UInt8} {t : Tk} {r : List Tk} : Nox (numT a t r) := by
  unfold numT
  split
  · exact Nox.ok
  · exact fun w p e => by injection e with e _; exact Or.inr e.symm
theorem cmpR_nox {P : NT → List Tk → Rs} (h : ∀ nt ts, Nox (P nt ts)) (a : List Ex) (r : List Tk) : Nox (cmpR P a r) := by
  unfold cmpR
  split
  · exact (h _ _).bind fun b r1 => Nox.ok
  · split
    · split
      · exact Nox.want fun r2 => Nox.ok
      · exact Nox.want fun r2 => Nox.ok
    · split
      · exact Nox.want fun r2 => (h _ _).bind fun l r3 => Nox.want fun r4 => Nox.ok
      · exact (h _ _).bind fun b r2 => Nox.want fun r3 => (h _ _).bind fun c r4 => Nox.ok
      · exact (h _ _).bind fun b r1 => Nox.ok
      · split
        · exact Nox.no
        · exact Nox.ok
theorem firstR_nox {P : NT → List Tk → Rs} (h : ∀ nt ts, Nox (P nt ts)) : ∀ ts, Nox (firstR P ts)
  | [] => Nox.out
  | t :: r => by
    simp only [firstR]
    split
    · exact Nox.num
    · split
      · exact Nox.ok
      · split
        · unfold wordR
          split
          · exact Nox.ok
          · split
            · exact Nox.want fun r1 => h _ _
            · split
              · exact Nox.no
              · split
                · split
                  · exact Nox.no
                  · refine (h _ _).bind fun l r1 => Nox.want fun r2 => ?_
                    split
                    · exact Nox.ok
                    · exact Nox.no
                · exact Nox.ok
        · split
          · exact (h _ _).bind fun e r1 => Nox.want fun r2 => Nox.ok
          · exact Nox.no
theorem rd_nox : ∀ (n : Nat) (nt : NT) (ts : List Tk), Nox (rd n nt ts)
  | 0, _, _ => Nox.out
  | n + 1, .line k, ts => by
    have ih := rd_nox n
    unfold rd
    split
    · split
      · exact (ih _ _).bind fun l r => Nox.ok
      · exact ih _ _
    · split
      · exact (ih _ _).bind fun l r => cmpR_nox ih l r
      · split
        · unfold minusR
          split
          · split
            · exact Nox.out
            · split
              · exact Nox.num
              · exact (ih _ _).bind fun l r => Nox.ok
          · exact ih _ _
        · split
          · exact firstR_nox ih ts
          · exact (ih _ _).bind fun l r => ih _ _
  | n + 1, .more k e, ts => by
    have ih := rd_nox n
    unfold rd
    split
    · exact (ih _ _).bind fun b r1 => ih _ _
    · exact Nox.ok
  | n + 1, .list acc, ts => by
    have ih := rd_nox n
    unfold rd
    refine (ih _ _).bind fun b r1 => ?_
    split
    · exact ih _ _
    · exact Nox.ok
  | n + 1, .whens acc, ts => by
    have ih := rd_nox n
    unfold rd
    refine (ih _ _).bind fun a r1 => Nox.want fun r2 => (ih _ _).bind fun b r3 => ?_
    split
    · exact ih _ _
    · split
      · exact (ih _ _).bind fun c r4 => Nox.want fun r5 => Nox.ok
      · exact Nox.want fun r5 => Nox.ok
theorem rdAll_ok {s : ByteArray} (hs : s.size ≤ 400) {l : List Ex} {r : List Tk} (h : rdAll (toksE s) = .ok l r) : ∃ e, l = [e] ∧ okE e ∧ dep e ≤ 100000000 := by
  have hlen : (toksE s).length ≤ 401 := Nat.le_trans (toks_len _ _ _) (by omega)
  have h2 : Okx (rdAll (toksE s)) (fun l => oneE l ∧ ledep ((12 * (toksE s).length + 12) * (12 * (toksE s).length + 12)) l) := by
    unfold rdAll
    refine Okx.bind (A := fun l => oneE l ∧ ledep ((12 * (toksE s).length + 12) * (12 * (toksE s).length + 12)) l) (fun l r h => ⟨rd_okE _ (.line 1) _ ⟨by omega, by omega⟩ l r h, rd_dep _ (.line 1) _ l r h⟩) (fun l r hl => ?_)
    cases r with
    | nil => exact Okx.out
    | cons t r =>
      show Okx (if t.k = 4 then .ok l [] else .no 110 t.p) _
      split
      · exact Okx.ok hl
      · exact Okx.no
  obtain ⟨⟨e, rfl, he⟩, hd⟩ := h2 l r h
  unfold ledep at hd
  rw [depL_one] at hd
  exact ⟨e, rfl, he, Nat.le_trans hd (Nat.le_trans (Nat.mul_le_mul (show 12 * (toksE s).length + 12 ≤ 5000 by omega) (show 12 * (toksE s).length + 12 ≤ 5000 by omega)) (by decide))⟩
theorem rdAll_no {ts : List Tk} {w : Int} {p : Nat} (h : rdAll ts = .no w p) : w = 110 ∨ w = 114 := by
  have h2 : Nox (rdAll ts) := by
    unfold rdAll
    refine (rd_nox _ _ _).bind fun l r => ?_
    cases r with
    | nil => exact Nox.out
    | cons t r =>
      show Nox (if t.k = 4 then .ok l [] else .no 110 t.p)
      split
      · exact Nox.ok
      · exact Nox.no
  exact h2 w p h
end Go.Proofs.YtmaekkhmiafnmaaGreatDoor
namespace Go.Proofs.YtmaekkhmiafnmaaGreatDoor
open Go Go.Lib
def lnE : Ex → Prop
  | .mk _ _ _ _ l => l.length ≤ 1000000 ∧ lnL l
where lnL : List Ex → Prop
  | [] => True
  | e :: l => lnE e ∧ lnL l
abbrev lnL (l : List Ex) : Prop := lnE.lnL l
theorem lnL_app : ∀ {l m : List Ex}, lnL l → lnL m → lnL (l ++ m)
  | [], _, _, h => h
  | e :: l, m, h, k => by
    have h : lnE e ∧ lnL l := h
    exact (⟨h.1, lnL_app h.2 k⟩ : lnE e ∧ lnL (l ++ m))
theorem lnL_get : ∀ {l : List Ex} {k : Nat} {e : Ex}, lnL l → l[k]? = some e → lnE e
  | [], _, _, _, he => by simp at he
  | x :: l, 0, e, h, he => by
    have h : lnE x ∧ lnL l := h
    simp at he; subst he; exact h.1
  | x :: l, k + 1, e, h, he => by
    have h : lnE x ∧ lnL l := h
    exact lnL_get h.2 (by simpa using he)
def upN (m : Nat) (l : List Ex) : Prop := lnL l ∧ l.length ≤ m
theorem upN.mk {m o : Nat} {no : Bool} {v : Val} {nm : ByteArray} {l : List Ex} (h : upN m l) (hm : m ≤ 1000000) : upN 1 [.mk o no v nm l] := by
  refine ⟨(⟨?_, trivial⟩ : lnE (.mk o no v nm l) ∧ lnE.lnL []), Nat.le_refl _⟩
  exact (⟨Nat.le_trans h.2 hm, h.1⟩ : l.length ≤ 1000000 ∧ lnL l)
theorem upN.nil {m : Nat} : upN m [] := ⟨trivial, Nat.zero_le _⟩
theorem upN.app {m n : Nat} {l k : List Ex} (h : upN m l) (g : upN n k) : upN (m + n) (l ++ k) := ⟨lnL_app h.1 g.1, by rw [List.length_append]; have := h.2; have := g.2; omega⟩
theorem upN.mono {m n : Nat} {l : List Ex} (h : upN m l) (hn : m ≤ n) : upN n l := ⟨h.1, Nat.le_trans h.2 hn⟩
theorem mkN {o : Nat} {no : Bool} {v : Val} {nm : ByteArray} {l : List Ex} {r : List Tk} {m : Nat} (h : upN m l) (hm : m ≤ 1000000) : Okx (.ok [.mk o no v nm l] r) (upN 1) := Okx.ok (h.mk hm)
theorem num_ln {a : List UInt8} {t : Tk} {r : List Tk} : Okx (numT a t r) (upN 1) := by
  unfold numT
  split
  · exact mkN (upN.nil (m := 0)) (by omega)
  · exact Okx.no
theorem cmpR_ln {P : NT → List Tk → Rs} (h5 : ∀ ts, Okx (P (.line 5) ts) (upN 1)) (hl : ∀ ts, Okx (P (.list []) ts) (upN 100000)) {a : List Ex} (ha : upN 1 a) (r : List Tk) : Okx (cmpR P a r) (upN 1) := by
  unfold cmpR
  split
  · exact (h5 _).bind fun b r1 hb => mkN (ha.app hb) (by omega)
  · split
    · split
      · exact Okx.want fun r2 => mkN ha (by omega)
      · exact Okx.want fun r2 => mkN ha (by omega)
    · split
      · exact Okx.want fun r2 => (hl _).bind fun l r3 hl => Okx.want fun r4 => mkN (ha.app hl) (by omega)
      · exact (h5 _).bind fun b r2 hb => Okx.want fun r3 => (h5 _).bind fun c r4 hc => mkN (ha.app (hb.app hc)) (by omega)
      · exact (h5 _).bind fun b r1 hb => mkN (ha.app hb) (by omega)
      · split
        · exact Okx.no
        · exact Okx.ok ha
theorem firstR_ln {P : NT → List Tk → Rs} (h1 : ∀ ts, Okx (P (.line 1) ts) (upN 1)) (hl : ∀ ts, Okx (P (.list []) ts) (upN 100000)) (hw : ∀ ts, Okx (P (.whens []) ts) (upN 1)) : ∀ ts, Okx (firstR P ts) (upN 1)
  | [] => Okx.out
  | t :: r => by
    have h0 := (upN.nil (m := 0))
    simp only [firstR]
    split
    · exact num_ln
    · split
      · exact mkN h0 (by omega)
      · split
        · unfold wordR
          split
          · exact mkN h0 (by omega)
          · split
            · exact Okx.want fun r1 => hw _
            · split
              · exact Okx.no
              · split
                · split
                  · exact Okx.no
                  · refine (hl _).bind fun l r1 hl => Okx.want fun r2 => ?_
                    split
                    · exact mkN hl (by omega)
                    · exact Okx.no
                · exact mkN h0 (by omega)
        · split
          · exact (h1 _).bind fun e r1 he => Okx.want fun r2 => Okx.ok he
          · exact Okx.no
def ntN (n : Nat) : NT → List Ex → Prop
  | .list acc => fun l => ∀ d, upN d acc → upN (d + n) l
  | .whens acc => fun l => ∀ d, upN d acc → d + 2 * n ≤ 300000 → upN 1 l
  | .more _ e => fun l => upN 1 e → upN 1 l
  | .line _ => upN 1
theorem rd_ln : ∀ (n : Nat), n ≤ 100000 → ∀ (nt : NT) (ts : List Tk), Okx (rd n nt ts) (ntN n nt)
  | 0, _, _, _ => Okx.out
  | n + 1, hn, .line k, ts => by
    have ih := rd_ln n (by omega)
    have hl : ∀ us, Okx (rd n (.list []) us) (upN 100000) := fun us l r h => (ih (.list []) us l r h 0 upN.nil).mono (by omega)
    have hw : ∀ us, Okx (rd n (.whens []) us) (upN 1) := fun us l r h => ih (.whens []) us l r h 0 upN.nil (by omega)
    have h1 : ∀ j us, Okx (rd n (.line j) us) (upN 1) := fun j us => ih (.line j) us
    show Okx _ (upN 1)
    unfold rd
    split
    · split
      · exact (h1 _ _).bind fun l r hl => mkN hl (by omega)
      · exact h1 _ _
    · split
      · exact (h1 _ _).bind fun l r h => cmpR_ln (fun us => h1 5 us) hl h r
      · split
        · unfold minusR
          split
          · split
            · exact Okx.out
            · split
              · exact num_ln
              · exact (h1 _ _).bind fun l r hl => mkN hl (by omega)
          · exact h1 _ _
        · split
          · exact firstR_ln (fun us => h1 1 us) hl hw ts
          · exact (h1 _ _).bind fun l r h l' r' e => ih (.more k l) r l' r' e h
  | n + 1, hn, .more k e, ts => by
    have ih := rd_ln n (by omega)
    intro l r h he
    unfold rd at h
    split at h
    · refine ((ih (.line (k + 1)) ts.tail).bind (B := upN 1) fun b r1 hb => ?_) l r h
      have hb : upN 1 b := hb
      exact fun l' r' e' => ih (.more k _) r1 l' r' e' ((he.app hb).mk (by omega))
    · injection h with h _
      subst h
      exact he
  | n + 1, hn, .list acc, ts => by
    have ih := rd_ln n (by omega)
    intro l r h d ha
    unfold rd at h
    refine ((ih (.line 1) ts).bind (B := upN (d + (n + 1))) fun b r1 hb => ?_) l r h
    have hb : upN 1 b := hb
    split
    · exact fun l' r' e' => (ih (.list _) _ l' r' e' (d + 1) (ha.app hb)).mono (by omega)
    · exact Okx.ok ((ha.app hb).mono (by omega))
  | n + 1, hn, .whens acc, ts => by
    have ih := rd_ln n (by omega)
    intro l r h d ha hd
    unfold rd at h
    have i1 : ∀ us, Okx (rd n (.line 1) us) (upN 1) := fun us => ih (.line 1) us
    refine ((i1 ts).bind (B := upN 1) fun a r1 h1 => Okx.want fun r2 => (i1 r2).bind fun b r3 hb => ?_) l r h
    have hab := (ha.app h1).app hb
    split
    · exact fun l' r' e' => ih (.whens _) _ l' r' e' (d + 1 + 1) hab (by omega)
    · split
      · exact (i1 _).bind fun c r4 hc => Okx.want fun r5 => mkN (hab.app hc) (by omega)
      · exact Okx.want fun r5 => mkN hab (by omega)
def szE : Ex → Nat
  | .mk _ _ _ _ l => szL l + 1
where szL : List Ex → Nat
  | [] => 0
  | e :: l => szE e + szL l
abbrev szL (l : List Ex) : Nat := szE.szL l
theorem szL_app : ∀ (l m : List Ex), szL (l ++ m) = szL l + szL m
  | [], m => (Nat.zero_add _).symm
  | e :: l, m => by
    show szE e + szL (l ++ m) = szE e + szL l + szL m
    rw [szL_app l m]; omega
theorem szL_mk (o : Nat) (no : Bool) (v : Val) (nm : ByteArray) (l : List Ex) : szL [.mk o no v nm l] = szL l + 1 := rfl
def Szx (x : Rs) (m : Nat) : Prop := ∀ l r, x = .ok l r → szL l + r.length ≤ m
theorem Szx.no {w : Int} {p m : Nat} : Szx (.no w p) m := fun l r e => by cases e
theorem Szx.out {m : Nat} : Szx .out m := fun l r e => by cases e
theorem Szx.ok {l : List Ex} {r : List Tk} {m : Nat} (h : szL l + r.length ≤ m) : Szx (.ok l r) m := fun l' r' e => by injection e with e1 e2; subst e1; subst e2; exact h
theorem Szx.mk {o : Nat} {no : Bool} {v : Val} {nm : ByteArray} {l : List Ex} {r : List Tk} {m : Nat} (h : szL l + 1 + r.length ≤ m) : Szx (.ok [.mk o no v nm l] r) m := Szx.ok (by rw [szL_mk]; exact h)
theorem Szx.bind {x : Rs} {f : List Ex → List Tk → Rs} {m m' : Nat} (h : Szx x m) (hf : ∀ l r, szL l + r.length ≤ m → Szx (f l r) m') : Szx (x.bind f) m' := by
  cases x with
  | ok l r => exact hf l r (h l r rfl)
  | no w p => exact Szx.no
  | out => exact Szx.out
theorem Szx.mono {x : Rs} {m m' : Nat} (h : Szx x m) (hm : m ≤ m') : Szx x m' := fun l r e => Nat.le_trans (h l r e) hm
theorem isT_len {ts : List Tk} {b : ByteArray} (h : isT ts b = true) : ts.tail.length + 1 = ts.length := by
  cases ts with
  | nil => simp [isT] at h
  | cons t r => rfl
theorem Szx.want {ts : List Tk} {b : ByteArray} {f : List Tk → Rs} {m : Nat} (hf : ∀ r, r.length + 1 = ts.length → Szx (f r) m) : Szx (wantT ts b f) m := by
  unfold wantT
  split
  · rename_i h; exact hf _ (isT_len h)
  · exact Szx.no
theorem num_sz {a : List UInt8} {t : Tk} {r : List Tk} {m : Nat} (h : r.length + 1 ≤ m) : Szx (numT a t r) m := by
  unfold numT
  split
  · exact Szx.mk (by show 0 + 1 + _ ≤ _; omega)
  · exact Szx.no
theorem cmpR_sz {P : NT → List Tk → Rs} (h5 : ∀ ts, Szx (P (.line 5) ts) ts.length) (hl : ∀ ts, Szx (P (.list []) ts) ts.length) {a : List Ex} {r : List Tk} {m : Nat} (ha : szL a + r.length ≤ m) : Szx (cmpR P a r) m := by
  have hn : (if isT r wNot = true then r.tail else r).length ≤ r.length := by
    split
    · rename_i h; have := isT_len h; omega
    · exact Nat.le_refl _
  unfold cmpR
  split
  · rename_i o ho
    have := isT_len (opIn_isT ho).2
    exact (h5 _).bind fun b r1 hb => Szx.mk (by rw [szL_app]; omega)
  · split
    · rename_i hi
      have := isT_len hi
      split
      · rename_i hn2
        have := isT_len hn2
        exact Szx.want fun r2 h2 => Szx.mk (by omega)
      · exact Szx.want fun r2 h2 => Szx.mk (by omega)
    · split
      · rename_i ho
        have := isT_len (opIn_isT ho).2
        exact Szx.want fun r2 h2 => (hl _).bind fun l r3 hl => Szx.want fun r4 h4 => Szx.mk (by rw [szL_app]; omega)
      · rename_i ho
        have := isT_len (opIn_isT ho).2
        exact (h5 _).bind fun b r2 hb => Szx.want fun r3 h3 => (h5 _).bind fun c r4 hc => Szx.mk (by rw [szL_app, szL_app]; omega)
      · rename_i ho
        have := isT_len (opIn_isT ho).2
        exact (h5 _).bind fun b r1 hb => Szx.mk (by rw [szL_app]; omega)
      · split
        · exact Szx.no
        · exact Szx.ok ha
theorem firstR_sz {P : NT → List Tk → Rs} (h1 : ∀ ts, Szx (P (.line 1) ts) ts.length) (hl : ∀ ts, Szx (P (.list []) ts) ts.length) (hw : ∀ ts, Szx (P (.whens []) ts) (ts.length + 1)) : ∀ ts, Szx (firstR P ts) ts.length
  | [] => Szx.out
  | t :: r => by
    have hL : (t :: r).length = r.length + 1 := rfl
    have lf : ∀ {o : Nat} {no : Bool} {v : Val} {nm : ByteArray}, Szx (.ok [.mk o no v nm []] r) (t :: r).length := fun {o no v nm} => Szx.mk (by show 0 + 1 + _ ≤ _; omega)
    simp only [firstR]
    split
    · exact num_sz (by omega)
    · split
      · exact lf
      · split
        · unfold wordR
          split
          · exact lf
          · split
            · exact Szx.want fun r1 h1 => (hw _).mono (by omega)
            · split
              · exact Szx.no
              · split
                · rename_i ho
                  have := isT_len ho
                  split
                  · exact Szx.no
                  · refine (hl _).bind fun l r1 hl => Szx.want fun r2 h2 => ?_
                    split
                    · exact Szx.mk (by omega)
                    · exact Szx.no
                · exact lf
        · split
          · exact (h1 _).bind fun e r1 he => Szx.want fun r2 h2 => Szx.ok (by omega)
          · exact Szx.no
def ntS : NT → Nat → Nat
  | .list acc, m => szL acc + m
  | .whens acc, m => szL acc + m + 1
  | .more _ e, m => szL e + m
  | .line _, m => m
theorem rd_sz : ∀ (n : Nat) (nt : NT) (ts : List Tk), Szx (rd n nt ts) (ntS nt ts.length)
  | 0, _, _ => Szx.out
  | n + 1, .line k, ts => by
    have ih := rd_sz n
    have hl : ∀ us, Szx (rd n (.list []) us) us.length := fun us l r h => Nat.le_trans (ih (.list []) us l r h) (by show 0 + _ ≤ _; omega)
    have hw : ∀ us, Szx (rd n (.whens []) us) (us.length + 1) := fun us l r h => Nat.le_trans (ih (.whens []) us l r h) (by show 0 + _ + 1 ≤ _; omega)
    have h1 : ∀ j us, Szx (rd n (.line j) us) us.length := fun j us => ih (.line j) us
    show Szx _ ts.length
    unfold rd
    split
    · split
      · rename_i hb
        have := isT_len hb
        exact (h1 _ _).bind fun l r hl => Szx.mk (by omega)
      · exact h1 _ _
    · split
      · exact (h1 _ _).bind fun l r h => cmpR_sz (fun us => h1 5 us) hl h
      · split
        · unfold minusR
          split
          · rename_i hb
            have := isT_len hb
            split
            · exact Szx.out
            · rename_i t r he
              rw [he] at this ⊢
              have hL : (t :: r).length = r.length + 1 := rfl
              split
              · exact num_sz (by omega)
              · exact (h1 _ _).bind fun l r hl => Szx.mk (by omega)
          · exact h1 _ _
        · split
          · exact firstR_sz (fun us => h1 1 us) hl hw ts
          · exact (h1 _ _).bind fun l r h l' r' e => Nat.le_trans (ih (.more k l) r l' r' e) h
  | n + 1, .more k e, ts => by
    have ih := rd_sz n
    intro l r h
    unfold rd at h
    split at h
    · rename_i o ho
      have := isT_len (opIn_isT ho).2
      refine ((ih (.line (k + 1)) ts.tail).bind (m' := szL e + ts.length) fun b r1 hb => ?_) l r h
      have hb : szL b + r1.length ≤ ts.tail.length := hb
      exact fun l' r' e' => Nat.le_trans (ih (.more k _) r1 l' r' e') (by show szL [.mk o _ _ _ (e ++ b)] + _ ≤ _; rw [szL_mk, szL_app]; omega)
    · injection h with h1 h2
      subst h1
      subst h2
      exact Nat.le_refl _
  | n + 1, .list acc, ts => by
    have ih := rd_sz n
    intro l r h
    unfold rd at h
    refine ((ih (.line 1) ts).bind (m' := szL acc + ts.length) fun b r1 hb => ?_) l r h
    have hb : szL b + r1.length ≤ ts.length := hb
    split
    · rename_i hc
      have := isT_len hc
      exact fun l' r' e' => Nat.le_trans (ih (.list _) _ l' r' e') (by show szL (acc ++ b) + _ ≤ _; rw [szL_app]; omega)
    · exact Szx.ok (by rw [szL_app]; omega)
  | n + 1, .whens acc, ts => by
    have ih := rd_sz n
    intro l r h
    unfold rd at h
    have i1 : ∀ us, Szx (rd n (.line 1) us) us.length := fun us => ih (.line 1) us
    refine ((i1 ts).bind (m' := szL acc + ts.length + 1) fun a r1 h1 => Szx.want fun r2 h2 => (i1 r2).bind fun b r3 hb => ?_) l r h
    split
    · rename_i hc
      have := isT_len hc
      exact fun l' r' e' => Nat.le_trans (ih (.whens _) _ l' r' e') (by show szL (acc ++ a ++ b) + _ + 1 ≤ _; rw [szL_app, szL_app]; omega)
    · split
      · rename_i hc
        have := isT_len hc
        exact (i1 _).bind fun c r4 hc => Szx.want fun r5 h5 => Szx.mk (by rw [szL_app, szL_app, szL_app]; omega)
      · exact Szx.want fun r5 h5 => Szx.mk (by rw [szL_app, szL_app]; omega)
theorem addN_len (acc xs : List ByteArray) : (addN acc xs).length ≤ acc.length + xs.length := by
  unfold addN
  induction xs generalizing acc with
  | nil => simp
  | cons x xs ih =>
    rw [List.foldl_cons]
    refine Nat.le_trans (ih _) ?_
    split <;> simp <;> omega
mutual
theorem nms_len : ∀ e : Ex, (nms e).length ≤ szE e
  | .mk o no v nm l => by
    show (if o = 1 then [nm] else nms.nmsL l []).length ≤ szL l + 1
    split
    · simp
    · have := nmsL_len l []
      simp at this; omega
theorem nmsL_len : ∀ (l : List Ex) (acc : List ByteArray), (nms.nmsL l acc).length ≤ acc.length + szL l
  | [], acc => Nat.le_add_right _ _
  | e :: l, acc => by
    show (nms.nmsL l (addN acc (nms e))).length ≤ acc.length + (szE e + szL l)
    have h1 := nmsL_len l (addN acc (nms e))
    have h2 := addN_len acc (nms e)
    have h3 := nms_len e
    omega
end
theorem szL_get : ∀ (l : List Ex) (k : Nat) (e : Ex), l[k]? = some e → szE e ≤ szL l
  | [], k, e, h => by simp at h
  | x :: l, 0, e, h => by simp at h; subst h; exact Nat.le_add_right _ _
  | x :: l, k + 1, e, h => by
    have := szL_get l k e (by simpa using h)
    show szE e ≤ szE x + szL l; omega
structure gdE (e : Ex) : Prop where
  ok : okE e
  ln : lnE e
  dp : dep e ≤ 100000000
  sz : szE e ≤ 1000
theorem rdAll_gd {s : ByteArray} (hs : s.size ≤ 400) {l : List Ex} {r : List Tk} (h : rdAll (toksE s) = .ok l r) : ∃ e, l = [e] ∧ gdE e := by
  obtain ⟨e, rfl, h1, h2⟩ := rdAll_ok hs h
  have hlen : (toksE s).length ≤ 401 := Nat.le_trans (toks_len _ _ _) (by omega)
  have h3 : Okx (rdAll (toksE s)) (upN 1) := by
    unfold rdAll
    refine Okx.bind (A := upN 1) (fun l r h => rd_ln _ (by omega) (.line 1) _ l r h) (fun l r hl => ?_)
    cases r with
    | nil => exact Okx.out
    | cons t r =>
      show Okx (if t.k = 4 then .ok l [] else .no 110 t.p) _
      split
      · exact Okx.ok hl
      · exact Okx.no
  have h4 : lnE e ∧ lnL [] := (h3 _ _ h).1
  have h5 : Szx (rdAll (toksE s)) ((toksE s).length + 1) := by
    unfold rdAll
    refine Szx.bind (m := (toksE s).length) (fun l r h => rd_sz _ (.line 1) _ l r h) (fun l r hl => ?_)
    cases r with
    | nil => exact Szx.out
    | cons t r =>
      show Szx (if t.k = 4 then .ok l [] else .no 110 t.p) _
      split
      · exact Szx.ok (by have : szL l + (r.length + 1) ≤ _ := hl; show szL l + 0 ≤ _; omega)
      · exact Szx.no
  have h6 : szE e + 0 + _ ≤ _ := h5 _ _ h
  exact ⟨e, rfl, h1, h4.1, h2, by omega⟩
theorem gdE.part {o : Nat} {no : Bool} {v : Val} {nm : ByteArray} {l : List Ex} (h : gdE (.mk o no v nm l)) : i64v v.n ∧ arOk o l.length ∧ l.length ≤ 1000000 ∧ ∀ (k : Nat) (e : Ex), l[k]? = some e → gdE e := by
  have h1 := h.ok
  have h2 := h.ln
  have h3 := h.dp
  have h5 : szL l + 1 ≤ 1000 := h.sz
  unfold okE at h1
  unfold lnE at h2
  rw [dep_mk] at h3
  refine ⟨h1.1, h1.2.1, h2.1, fun k e he => ⟨okL_get h1.2.2 he, lnL_get h2.2 he, ?_, by have := szL_get l k e he; omega⟩⟩
  have : ∀ (l : List Ex) (k : Nat) (e : Ex), l[k]? = some e → dep e ≤ depL l := by
    intro l
    induction l with
    | nil => intro k e h; simp at h
    | cons x l ih =>
      intro k e h
      show dep e ≤ max (dep x) (depL l)
      cases k with
      | zero => simp at h; subst h; omega
      | succ k => have := ih k e (by simpa using h); omega
  have := this l k e he
  omega
end Go.Proofs.YtmaekkhmiafnmaaGreatDoor
