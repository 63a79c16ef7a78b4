import Derived.Test.YtdbaafigmfclcaaTLastI
import Derived.Test.YtdbaafigmfclcaaOrdv
/- remove. -/
namespace Go.Proofs.Ytdbaafigmfclcaa
open Go.RowKit Go

/-- A key that is not there. -/
def Gap (k : ByteArray) (l : List It) : Prop := ∃ x y, l = x ++ y ∧ (∀ e ∈ x, Lo k e) ∧ ∀ e ∈ y, Hi k e
/-- What remove does. -/
def RemRel (k : ByteArray) (fl fl' : List It) (old : GV) (th : Bool) : Prop := (th = true ∧ Ins (Lo k) (Hi k) (k, old) fl' fl) ∨ (th = false ∧ old = gv0 ∧ fl' = fl ∧ Gap k fl)
theorem RemRel.kid {h : Nat} {A B : List It} {ka kb : List (Nd It h)} {kk k' : Nd It h} {k : ByteArray} {old : GV} {th : Bool} (hr : RemRel k (kk.flat h) (k'.flat h) old th) (hka : ka.length = A.length) (hA : ∀ e ∈ A, Lo k e) (hB : ∀ e ∈ B, Hi k e) (hp : Sorted (Nd.flat (h + 1) ((A ++ B, ka ++ kk :: kb) : Nd It (h + 1)))) : RemRel k (Nd.flat (h + 1) ((A ++ B, ka ++ kk :: kb) : Nd It (h + 1))) (Nd.flat (h + 1) ((A ++ B, ka ++ k' :: kb) : Nd It (h + 1))) old th := by
  obtain ⟨-, h2, -⟩ := kid_ins KL (Lo k) (Hi k) (fun e e' => Lo.of) (fun e e' => Hi.of) h A B ka kb kk k' hka hA hB hp
  rcases hr with ⟨e, hr⟩ | ⟨e, e2, e3, x, y, e4, hx, hy⟩
  · exact Or.inl ⟨e, h2 _ hr⟩
  · refine Or.inr ⟨e, e2, ?_, ?_⟩
    · rw [kid_mid h A B ka kb k' hka, kid_mid h A B ka kb kk hka, e3]
    · rw [kid_mid h A B ka kb kk hka] at hp ⊢
      obtain ⟨p1, p2, _⟩ := List.pairwise_append.mp hp
      obtain ⟨_, p3, _⟩ := List.pairwise_append.mp p2
      have hX := ahead_all KL (Lo k) (fun e e' => Lo.of) A (ka.map (Nd.flat h)) (by simpa using hka) p1 hA
      have hY := behind_all KL (Hi k) (fun e e' => Hi.of) B (kb.map (Nd.flat h)) p3 hB
      rw [e4]
      exact ⟨mix A (ka.map (Nd.flat h) ++ [[]]) ++ x, y ++ mix B ([] :: kb.map (Nd.flat h)), by simp, fun e he => (List.mem_append.1 he).elim (hX e) (hx e), fun e he => (List.mem_append.1 he).elim (hy e) (hY e)⟩
theorem RemRel.len {k : ByteArray} {fl fl' : List It} {old : GV} {th : Bool} (h : RemRel k fl fl' old th) : (fl.length : Int) = fl'.length + (if th then 1 else 0) := by
  rcases h with ⟨rfl, hr⟩ | ⟨rfl, _, e, _⟩
  · have := hr.len; simp; omega
  · rw [e]; simp
/-- An item set in its place, in a node with kids. -/
theorem NWX.setIt {h : Nat} {w : World} {p g c n k : Nat} {L : List It} {ts : List (Nd It h)} {F : List Nat} {s : Int} {e : It} (hN : NWX h w p L ts F s) (hn : Nod F) (hc : w.cell? ⟨p, 0, none⟩ = some (.slice (some ⟨g, 0, none⟩) n c)) (hk : k < L.length) :
    NWX h ((w.setCell ⟨g, k * 2, none⟩ (.string e.1)).setCell ⟨g, k * 2 + 1, none⟩ (ev e.2)) p (L.set k e) ts F s ∧ Tch (fun i => i ∈ F) w ((w.setCell ⟨g, k * 2, none⟩ (.string e.1)).setCell ⟨g, k * 2 + 1, none⟩ (ev e.2)) := by
  obtain ⟨iv, kv, qs, FF, hP, ⟨ks, rfl, rfl, rfl, h3⟩, rfl⟩ := hN
  have hnf : Nod (fb p iv kv) := fun b => by have := hn b; rw [List.count_append] at this; omega
  obtain ⟨io, ic, rfl⟩ := row_slice hP.its
  have e1 := hP.nd.cells.1
  rw [hc] at e1
  injection e1 with e1
  injection e1 with e1 e2 e3
  subst e1; subst e2; subst e3
  obtain ⟨r1, r2⟩ := hP.setIt (e := e) hnf hk
  have hg : g ∈ fb p (.slice (some ⟨g, 0, none⟩) L.length c) kv := mem_fbi rfl
  have hap : ∀ b ∈ kF ks, ¬ b = g := fun b hb e' => by
    have h0 : (fb p (.slice (some ⟨g, 0, none⟩) L.length c) kv).count b + (kF ks).count b ≤ 1 := by have := hn b; rw [List.count_append] at this; exact this
    have h1 := count_mem hb
    have h2 : 1 ≤ (fb p (.slice (some ⟨g, 0, none⟩) L.length c) kv).count b := count_mem (by rw [e']; exact hg)
    omega
  refine ⟨⟨_, kv, _, _, r1, ⟨ks, rfl, rfl, rfl, kids_tch h3 r2 hap⟩, ?_⟩, r2.mono (fun i _ e' => by rw [e']; exact List.mem_append_left _ hg)⟩
  unfold fb
  rw [bl_of (show (Value.slice (some ⟨g, 0, none⟩) (L.set k e).length c).ownBlock = (Value.slice (some ⟨g, 0, none⟩) L.length c).ownBlock from rfl)]
set_option maxHeartbeats 4000000 in
set_option maxRecDepth 100000 in
theorem rem_leaf (w : World) (p : Nat) (k : ByteArray) (t : Nd It 0) (F : List Nat) (hN : NW 0 w p t F) (hn : Nod F) (hs : t.sub) (hl : t.its.length ≤ 15) (hso : Sorted (t.flat 0)) (hb : (t.flat 0).length < 1000000000000000000) :
    Calls Try.prog 33 #[pv p, .string k] w (fun x w' => ∃ (t' : Nd It 0) (F' : List Nat) (old : GV) (th : Bool), x = .returned (.tuple #[ev old, .bool th]) ∧ NW 0 w' p t' F' ∧ Fits w.heap.size F F' ∧ Tch (fun i => i ∈ F) w w' ∧ t'.sub ∧ t'.its.length ≤ t.its.length ∧ t.its.length ≤ t'.its.length + 1 ∧ RemRel k (t.flat 0) (t'.flat 0) old th) := by
  have HN : Hid (NW 0 w p t F) := hN
  have HNod : Hid (Nod F) := hn
  have Hsub : Hid (Nd.sub 0 t) := hs
  have Hl15 : Hid (t.its.length ≤ 15) := hl
  have Hso : Hid (Sorted (t.flat 0)) := hso
  have Hb : Hid ((t.flat 0).length < 1000000000000000000) := hb
  obtain ⟨iv, kv, qs, FF, hP, hK, hFe⟩ := NW_iff.1 hN
  have he := sub_even 0 t hs
  have q := find_any p t.its k iv kv _ w hP.nd hP.its (its_sorted t he hso) (by omega)
  have HP : Hid (FN w p iv kv t.its qs (Nd.flat 0 t).length) := hP
  have hq0 : qs = [] := hK.1
  subst hq0
  have hF0 : FF = [] := hK.2
  subst hF0
  have HFe : Hid (F = fb p iv kv ++ []) := hFe
  clear hP hK hFe
  clear hN hn hs hl hso hb he
  go_enter Try.func33, Try.ntmps33
  go_wp2_with fail
  refine q.mono ?_
  rintro x w1 ⟨⟨i, th, rfl, hF⟩, t1⟩
  clear q
  have hP1 := HP.out.tch t1 (fun _ _ h => h)
  have q := leaf_any p iv kv t.its [] _ w1 hP1
  cases th with
  | true =>
    obtain ⟨it, hit, hk⟩ := hF.at_ rfl
    obtain ⟨hi, hit2⟩ := List.getElem?_eq_some_iff.1 hit
    obtain ⟨g, ic, ei, -, -, -, -, j1, -⟩ := it_at hP1.its hi
    subst ei
    rw [hit2] at j1
    obtain ⟨n, hn⟩ : ∃ n, n + 1 = t.its.length := ⟨t.its.length - 1, by omega⟩
    have hnf : Nod (fb p (.slice (some ⟨g, 0, none⟩) t.its.length ic) kv) := fun b => by have := HNod.out b; rw [HFe.out, List.append_nil] at this; exact this
    obtain ⟨l', hl'⟩ : ∃ l', l' = t.its.take i ++ t.its.drop (i + 1) := ⟨_, rfl⟩
    have hll : l'.length = n := by rw [hl']; simp only [List.length_append, List.length_take, List.length_drop]; omega
    have qd : Calls Try.prog 54 #[.slice (some ⟨g, 0, none⟩) (n + 1) ic, .int .i64 i, .int .i64 (i + 1)] w1 fun x w' => ∃ o c, x = .returned (.slice o n c) ∧ RI (.slice (some ⟨g, 0, none⟩) (n + 1) ic) (.slice o n c) l' w1 w' := by
      have ho := hP1.its
      rw [← hn] at ho
      refine (Idelete_any _ (n + 1) i 1 (icl t.its) w1 ho (by omega) (by omega) (by have := Hl15.out; omega) (icl_one _)).mono ?_
      rintro x w' ⟨⟨v', rfl, hb', own'⟩, t'⟩
      rw [icl_take, icl_drop, ← icl_app, ← hl', show n + 1 - 1 = n by omega] at own'
      obtain ⟨o, c, rfl⟩ := row_slice own'
      exact ⟨o, c, rfl, by rw [hll]; exact own', Or.inl hb', t'⟩
    have c0 := hP1.nd.cells.1
    have hsz : ((Nd.flat 0 t).length : Int) = (n : Int) + 1 := by
      have h0 : (Nd.flat 0 t).length = t.its.length := rfl
      omega
    have hPn := hP1
    rw [← hn, hsz] at hPn
    rw [← hn] at c0 hnf
    have HPn : Hid (FN w1 p (.slice (some ⟨g, 0, none⟩) (n + 1) ic) kv t.its [] (n + 1)) := hPn
    have Hnf : Hid (Nod (fb p (.slice (some ⟨g, 0, none⟩) (n + 1) ic) kv)) := hnf
    have T01 : Hid (Tch (fun _ => False) w w1) := t1
    have HF : Hid (Found t.its k i true) := hF
    have Hl' : Hid (l' = t.its.take i ++ t.its.drop (i + 1)) := hl'
    have Hn : Hid (n + 1 = t.its.length) := hn
    have Hit : Hid (t.its = t.its.take i ++ (k, it.2) :: t.its.drop (i + 1)) := by
      show _ = _
      rw [← hk]
      exact (list_cut t.its i it hit).symm
    have hiI : (i : Int) < (n : Int) + 1 := by omega
    have hn16 : (n : Int) < 16 := by have := Hl15.out; omega
    obtain ⟨ov, hov⟩ : ∃ ov, ov = it.2 := ⟨_, rfl⟩
    rw [← hov] at j1 Hit
    clear hP1 hPn hnf t1 hF hl' hn hit hit2 hk hi hsz hov
    go_wp2_with (go_at_call 51; refine q.mono ?_; rintro x w1' ⟨rfl, hwx⟩; subst hwx; clear q)
    refine qd.mono ?_
    rintro x w3 ⟨o3, c3, rfl, R3⟩
    obtain ⟨s1, s2, s3⟩ := HPn.out.stepI R3 Hnf.out
    have n0 := (nod_self Hnf.out).1
    obtain ⟨f1, -, f2, f3⟩ := (HPn.out.nd.tch R3.tch n0).cells
    have f30 := f3 0
    have f32 := f3 2
    have HFF : Hid (F = fb p (.slice (some ⟨g, 0, none⟩) (n + 1) ic) kv) := by show F = _; rw [HFe.out, List.append_nil, Hn.out]
    have HT : Hid (Tch (fun i => i ∈ F) w1' (w3.setCell ⟨p, 0, none⟩ (.slice o3 n c3))) := by rw [HFF.out]; exact s2
    have S1 : Hid (FN (w3.setCell ⟨p, 0, none⟩ (.slice o3 n c3)) p (.slice o3 n c3) kv l' [] (n + 1)) := s1
    have S3' : Hid (Fits w1'.heap.size F (fb p (.slice o3 n c3) kv)) := by rw [HFF.out]; exact s3
    clear s1 s2 s3 n0 f3 R3 qd c0 j1
    go_wp2_with fail
    go_ret2
    have hself := nod_self (S3'.out.nod HNod.out)
    have ts : Tch (fun i => i = p) (w3.setCell ⟨p, 0, none⟩ (.slice o3 n c3)) ((w3.setCell ⟨p, 0, none⟩ (.slice o3 n c3)).setCell ⟨p, 2, none⟩ (.int .i64 n)) := Tch.setCell _ _ _ _ rfl
    have hfn : FN ((w3.setCell ⟨p, 0, none⟩ (.slice o3 n c3)).setCell ⟨p, 2, none⟩ (.int .i64 n)) p (.slice o3 n c3) kv l' [] ((l'.length : Nat) : Int) := ⟨by rw [hll]; exact S1.out.nd.setSz, own_tch S1.out.its ts (fun g e e' => hself.1 (by rw [← e']; exact e)), own_tch S1.out.kids ts (fun g e e' => hself.2 (by rw [← e']; exact e))⟩
    refine ⟨(l' : Nd It 0), fb p (.slice o3 n c3) kv ++ [], ov, true, rfl, ⟨_, _, hfn, rfl⟩, ?_, ((T01.out.mono (fun _ _ h => h.elim)).trans' HT.out).trans ts (fun i hi e => ?_), trivial, ?_, ?_, Or.inl ⟨rfl, t.its.take i, t.its.drop (i + 1), HF.out.lo, HF.out.behind rfl, Hl'.out, Hit.out⟩⟩
    · rw [List.append_nil]
      exact fun b => by
        have := S3'.out b
        have h4 := T01.out.size
        exact ⟨fun hb => this.1 (by omega), fun hb => S3'.out.nod HNod.out b⟩
    · rw [HFF.out, e]; simp [fb]
    · show l'.length ≤ t.its.length; have := Hn.out; omega
    · show t.its.length ≤ l'.length + 1; have := Hn.out; omega
  | false =>
    have T01 : Hid (Tch (fun _ => False) w w1) := t1
    have HF : Hid (Found t.its k i false) := hF
    clear hP1 t1 hF
    go_wp2_with (go_at_call 51; refine q.mono ?_; rintro x w1' ⟨rfl, hwx⟩; subst hwx; clear q)
    go_ret2
    exact ⟨t, F, gv0, false, rfl, HN.out.tch T01.out (fun _ _ h => h), Fits.refl HNod.out, T01.out.mono (fun _ _ h => h.elim), trivial, Nat.le_refl _, by omega, Or.inr ⟨rfl, rfl, rfl, t.its.take i, t.its.drop i, (List.take_append_drop i t.its).symm, HF.out.lo, HF.out.hi rfl⟩⟩
end Go.Proofs.Ytdbaafigmfclcaa
