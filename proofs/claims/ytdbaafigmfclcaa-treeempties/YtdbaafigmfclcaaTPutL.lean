import Derived.Test.YtdbaafigmfclcaaTPut1
/- put: a leaf. -/
namespace Go.Proofs.Ytdbaafigmfclcaa
open Go.RowKit Go

set_option maxHeartbeats 4000000 in
set_option maxRecDepth 100000 in
theorem put_leaf (w : World) (p : Nat) (k : ByteArray) (v : GV) (t : Nd It 0) (F : List Nat) (hN : NW 0 w p t F) (hn : Nod F) (hs : t.sub) (hl : t.its.length ≤ 15) (hso : Sorted (t.flat 0)) (hb : (t.flat 0).length < 1000000000000000000) :
    Calls Try.prog 29 #[pv p, .string k, ev v] w (fun x w' => ∃ (t' : Nd It 0) (F' : List Nat) (old : GV) (th : Bool), x = .returned (.tuple #[ev old, .bool th]) ∧ NW 0 w' p t' F' ∧ Fits w.heap.size F F' ∧ Tch (fun i => i ∈ F) w w' ∧ t'.sub ∧ t.its.length ≤ t'.its.length ∧ t'.its.length ≤ 16 ∧ PutRel k v (t.flat 0) (t'.flat 0) old th) := by
  have HN : Hid (NW 0 w p t F) := hN
  have HNod : Hid (Nod F) := hn
  have Hsub : Hid (Nd.sub 0 t) := hs
  have Hl15 : Hid (t.its.length ≤ 15) := hl
  have Hso : Hid (Sorted (t.flat 0)) := hso
  have Hb : Hid ((t.flat 0).length < 1000000000000000000) := hb
  obtain ⟨iv, kv, qs, FF, hP, hK, hFe⟩ := NW_iff.1 hN
  have he := sub_even 0 t hs
  have q := find_any p t.its k iv kv _ w hP.nd hP.its (its_sorted t he hso) (by omega)
  have HP : Hid (FN w p iv kv t.its qs (Nd.flat 0 t).length) := hP
  have hq0 : qs = [] := hK.1
  subst hq0
  have hF0 : FF = [] := hK.2
  subst hF0
  have HFe : Hid (F = fb p iv kv ++ []) := hFe
  clear hP hK hFe
  clear hN hn hs hl hso hb he
  go_enter Try.func29, Try.ntmps29
  go_wp2_with fail
  refine q.mono ?_
  rintro x w1 ⟨⟨i, th, rfl, hF⟩, t1⟩
  clear q
  cases th with
  | true =>
    obtain ⟨g, c, old, c0, hi, c1, f1, t', r1, r2, r3, r4, r5⟩ := put_there (v := v) HN.out HNod.out Hsub.out Hl15.out Hso.out hF t1
    have hiI : (i : Int) < t.its.length := by omega
    obtain ⟨n, hn⟩ : ∃ n, n = t.its.length := ⟨_, rfl⟩
    rw [← hn] at c0 hiI
    obtain ⟨w2, hw2⟩ : ∃ w2, w2 = w1.setCell ⟨g, i * 2 + 1, none⟩ (ev v) := ⟨_, rfl⟩
    rw [← hw2] at r1 r2
    have Hr : Hid (NW 0 w2 p t' F ∧ Tch (fun i => i ∈ F) w w2 ∧ t'.sub ∧ t'.its.length = t.its.length ∧ PutRel k v (t.flat 0) (t'.flat 0) old true) := ⟨r1, r2, r3, r4, r5⟩
    have Hw2 : Hid _ := hw2
    clear r1 r2 r3 r4 r5 hF t1 hn hi hw2
    go_wp2_with fail
    go_region
    have hw := Hw2.out
    rw [← hw]
    clear hw c0 c1 f1
    go_wp2_with fail
    go_ret2
    obtain ⟨r1, r2, r3, r4, r5⟩ := Hr.out
    exact ⟨t', F, old, true, rfl, r1.tch (show Tch (fun _ => False) w2 w2.drew from (Tch.refl _ _).drew) (fun _ _ h => h), Fits.refl HNod.out, r2.drew, r3, by omega, by have := Hl15.out; omega, r5⟩
  | false =>
    have hP1 := HP.out.tch t1 (fun _ _ h => h)
    have q := leaf_any p iv kv t.its [] _ w1 hP1
    obtain ⟨io, ic, rfl⟩ := row_slice hP1.its
    have hnf : Nod (fb p (.slice io t.its.length ic) kv) := fun b => by have := HNod.out b; rw [HFe.out, List.append_nil] at this; exact this
    obtain ⟨w2, hw2⟩ : ∃ w2, w2 = w1.alloc (.cells #[.string k, ev v] 74) := ⟨_, rfl⟩
    have t2 : Tch (fun _ => False) w1 w2 := by rw [hw2]; exact Tch.alloc _ _ _
    have hle := hF.le
    have qi := Iinsert_any (.slice io t.its.length ic) t.its.length i w1.heap.size (icl t.its) [.string k, ev v] w2 (own_tch hP1.its t2 (fun _ _ h => h)) (by rw [hw2]; exact alloc_new _ _) rfl (fun e => by have := (hP1.its.lt _ e).2; omega) hle (by have := Hl15.out; omega) (icl_one _) (by simp [Value.oneCell'])
    have c0 := hP1.nd.cells.1
    have HP1 : Hid (FN w1 p (.slice io t.its.length ic) kv t.its [] (Nd.flat 0 t).length) := hP1
    obtain ⟨n, hn⟩ : ∃ n, n = t.its.length := ⟨_, rfl⟩
    rw [← hn] at c0 qi
    have Hn : Hid (n = t.its.length) := hn
    have Hw2 : Hid _ := hw2
    have T12 : Hid (Tch (fun _ => False) w1 w2) := t2
    have T01 : Hid (Tch (fun _ => False) w w1) := t1
    have HF : Hid (Found t.its k i false) := hF
    clear hP1 hn hw2 t2 t1 hF hle
    go_wp2_with fail
    refine q.mono ?_
    rintro x w1' ⟨rfl, hw1⟩
    subst hw1
    clear q
    go_wp2_with fail
    have hw := Hw2.out
    rw [← hw]
    clear hw c0
    refine qi.mono ?_
    rintro x w3 ⟨⟨v3, rfl, own3, hb3⟩, t3⟩
    have e3 : (icl t.its).take (i * 2) ++ [.string k, ev v] ++ (icl t.its).drop (i * 2) = icl (t.its.take i ++ (k, v) :: t.its.drop i) := by
      rw [icl_take, icl_drop, icl_app, icl_cons, List.append_assoc]
    rw [e3] at own3
    obtain ⟨l', hl'⟩ : ∃ l', l' = t.its.take i ++ (k, v) :: t.its.drop i := ⟨_, rfl⟩
    have hll : l'.length = n + 1 := by have := HF.out.le; rw [hl', Hn.out]; simp only [List.length_append, List.length_take, List.length_cons, List.length_drop]; omega
    have R3 : RI (.slice io n ic) v3 l' w1' w3 := RS.pre ⟨by rw [hll, hl']; exact own3, hb3, t3⟩ T12.out
    obtain ⟨o3, c3, rfl⟩ := row_slice own3
    have hPn := HP1.out
    rw [← Hn.out] at hPn hnf
    obtain ⟨s1, s2, s3⟩ := hPn.stepI R3 hnf
    have n0 := (nod_self hnf).1
    have f0 := (hPn.nd.tch R3.tch n0).cells
    obtain ⟨f1, -, f2, f3⟩ := f0
    have f30 := f3 0
    have f32 := f3 2
    have hT : Hid (Tch (fun i => i ∈ F) w (w3.setCell ⟨p, 0, none⟩ (.slice o3 (n + 1) c3))) := (T01.out.mono (fun _ _ h => h.elim)).trans' (s2.mono (fun i _ hi => by rw [HFe.out, Hn.out.symm, List.append_nil]; exact hi))
    have hszn : (Nd.flat 0 t).length = n := by rw [Hn.out]; rfl
    rw [hszn] at f2 s1
    have S1 : Hid (FN (w3.setCell ⟨p, 0, none⟩ (.slice o3 (n + 1) c3)) p (.slice o3 (n + 1) c3) kv l' [] n) := s1
    have S3' : Hid (Fits w1'.heap.size (fb p (.slice io n ic) kv) (fb p (.slice o3 (n + 1) c3) kv)) := s3
    have hn16 : (n : Int) < 100 := by have := Hl15.out; have := Hn.out; omega
    have Hl' : Hid (l' = t.its.take i ++ (k, v) :: t.its.drop i) := hl'
    clear own3 hb3 t3 e3 hl' R3 hPn s1 s2 s3 f3 n0 hszn qi hnf
    go_wp2_with fail
    go_ret2
    have hx := ND.setSz (s' := (n : Int) + 1) S1.out.nd
    have ts : Tch (fun i => i = p) (w3.setCell ⟨p, 0, none⟩ (.slice o3 (n + 1) c3)) ((w3.setCell ⟨p, 0, none⟩ (.slice o3 (n + 1) c3)).setCell ⟨p, 2, none⟩ (.int .i64 (n + 1))) := Tch.setCell _ _ _ _ rfl
    have hnf : Nod (fb p (.slice io n ic) kv) := fun b => by have := HNod.out b; rw [HFe.out, List.append_nil, ← Hn.out] at this; exact this
    have hself := nod_self (S3'.out.nod hnf)
    have hfn : FN ((w3.setCell ⟨p, 0, none⟩ (.slice o3 (n + 1) c3)).setCell ⟨p, 2, none⟩ (.int .i64 (n + 1))) p (.slice o3 (n + 1) c3) kv l' [] ((l'.length : Nat) : Int) := ⟨by rw [hll]; exact hx, own_tch S1.out.its ts (fun g e e' => hself.1 (by rw [← e']; exact e)), own_tch S1.out.kids ts (fun g e e' => hself.2 (by rw [← e']; exact e))⟩
    have hFF : F = fb p (.slice io n ic) kv := by rw [HFe.out, List.append_nil, Hn.out]
    refine ⟨(l' : Nd It 0), fb p (.slice o3 (n + 1) c3) kv ++ [], gv0, false, rfl, ⟨_, _, hfn, rfl⟩, ?_, hT.out.trans ts (fun i hi e => ?_), trivial, ?_, ?_, Or.inr ⟨rfl, rfl, t.its.take i, t.its.drop i, HF.out.lo, HF.out.hi rfl, ?_, ?_⟩⟩
    · rw [hFF, List.append_nil]
      exact fun b => by
        have := S3'.out b
        have h4 := T01.out.size
        exact ⟨fun hb => this.1 (by omega), fun hb => S3'.out.nod hnf b⟩
    · rw [hFF, e]; simp [fb]
    · show t.its.length ≤ l'.length; have := Hn.out; omega
    · show l'.length ≤ 16; have := Hn.out; have := Hl15.out; omega
    · exact (List.take_append_drop i t.its).symm
    · exact Hl'.out
end Go.Proofs.Ytdbaafigmfclcaa
