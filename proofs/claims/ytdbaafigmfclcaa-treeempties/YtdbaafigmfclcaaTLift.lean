import Derived.Test.YtdbaafigmfclcaaTSpL
import Derived.Test.YtdbaafigmfclcaaTSpI
import Derived.Test.YtdbaafigmfclcaaTDnL
import Derived.Test.YtdbaafigmfclcaaTDnI
import Derived.Test.YtdbaafigmfclcaaTUpL
import Derived.Test.YtdbaafigmfclcaaTUpI
import Derived.Test.YtdbaafigmfclcaaTJoin
/- split, shiftUp, shiftDown, join: at trees. -/
namespace Go.Proofs.Ytdbaafigmfclcaa
open Go.RowKit Go

/-- A node that has kids, with any number as its size. -/
def NWX (h : Nat) (w : World) (p : Nat) (l : List It) (ts : List (Nd It h)) (F : List Nat) (s : Int) : Prop := ∃ iv kv qs FF, FN w p iv kv l qs s ∧ KidsOf (NW h w) ts qs FF ∧ F = fb p iv kv ++ FF
theorem NW_X {h : Nat} {w : World} {p : Nat} {l : List It} {ts : List (Nd It h)} {F : List Nat} : NW (h + 1) w p ((l, ts) : Nd It (h + 1)) F ↔ NWX h w p l ts F (Nd.flat (h + 1) ((l, ts) : Nd It (h + 1))).length := Iff.rfl
abbrev Kd (h : Nat) := Nat × Nd It h × List Nat
def kF {h : Nat} (ks : List (Kd h)) : List Nat := ks.flatMap (·.2.2)
def kT {h : Nat} (ks : List (Kd h)) : List (Nd It h) := ks.map (·.2.1)
def kP {h : Nat} (ks : List (Kd h)) : List Nat := ks.map (·.1)
theorem kF_app {h : Nat} (a b : List (Kd h)) : kF (a ++ b) = kF a ++ kF b := by simp [kF]
theorem kF_cons {h : Nat} (a : Kd h) (b : List (Kd h)) : kF (a :: b) = a.2.2 ++ kF b := by simp [kF]
theorem kids_at {h : Nat} {w : World} {ka kb : List (Nd It h)} {k : Nd It h} {qs FF : List Nat} (hk : KidsOf (NW h w) (ka ++ k :: kb) qs FF) : ∃ (k1 k2 : List (Kd h)) (q : Nat) (Fk : List Nat), qs = kP k1 ++ q :: kP k2 ∧ FF = kF k1 ++ (Fk ++ kF k2) ∧ ka = kT k1 ∧ kb = kT k2 ∧ NW h w q k Fk ∧ (∀ x ∈ k1, NW h w x.1 x.2.1 x.2.2) ∧ (∀ x ∈ k2, NW h w x.1 x.2.1 x.2.2) := by
  obtain ⟨ks, e1, e2, e3, h3⟩ := hk
  obtain ⟨k1, r, rfl, h4, h5⟩ := List.map_eq_append_iff.1 e2.symm
  obtain ⟨x, k2, rfl, h6, h7⟩ := List.map_eq_cons_iff.1 h5
  obtain ⟨q, k', Fk⟩ := x
  simp only at h6
  subst h6
  refine ⟨k1, k2, q, Fk, by rw [e1]; simp [kP], by rw [e3]; simp [kF], h4.symm, h7.symm, h3 (q, k', Fk) (by simp), fun x hx => h3 x (by simp [hx]), fun x hx => h3 x (by simp [hx])⟩
theorem kP_len {h : Nat} (ks : List (Kd h)) : (kP ks).length = (kT ks).length := by simp [kP, kT]
theorem kF_lt {h : Nat} {w : World} {ks : List (Kd h)} (hk : ∀ x ∈ ks, NW h w x.1 x.2.1 x.2.2) : ∀ b ∈ kF ks, b < w.heap.size := fun b hb => by
  obtain ⟨x, hx, hb⟩ := List.mem_flatMap.1 hb
  exact (hk x hx).lt b hb
theorem kids_tch {h : Nat} {S : Nat → Prop} {w w' : World} {ks : List (Kd h)} (hk : ∀ x ∈ ks, NW h w x.1 x.2.1 x.2.2) (t : Tch S w w') (hS : ∀ b ∈ kF ks, ¬ S b) : ∀ x ∈ ks, NW h w' x.1 x.2.1 x.2.2 := fun x hx => (hk x hx).tch t (fun b hb => hS b (List.mem_flatMap.2 ⟨x, hx, hb⟩))
theorem kids_make {h : Nat} {w : World} (ks : List (Kd h)) (hk : ∀ x ∈ ks, NW h w x.1 x.2.1 x.2.2) : KidsOf (NW h w) (kT ks) (kP ks) (kF ks) := ⟨ks, rfl, rfl, rfl, hk⟩
theorem Fits.frame {n : Nat} {Fo Fn F F' R : List Nat} (h : Fits n Fo Fn) (hR : ∀ b ∈ R, b < n) (hn : Nod F) (e1 : ∀ b, F.count b = Fo.count b + R.count b) (e2 : ∀ b, F'.count b = Fn.count b + R.count b) : Fits n F F' := fun b => by
  have h1 := h b
  have h2 := hn b
  rw [e1] at h2
  rw [e1, e2]
  constructor
  · intro hb; have := h1.1 hb; omega
  · intro hb
    have : R.count b = 0 := List.count_eq_zero.2 (fun hm => by have := hR b hm; omega)
    have := h1.2 hb
    omega
theorem nodR {Fo R F : List Nat} (hn : Nod F) (e1 : ∀ b, F.count b = Fo.count b + R.count b) : Nod Fo ∧ ∀ b ∈ R, b ∉ Fo := by
  refine ⟨fun b => ?_, fun b hb hb' => ?_⟩
  · have := hn b; rw [e1] at this; omega
  · have := hn b; rw [e1] at this; have := count_mem hb; have := count_mem hb'; omega
/-- Behind a step on two kids beside each other. -/
theorem lift2 {h : Nat} {w w' : World} {Fo : List Nat} {p : Nat} {iv kv : Value} {L : List It} {ps : List Nat} {s : Int} {a : Nat} {ia ka : Value} {l : List It} {ql : List Nat} {sa : Int} {c : Nat} {ic kc : Value} {r : List It} {qr : List Nat} {sc : Int}
    (H : S3 w w' Fo p iv kv L ps s a ia ka l ql sa c ic kc r qr sc) (k1 k2 : List (Kd h)) (h1 : ∀ x ∈ k1, NW h w x.1 x.2.1 x.2.2) (h2 : ∀ x ∈ k2, NW h w x.1 x.2.1 x.2.2) (t1 t2 : Nd It h) (G1 G2 F : List Nat)
    (K1 : Kids h w t1 ql G1) (K2 : Kids h w t2 qr G2) (e1 : t1.even) (e2 : t2.even) (i1 : t1.its = l) (i2 : t2.its = r) (s1 : sa = l.length + zsum w ql) (s2 : sc = r.length + zsum w qr) (hps : ps = kP k1 ++ a :: c :: kP k2)
    (hn : Nod F) (hF : ∀ b, F.count b = Fo.count b + (kF k1 ++ (G1 ++ (G2 ++ kF k2))).count b) :
    ∃ F', NWX h w' p L (kT k1 ++ t1 :: t2 :: kT k2) F' s ∧ Fits w.heap.size F F' ∧ Tch (fun i => i ∈ F) w w' := by
  obtain ⟨-, hap⟩ := nodR hn hF
  have hR : ∀ b ∈ kF k1 ++ (G1 ++ (G2 ++ kF k2)), b < w.heap.size := fun b hb => by
    simp only [List.mem_append] at hb
    rcases hb with hb | hb | hb | hb
    · exact kF_lt h1 b hb
    · exact K1.lt b hb
    · exact K2.lt b hb
    · exact kF_lt h2 b hb
  have hnw1 : NW h w' a t1 (fb a ia ka ++ G1) := NW_iff.2 ⟨ia, ka, ql, G1, by
    have := H.A
    rw [s1, ← i1, K1.size e1] at this
    exact this, K1.tch H.t (fun b hb => hap b (by simp [hb])), rfl⟩
  have hnw2 : NW h w' c t2 (fb c ic kc ++ G2) := NW_iff.2 ⟨ic, kc, qr, G2, by
    have := H.B
    rw [s2, ← i2, K2.size e2] at this
    exact this, K2.tch H.t (fun b hb => hap b (by simp [hb])), rfl⟩
  obtain ⟨ks, hks⟩ : ∃ ks : List (Kd h), ks = k1 ++ (a, t1, fb a ia ka ++ G1) :: (c, t2, fb c ic kc ++ G2) :: k2 := ⟨_, rfl⟩
  refine ⟨fb p iv kv ++ kF ks, ⟨iv, kv, ps, kF ks, H.P, ⟨ks, ?_, ?_, rfl, ?_⟩, rfl⟩, ?_, ?_⟩
  · rw [hps, hks]; simp [kP]
  · rw [hks]; simp [kT]
  · intro x hx
    rw [hks] at hx
    simp only [List.mem_append, List.mem_cons] at hx
    rcases hx with hx | rfl | rfl | hx
    · exact kids_tch h1 H.t (fun b hb => hap b (by simp [hb])) x hx
    · exact hnw1
    · exact hnw2
    · exact kids_tch h2 H.t (fun b hb => hap b (by simp [hb])) x hx
  · refine Fits.frame H.f hR hn hF (fun b => ?_)
    rw [hks, kF_app, kF_cons, kF_cons]
    simp only [List.count_append]
    omega
  · exact H.t.mono (fun i _ hi => List.count_pos_iff.1 (by rw [hF]; have := count_mem hi; omega))
/-- Behind a step that leaves one kid of two. -/
theorem lift1 {h : Nat} {w w' : World} {Fo : List Nat} {p : Nat} {iv kv : Value} {L : List It} {ps : List Nat} {s : Int} {a : Nat} {ia ka : Value} {l : List It} {ql : List Nat} {sa : Int} {c : Nat} {ic kc : Value} {r : List It} {qr : List Nat} {sc : Int}
    (H : S3 w w' Fo p iv kv L ps s a ia ka l ql sa c ic kc r qr sc) (k1 k2 : List (Kd h)) (h1 : ∀ x ∈ k1, NW h w x.1 x.2.1 x.2.2) (h2 : ∀ x ∈ k2, NW h w x.1 x.2.1 x.2.2) (t1 : Nd It h) (G1 F : List Nat)
    (K1 : Kids h w t1 ql G1) (e1 : t1.even) (i1 : t1.its = l) (s1 : sa = l.length + zsum w ql) (hps : ps = kP k1 ++ a :: kP k2)
    (hn : Nod F) (hF : ∀ b, F.count b = Fo.count b + (kF k1 ++ (G1 ++ kF k2)).count b) :
    ∃ F', NWX h w' p L (kT k1 ++ t1 :: kT k2) F' s ∧ Fits w.heap.size F F' ∧ Tch (fun i => i ∈ F) w w' := by
  obtain ⟨-, hap⟩ := nodR hn hF
  have hR : ∀ b ∈ kF k1 ++ (G1 ++ kF k2), b < w.heap.size := fun b hb => by
    simp only [List.mem_append] at hb
    rcases hb with hb | hb | hb
    · exact kF_lt h1 b hb
    · exact K1.lt b hb
    · exact kF_lt h2 b hb
  have hnw1 : NW h w' a t1 (fb a ia ka ++ G1) := NW_iff.2 ⟨ia, ka, ql, G1, by
    have := H.A
    rw [s1, ← i1, K1.size e1] at this
    exact this, K1.tch H.t (fun b hb => hap b (by simp [hb])), rfl⟩
  have hf : Fits w.heap.size Fo (fb p iv kv ++ fb a ia ka) := fun b => by
    have := H.f b
    simp only [List.count_append] at this ⊢
    exact ⟨fun hb => by have := this.1 hb; omega, fun hb => by have := this.2 hb; omega⟩
  obtain ⟨ks, hks⟩ : ∃ ks : List (Kd h), ks = k1 ++ (a, t1, fb a ia ka ++ G1) :: k2 := ⟨_, rfl⟩
  refine ⟨fb p iv kv ++ kF ks, ⟨iv, kv, ps, kF ks, H.P, ⟨ks, ?_, ?_, rfl, ?_⟩, rfl⟩, ?_, ?_⟩
  · rw [hps, hks]; simp [kP]
  · rw [hks]; simp [kT]
  · intro x hx
    rw [hks] at hx
    simp only [List.mem_append, List.mem_cons] at hx
    rcases hx with hx | rfl | hx
    · exact kids_tch h1 H.t (fun b hb => hap b (by simp [hb])) x hx
    · exact hnw1
    · exact kids_tch h2 H.t (fun b hb => hap b (by simp [hb])) x hx
  · refine Fits.frame hf hR hn hF (fun b => ?_)
    rw [hks, kF_app, kF_cons]
    simp only [List.count_append]
    omega
  · exact H.t.mono (fun i _ hi => List.count_pos_iff.1 (by rw [hF]; have := count_mem hi; omega))
theorem size_le {h : Nat} {w : World} {t : Nd It h} {qs FF : List Nat} (hk : Kids h w t qs FF) (he : t.even) (hb : (Nd.flat h t).length ≤ 1000000000000000000) : zsum w qs ≤ 1000000000000000000 := by
  have := hk.size he; omega
theorem split_x (h : Nat) (w : World) (p : Nat) (s : Int) (A B : List It) (ka kb : List (Nd It h)) (k : Nd It h) (m : It) (F : List Nat) (hN : NWX h w p (A ++ B) (ka ++ k :: kb) F s) (hn : Nod F) (hka : ka.length = A.length) (hkb : kb.length = B.length) (hAB : A.length + B.length < 100) (h16 : k.its.length = 16) (he : k.even) (hm : k.its[7]? = some m) (hb : (Nd.flat h k).length ≤ 1000000000000000000) :
    Calls Try.prog 53 #[pv p, .int .i64 A.length] w fun x w' => x = .returned (.tuple #[]) ∧ ∃ F', NWX h w' p (A ++ m :: B) (ka ++ Nd.lo h 7 k :: Nd.hi h 7 k :: kb) F' s ∧ Fits w.heap.size F F' ∧ Tch (fun i => i ∈ F) w w' := by
  obtain ⟨iv, kv, qs, FF, hP, hK, rfl⟩ := hN
  obtain ⟨k1, k2, q, Fk, rfl, rfl, rfl, rfl, hq, h1, h2⟩ := kids_at hK
  obtain ⟨ia, kav, ql, G, hA, KK, rfl⟩ := NW_iff.1 hq
  have hF0 : ∀ b, (fb p iv kv ++ (kF k1 ++ ((fb q ia kav ++ G) ++ kF k2))).count b = (fb p iv kv ++ fb q ia kav).count b + (kF k1 ++ (G ++ kF k2)).count b := fun b => by simp only [List.count_append]; omega
  obtain ⟨hnod, hap⟩ := nodR hn hF0
  have hl1 : (kP k1).length = A.length := by rw [kP_len, hka]
  have hl2 : (kP k2).length = B.length := by rw [kP_len, hkb]
  have hz : ∀ x ∈ ql, w.cell? ⟨x, 2, none⟩ = some (.int .i64 (zsz w x)) ∧ 0 ≤ zsz w x ∧ x ∉ fb p iv kv ++ fb q ia kav := fun x hx => ⟨(KK.cell x hx).1, (KK.cell x hx).2, hap x (by simp [KK.mem x hx])⟩
  have hpl : (kP k1 ++ q :: kP k2)[A.length]? = some q := by rw [List.getElem?_append_right (by omega), hl1]; simp
  have hfin : ∀ (w' : World) (x : Ending), x = .returned (.tuple #[]) ∧ SplitOut w w' (fb p iv kv ++ fb q ia kav) p (A ++ B) (kP k1 ++ q :: kP k2) s q k.its ql A.length m → x = .returned (.tuple #[]) ∧ ∃ F', NWX h w' p (A ++ m :: B) (kT k1 ++ Nd.lo h 7 k :: Nd.hi h 7 k :: kT k2) F' s ∧ Fits w.heap.size (fb p iv kv ++ (kF k1 ++ ((fb q ia kav ++ G) ++ kF k2))) F' ∧ Tch (fun i => i ∈ fb p iv kv ++ (kF k1 ++ ((fb q ia kav ++ G) ++ kF k2))) w w' := by
    rintro w' x ⟨hx, iv', kv', ia', ka', N, ic, kc, H, hN⟩
    obtain ⟨G1, G2, rfl, K1, K2⟩ := KK.cut 7
    refine ⟨hx, ?_⟩
    rw [List.take_left, List.drop_left] at H
    refine lift2 H k1 k2 h1 h2 (Nd.lo h 7 k) (Nd.hi h 7 k) G1 G2 _ K1 K2 (lo_even h 7 k he (by omega)) (hi_even h 7 k he (by omega)) (lo_its h 7 k) (hi_its h 7 k) ?_ ?_ ?_ hn (fun b => by rw [hF0 b]; simp only [List.count_append]; omega)
    · rw [List.length_take, h16]; rfl
    · rw [List.length_drop, h16]; rfl
    · have e1 : (kP k1 ++ q :: kP k2).take (A.length + 1) = kP k1 ++ [q] := by
        rw [show kP k1 ++ q :: kP k2 = (kP k1 ++ [q]) ++ kP k2 by simp]
        exact List.take_left' (by simp [hl1])
      have e2 : (kP k1 ++ q :: kP k2).drop (A.length + 1) = kP k2 := by
        rw [show kP k1 ++ q :: kP k2 = (kP k1 ++ [q]) ++ kP k2 by simp]
        exact List.drop_left' (by simp [hl1])
      rw [e1, e2]
      simp
  rcases KK.len he with e | e
  · exact (split_leaf w p iv kv _ _ s q ia kav k.its ql _ A.length m hP hA hnod hpl (by rw [List.length_append]; omega) (by simp only [List.length_append, List.length_cons]; omega) h16 e hz (size_le KK he hb) hm).mono (fun x w' h => hfin w' x h)
  · exact (split_inner w p iv kv _ _ s q ia kav k.its ql _ A.length m hP hA hnod hpl (by rw [List.length_append]; omega) (by simp only [List.length_append, List.length_cons]; omega) h16 (by omega) hz (size_le KK he hb) hm).mono (fun x w' h => hfin w' x h)
end Go.Proofs.Ytdbaafigmfclcaa
