import Derived.Test.YtnjiiebjdpipjaaTSpL
import Derived.Test.YtnjiiebjdpipjaaTSpI
import Derived.Test.YtnjiiebjdpipjaaTDnL
import Derived.Test.YtnjiiebjdpipjaaTDnI
import Derived.Test.YtnjiiebjdpipjaaTUpI
import Derived.Test.YtnjiiebjdpipjaaTJoin
/- split, shiftUp, shiftDown, join: at trees. -/
namespace Go.Proofs.Ytnjiiebjdpipjaa
open Go.RowKit Go

/-- A node that has kids, with any number as its size. -/
def NWX (h : Nat) (w : World) (p : Nat) (l : List It) (ts : List (Nd It h)) (F : List Nat) (s : Int) : Prop := ∃ iv kv qs FF, FN w p iv kv l qs s ∧ KidsOf (NW h w) ts qs FF ∧ F = fb p iv kv ++ FF
theorem NW_X {h : Nat} {w : World} {p : Nat} {l : List It} {ts : List (Nd It h)} {F : List Nat} : NW (h + 1) w p ((l, ts) : Nd It (h + 1)) F ↔ NWX h w p l ts F (Nd.flat (h + 1) ((l, ts) : Nd It (h + 1))).length := Iff.rfl
abbrev Kd (h : Nat) := Nat × Nd It h × List Nat
def kF {h : Nat} (ks : List (Kd h)) : List Nat := ks.flatMap (·.2.2)
def kT {h : Nat} (ks : List (Kd h)) : List (Nd It h) := ks.map (·.2.1)
def kP {h : Nat} (ks : List (Kd h)) : List Nat := ks.map (·.1)
theorem kF_app {h : Nat} (a b : List (Kd h)) : kF (a ++ b) = kF a ++ kF b := by simp [kF]
theorem kF_cons {h : Nat} (a : Kd h) (b : List (Kd h)) : kF (a :: b) = a.2.2 ++ kF b := by simp [kF]
theorem kids_at {h : Nat} {w : World} {ka kb : List (Nd It h)} {k : Nd It h} {qs FF : List Nat} (hk : KidsOf (NW h w) (ka ++ k :: kb) qs FF) : ∃ (k1 k2 : List (Kd h)) (q : Nat) (Fk : List Nat), qs = kP k1 ++ q :: kP k2 ∧ FF = kF k1 ++ (Fk ++ kF k2) ∧ ka = kT k1 ∧ kb = kT k2 ∧ NW h w q k Fk ∧ (∀ x ∈ k1, NW h w x.1 x.2.1 x.2.2) ∧ (∀ x ∈ k2, NW h w x.1 x.2.1 x.2.2) := by
  obtain ⟨ks, e1, e2, e3, h3⟩ := hk
  obtain ⟨k1, r, rfl, h4, h5⟩ := List.map_eq_append_iff.1 e2.symm
  obtain ⟨x, k2, rfl, h6, h7⟩ := List.map_eq_cons_iff.1 h5
  obtain ⟨q, k', Fk⟩ := x
  simp only at h6
  subst h6
  refine ⟨k1, k2, q, Fk, by rw [e1]; simp [kP], by rw [e3]; simp [kF], h4.symm, h7.symm, h3 (q, k', Fk) (by simp), fun x hx => h3 x (by simp [hx]), fun x hx => h3 x (by simp [hx])⟩
theorem kP_len {h : Nat} (ks : List (Kd h)) : (kP ks).length = (kT ks).length := by simp [kP, kT]
theorem kF_lt {h : Nat} {w : World} {ks : List (Kd h)} (hk : ∀ x ∈ ks, NW h w x.1 x.2.1 x.2.2) : ∀ b ∈ kF ks, b < w.heap.size := fun b hb => by
  obtain ⟨x, hx, hb⟩ := List.mem_flatMap.1 hb
  exact (hk x hx).lt b hb
theorem kids_tch {h : Nat} {S : Nat → Prop} {w w' : World} {ks : List (Kd h)} (hk : ∀ x ∈ ks, NW h w x.1 x.2.1 x.2.2) (t : Tch S w w') (hS : ∀ b ∈ kF ks, ¬ S b) : ∀ x ∈ ks, NW h w' x.1 x.2.1 x.2.2 := fun x hx => (hk x hx).tch t (fun b hb => hS b (List.mem_flatMap.2 ⟨x, hx, hb⟩))
theorem kids_make {h : Nat} {w : World} (ks : List (Kd h)) (hk : ∀ x ∈ ks, NW h w x.1 x.2.1 x.2.2) : KidsOf (NW h w) (kT ks) (kP ks) (kF ks) := ⟨ks, rfl, rfl, rfl, hk⟩
theorem Fits.frame {n : Nat} {Fo Fn F F' R : List Nat} (h : Fits n Fo Fn) (hR : ∀ b ∈ R, b < n) (hn : Nod F) (e1 : ∀ b, F.count b = Fo.count b + R.count b) (e2 : ∀ b, F'.count b = Fn.count b + R.count b) : Fits n F F' := fun b => by
  have h1 := h b
  have h2 := hn b
  rw [e1] at h2
  rw [e1, e2]
  constructor
  · intro hb; have := h1.1 hb; omega
  · intro hb
    have : R.count b = 0 := List.count_eq_zero.2 (fun hm => by have := hR b hm; omega)
    have := h1.2 hb
    omega
theorem nodR {Fo R F : List Nat} (hn : Nod F) (e1 : ∀ b, F.count b = Fo.count b + R.count b) : Nod Fo ∧ ∀ b ∈ R, b ∉ Fo := by
  refine ⟨fun b => ?_, fun b hb hb' => ?_⟩
  · have := hn b; rw [e1] at this; omega
  · have := hn b; rw [e1] at this; have := count_mem hb; have := count_mem hb'; omega
/-- Behind a step on two kids beside each other. -/
theorem lift2 {h : Nat} {w w' : World} {Fo : List Nat} {p : Nat} {iv kv : Value} {L : List It} {ps : List Nat} {s : Int} {a : Nat} {ia ka : Value} {l : List It} {ql : List Nat} {sa : Int} {c : Nat} {ic kc : Value} {r : List It} {qr : List Nat} {sc : Int}
    (H : S3 w w' Fo p iv kv L ps s a ia ka l ql sa c ic kc r qr sc) (k1 k2 : List (Kd h)) (h1 : ∀ x ∈ k1, NW h w x.1 x.2.1 x.2.2) (h2 : ∀ x ∈ k2, NW h w x.1 x.2.1 x.2.2) (t1 t2 : Nd It h) (G1 G2 F : List Nat)
    (K1 : Kids h w t1 ql G1) (K2 : Kids h w t2 qr G2) (e1 : t1.even) (e2 : t2.even) (i1 : t1.its = l) (i2 : t2.its = r) (s1 : sa = l.length + zsum w ql) (s2 : sc = r.length + zsum w qr) (hps : ps = kP k1 ++ a :: c :: kP k2)
    (hn : Nod F) (hF : ∀ b, F.count b = Fo.count b + (kF k1 ++ (G1 ++ (G2 ++ kF k2))).count b) :
    ∃ F', NWX h w' p L (kT k1 ++ t1 :: t2 :: kT k2) F' s ∧ Fits w.heap.size F F' ∧ Tch (fun i => i ∈ F) w w' := by
  obtain ⟨-, hap⟩ := nodR hn hF
  have hR : ∀ b ∈ kF k1 ++ (G1 ++ (G2 ++ kF k2)), b < w.heap.size := fun b hb => by
    simp only [List.mem_append] at hb
    rcases hb with hb | hb | hb | hb
    · exact kF_lt h1 b hb
    · exact K1.lt b hb
    · exact K2.lt b hb
    · exact kF_lt h2 b hb
  have hnw1 : NW h w' a t1 (fb a ia ka ++ G1) := NW_iff.2 ⟨ia, ka, ql, G1, by
    have := H.A
    rw [s1, ← i1, K1.size e1] at this
    exact this, K1.tch H.t (fun b hb => hap b (by simp [hb])), rfl⟩
  have hnw2 : NW h w' c t2 (fb c ic kc ++ G2) := NW_iff.2 ⟨ic, kc, qr, G2, by
    have := H.B
    rw [s2, ← i2, K2.size e2] at this
    exact this, K2.tch H.t (fun b hb => hap b (by simp [hb])), rfl⟩
  obtain ⟨ks, hks⟩ : ∃ ks : List (Kd h), ks = k1 ++ (a, t1, fb a ia ka ++ G1) :: (c, t2, fb c ic kc ++ G2) :: k2 := ⟨_, rfl⟩
  refine ⟨fb p iv kv ++ kF ks, ⟨iv, kv, ps, kF ks, H.P, ⟨ks, ?_, ?_, rfl, ?_⟩, rfl⟩, ?_, ?_⟩
  · rw [hps, hks]; simp [kP]
  · rw [hks]; simp [kT]
  · intro x hx
    rw [hks] at hx
    simp only [List.mem_append, List.mem_cons] at hx
    rcases hx with hx | rfl | rfl | hx
    · exact kids_tch h1 H.t (fun b hb => hap b (by simp [hb])) x hx
    · exact hnw1
    · exact hnw2
    · exact kids_tch h2 H.t (fun b hb => hap b (by simp [hb])) x hx
  · refine Fits.frame H.f hR hn hF (fun b => ?_)
    rw [hks, kF_app, kF_cons, kF_cons]
    simp only [List.count_append]
    omega
  · exact H.t.mono (fun i _ hi => List.count_pos_iff.1 (by rw [hF]; have := count_mem hi; omega))
/-- Behind a step that leaves one kid of two. -/
theorem lift1 {h : Nat} {w w' : World} {Fo : List Nat} {p : Nat} {iv kv : Value} {L : List It} {ps : List Nat} {s : Int} {a : Nat} {ia ka : Value} {l : List It} {ql : List Nat} {sa : Int} {c : Nat} {ic kc : Value} {r : List It} {qr : List Nat} {sc : Int}
    (H : S3 w w' Fo p iv kv L ps s a ia ka l ql sa c ic kc r qr sc) (k1 k2 : List (Kd h)) (h1 : ∀ x ∈ k1, NW h w x.1 x.2.1 x.2.2) (h2 : ∀ x ∈ k2, NW h w x.1 x.2.1 x.2.2) (t1 : Nd It h) (G1 F : List Nat)
    (K1 : Kids h w t1 ql G1) (e1 : t1.even) (i1 : t1.its = l) (s1 : sa = l.length + zsum w ql) (hps : ps = kP k1 ++ a :: kP k2)
    (hn : Nod F) (hF : ∀ b, F.count b = Fo.count b + (kF k1 ++ (G1 ++ kF k2)).count b) :
    ∃ F', NWX h w' p L (kT k1 ++ t1 :: kT k2) F' s ∧ Fits w.heap.size F F' ∧ Tch (fun i => i ∈ F) w w' := by
  obtain ⟨-, hap⟩ := nodR hn hF
  have hR : ∀ b ∈ kF k1 ++ (G1 ++ kF k2), b < w.heap.size := fun b hb => by
    simp only [List.mem_append] at hb
    rcases hb with hb | hb | hb
    · exact kF_lt h1 b hb
    · exact K1.lt b hb
    · exact kF_lt h2 b hb
  have hnw1 : NW h w' a t1 (fb a ia ka ++ G1) := NW_iff.2 ⟨ia, ka, ql, G1, by
    have := H.A
    rw [s1, ← i1, K1.size e1] at this
    exact this, K1.tch H.t (fun b hb => hap b (by simp [hb])), rfl⟩
  have hf : Fits w.heap.size Fo (fb p iv kv ++ fb a ia ka) := fun b => by
    have := H.f b
    simp only [List.count_append] at this ⊢
    exact ⟨fun hb => by have := this.1 hb; omega, fun hb => by have := this.2 hb; omega⟩
  obtain ⟨ks, hks⟩ : ∃ ks : List (Kd h), ks = k1 ++ (a, t1, fb a ia ka ++ G1) :: k2 := ⟨_, rfl⟩
  refine ⟨fb p iv kv ++ kF ks, ⟨iv, kv, ps, kF ks, H.P, ⟨ks, ?_, ?_, rfl, ?_⟩, rfl⟩, ?_, ?_⟩
  · rw [hps, hks]; simp [kP]
  · rw [hks]; simp [kT]
  · intro x hx
    rw [hks] at hx
    simp only [List.mem_append, List.mem_cons] at hx
    rcases hx with hx | rfl | hx
    · exact kids_tch h1 H.t (fun b hb => hap b (by simp [hb])) x hx
    · exact hnw1
    · exact kids_tch h2 H.t (fun b hb => hap b (by simp [hb])) x hx
  · refine Fits.frame hf hR hn hF (fun b => ?_)
    rw [hks, kF_app, kF_cons]
    simp only [List.count_append]
    omega
  · exact H.t.mono (fun i _ hi => List.count_pos_iff.1 (by rw [hF]; have := count_mem hi; omega))
theorem size_le {h : Nat} {w : World} {t : Nd It h} {qs FF : List Nat} (hk : Kids h w t qs FF) (he : t.even) (hb : (Nd.flat h t).length ≤ 1000000000000000000) : zsum w qs ≤ 1000000000000000000 := by
  have := hk.size he; omega
theorem split_x (h : Nat) (w : World) (p : Nat) (s : Int) (A B : List It) (ka kb : List (Nd It h)) (k : Nd It h) (m : It) (F : List Nat) (hN : NWX h w p (A ++ B) (ka ++ k :: kb) F s) (hn : Nod F) (hka : ka.length = A.length) (hkb : kb.length = B.length) (hAB : A.length + B.length < 100) (h16 : k.its.length = 16) (he : k.even) (hm : k.its[7]? = some m) (hb : (Nd.flat h k).length ≤ 1000000000000000000) :
    Calls Try.prog 53 #[pv p, .int .i64 A.length] w fun x w' => x = .returned (.tuple #[]) ∧ ∃ F', NWX h w' p (A ++ m :: B) (ka ++ Nd.lo h 7 k :: Nd.hi h 7 k :: kb) F' s ∧ Fits w.heap.size F F' ∧ Tch (fun i => i ∈ F) w w' := by
  obtain ⟨iv, kv, qs, FF, hP, hK, rfl⟩ := hN
  obtain ⟨k1, k2, q, Fk, rfl, rfl, rfl, rfl, hq, h1, h2⟩ := kids_at hK
  obtain ⟨ia, kav, ql, G, hA, KK, rfl⟩ := NW_iff.1 hq
  have hF0 : ∀ b, (fb p iv kv ++ (kF k1 ++ ((fb q ia kav ++ G) ++ kF k2))).count b = (fb p iv kv ++ fb q ia kav).count b + (kF k1 ++ (G ++ kF k2)).count b := fun b => by simp only [List.count_append]; omega
  obtain ⟨hnod, hap⟩ := nodR hn hF0
  have hl1 : (kP k1).length = A.length := by rw [kP_len, hka]
  have hl2 : (kP k2).length = B.length := by rw [kP_len, hkb]
  have hz : ∀ x ∈ ql, w.cell? ⟨x, 2, none⟩ = some (.int .i64 (zsz w x)) ∧ 0 ≤ zsz w x ∧ x ∉ fb p iv kv ++ fb q ia kav := fun x hx => ⟨(KK.cell x hx).1, (KK.cell x hx).2, hap x (by simp [KK.mem x hx])⟩
  have hpl : (kP k1 ++ q :: kP k2)[A.length]? = some q := by rw [List.getElem?_append_right (by omega), hl1]; simp
  have hfin : ∀ (w' : World) (x : Ending), x = .returned (.tuple #[]) ∧ SplitOut w w' (fb p iv kv ++ fb q ia kav) p (A ++ B) (kP k1 ++ q :: kP k2) s q k.its ql A.length m → x = .returned (.tuple #[]) ∧ ∃ F', NWX h w' p (A ++ m :: B) (kT k1 ++ Nd.lo h 7 k :: Nd.hi h 7 k :: kT k2) F' s ∧ Fits w.heap.size (fb p iv kv ++ (kF k1 ++ ((fb q ia kav ++ G) ++ kF k2))) F' ∧ Tch (fun i => i ∈ fb p iv kv ++ (kF k1 ++ ((fb q ia kav ++ G) ++ kF k2))) w w' := by
    rintro w' x ⟨hx, iv', kv', ia', ka', N, ic, kc, H, hN⟩
    obtain ⟨G1, G2, rfl, K1, K2⟩ := KK.cut 7
    refine ⟨hx, ?_⟩
    rw [List.take_left, List.drop_left] at H
    refine lift2 H k1 k2 h1 h2 (Nd.lo h 7 k) (Nd.hi h 7 k) G1 G2 _ K1 K2 (lo_even h 7 k he (by omega)) (hi_even h 7 k he (by omega)) (lo_its h 7 k) (hi_its h 7 k) ?_ ?_ ?_ hn (fun b => by rw [hF0 b]; simp only [List.count_append]; omega)
    · rw [List.length_take, h16]; rfl
    · rw [List.length_drop, h16]; rfl
    · have e1 : (kP k1 ++ q :: kP k2).take (A.length + 1) = kP k1 ++ [q] := by
        rw [show kP k1 ++ q :: kP k2 = (kP k1 ++ [q]) ++ kP k2 by simp]
        exact List.take_left' (by simp [hl1])
      have e2 : (kP k1 ++ q :: kP k2).drop (A.length + 1) = kP k2 := by
        rw [show kP k1 ++ q :: kP k2 = (kP k1 ++ [q]) ++ kP k2 by simp]
        exact List.drop_left' (by simp [hl1])
      rw [e1, e2]
      simp
  rcases KK.len he with e | e
  · exact (split_leaf w p iv kv _ _ s q ia kav k.its ql _ A.length m hP hA hnod hpl (by rw [List.length_append]; omega) (by simp only [List.length_append, List.length_cons]; omega) h16 e hz (size_le KK he hb) hm).mono (fun x w' h => hfin w' x h)
  · exact (split_inner w p iv kv _ _ s q ia kav k.its ql _ A.length m hP hA hnod hpl (by rw [List.length_append]; omega) (by simp only [List.length_append, List.length_cons]; omega) h16 (by omega) hz (size_le KK he hb) hm).mono (fun x w' h => hfin w' x h)
end Go.Proofs.Ytnjiiebjdpipjaa
/- shiftUp, shiftDown, join: at trees. -/
namespace Go.Proofs.Ytnjiiebjdpipjaa
open Go.RowKit Go

theorem set_mid (A B : List It) (m x : It) : (A ++ m :: B).set A.length x = A ++ x :: B := by
  rw [List.set_append_right _ _ (Nat.le_refl _), Nat.sub_self]; rfl
theorem kids_at2 {h : Nat} {w : World} {ka kb : List (Nd It h)} {l r : Nd It h} {qs FF : List Nat} (hk : KidsOf (NW h w) (ka ++ l :: r :: kb) qs FF) : ∃ (k1 k2 : List (Kd h)) (q c : Nat) (Fl Fr : List Nat), qs = kP k1 ++ q :: c :: kP k2 ∧ FF = kF k1 ++ (Fl ++ (Fr ++ kF k2)) ∧ ka = kT k1 ∧ kb = kT k2 ∧ NW h w q l Fl ∧ NW h w c r Fr ∧ (∀ x ∈ k1, NW h w x.1 x.2.1 x.2.2) ∧ (∀ x ∈ k2, NW h w x.1 x.2.1 x.2.2) := by
  obtain ⟨k1, k2, q, Fk, rfl, rfl, rfl, e, hq, h1, h2⟩ := kids_at hk
  obtain ⟨x, k3, rfl, h6, h7⟩ := List.map_eq_cons_iff.1 e.symm
  obtain ⟨c, r', Fr⟩ := x
  simp only at h6
  subst h6
  exact ⟨k1, k3, q, c, Fk, Fr, by simp [kP], by simp [kF], rfl, h7.symm, hq, h2 (c, r', Fr) (by simp), h1, fun x hx => h2 x (by simp [hx])⟩
section
variable (h : Nat) (w : World) (p : Nat) (s : Int) (A B : List It) (ka kb : List (Nd It h)) (l r : Nd It h) (m : It) (F : List Nat)
theorem up_x (n1 : Nat) (mx : It) (hN : NWX h w p (A ++ m :: B) (ka ++ l :: r :: kb) F s) (hn : Nod F) (hka : ka.length = A.length) (hkb : kb.length = B.length) (hAB : A.length + B.length < 90) (hll : l.its.length = n1 + 1) (hl1 : n1 < 90) (hr1 : r.its.length < 90) (he : l.even) (he' : r.even) (hm : l.its[n1]? = some mx) (hb : (Nd.flat h l).length + (Nd.flat h r).length ≤ 1000000000000000000) :
    Calls Try.prog 83 #[pv p, .int .i64 A.length] w fun x w' => x = .returned (.tuple #[]) ∧ ∃ F', NWX h w' p (A ++ mx :: B) (ka ++ Nd.lo h n1 (Nd.glue h l m r) :: Nd.hi h n1 (Nd.glue h l m r) :: kb) F' s ∧ Fits w.heap.size F F' ∧ Tch (fun i => i ∈ F) w w' := by
  obtain ⟨iv, kv, qs, FF, hP, hK, rfl⟩ := hN
  obtain ⟨k1, k2, q, c, Fl, Fr, rfl, rfl, rfl, rfl, hq, hc, h1, h2⟩ := kids_at2 hK
  obtain ⟨ia, kav, ql, G, hA, KK, rfl⟩ := NW_iff.1 hq
  obtain ⟨ic, kcv, qr, G', hB, KK', rfl⟩ := NW_iff.1 hc
  have hF0 : ∀ b, (fb p iv kv ++ (kF k1 ++ ((fb q ia kav ++ G) ++ ((fb c ic kcv ++ G') ++ kF k2)))).count b = (fb p iv kv ++ (fb q ia kav ++ fb c ic kcv)).count b + (kF k1 ++ (G ++ (G' ++ kF k2))).count b := fun b => by simp only [List.count_append]; omega
  obtain ⟨hnod, hap⟩ := nodR hn hF0
  have hl1' : (kP k1).length = A.length := by rw [kP_len, hka]
  have hl2' : (kP k2).length = B.length := by rw [kP_len, hkb]
  have hz : ∀ x ∈ ql ++ qr, w.cell? ⟨x, 2, none⟩ = some (.int .i64 (zsz w x)) ∧ 0 ≤ zsz w x ∧ x ∉ fb p iv kv ++ (fb q ia kav ++ fb c ic kcv) := fun x hx => by
    rcases List.mem_append.1 hx with hx | hx
    · exact ⟨(KK.cell x hx).1, (KK.cell x hx).2, hap x (by simp [KK.mem x hx])⟩
    · exact ⟨(KK'.cell x hx).1, (KK'.cell x hx).2, hap x (by simp [KK'.mem x hx])⟩
  have hzb : zsum w (ql ++ qr) ≤ 1000000000000000000 := by rw [zsum_app]; have := KK.size he; have := KK'.size he'; omega
  have hpl : (kP k1 ++ q :: c :: kP k2)[A.length]? = some q := by rw [List.getElem?_append_right (by omega), hl1']; simp
  have hpc : (kP k1 ++ q :: c :: kP k2)[A.length + 1]? = some c := by rw [List.getElem?_append_right (by omega), hl1']; simp
  have hmm : (A ++ m :: B)[A.length]? = some m := by rw [List.getElem?_append_right (Nat.le_refl _)]; simp
  obtain ⟨G1, G2, eG, K1, K2⟩ := (KK.glue KK' m).cut n1
  have hge := glue_even h l m r he he'
  have hgl : n1 < (Nd.glue h l m r).its.length := by rw [glue_its, List.length_append]; omega
  have i1 : (Nd.lo h n1 (Nd.glue h l m r)).its = l.its.take n1 := by rw [lo_its, glue_its, List.take_append_of_le_length (by omega)]
  have i2 : (Nd.hi h n1 (Nd.glue h l m r)).its = m :: r.its := by rw [hi_its, glue_its]; exact List.drop_left' hll
  have hfin : (ql = [] ∧ qr = []) ∨ ql.length = n1 + 2 → ∀ (w' : World) (x : Ending), x = .returned (.tuple #[]) ∧ ShiftOut w w' (fb p iv kv ++ (fb q ia kav ++ fb c ic kcv)) p ((A ++ m :: B).set A.length mx) (kP k1 ++ q :: c :: kP k2) s q c (l.its.take n1) (m :: r.its) (ql.take (n1 + 1)) (ql.drop (n1 + 1) ++ qr) → x = .returned (.tuple #[]) ∧ ∃ F', NWX h w' p (A ++ mx :: B) (kT k1 ++ Nd.lo h n1 (Nd.glue h l m r) :: Nd.hi h n1 (Nd.glue h l m r) :: kT k2) F' s ∧ Fits w.heap.size (fb p iv kv ++ (kF k1 ++ ((fb q ia kav ++ G) ++ ((fb c ic kcv ++ G') ++ kF k2)))) F' ∧ Tch (fun i => i ∈ fb p iv kv ++ (kF k1 ++ ((fb q ia kav ++ G) ++ ((fb c ic kcv ++ G') ++ kF k2)))) w w' := by
    rintro hq w' x ⟨hx, iv', kv', ia', ka', ic', kc', H⟩
    have t1 : (ql ++ qr).take (n1 + 1) = ql.take (n1 + 1) := by
      rcases hq with ⟨rfl, rfl⟩ | hq
      · rfl
      · exact List.take_append_of_le_length (by omega)
    have t2 : (ql ++ qr).drop (n1 + 1) = ql.drop (n1 + 1) ++ qr := by
      rcases hq with ⟨rfl, rfl⟩ | hq
      · simp
      · exact List.drop_append_of_le_length (by omega)
    rw [t1] at K1
    rw [t2] at K2
    refine ⟨hx, ?_⟩
    rw [set_mid] at H
    exact lift2 H k1 k2 h1 h2 _ _ G1 G2 _ K1 K2 (lo_even h n1 _ hge hgl) (hi_even h n1 _ hge hgl) i1 i2 rfl rfl rfl hn (fun b => by
      rw [hF0 b]
      have : (G ++ G').count b = (G1 ++ G2).count b := by rw [eG]
      simp only [List.count_append] at this ⊢; omega)
  rcases KK.len he with e | e
  · have e' : qr = [] := by
      cases h with
      | zero => exact KK'.1
      | succ h => have := he; have := KK; obtain ⟨ks, e1, e2, _, _⟩ := KK; exfalso; have h9 : l.2.length = l.1.length + 1 := he; rw [e2, List.length_map] at h9; rw [e] at e1; have h8 := congrArg List.length e1; rw [List.length_map] at h8; simp at h8; omega
    exact (shiftUp_leaf w p iv kv _ _ s q ia kav l.its ql _ c ic kcv r.its qr _ A.length m mx n1 hP hA hB hnod hpl hpc hmm (by simp only [List.length_append, List.length_cons]; omega) (by simp only [List.length_append, List.length_cons]; omega) (by omega) (by omega) e e' hll hm hz hzb).mono (fun x w' h => hfin (Or.inl ⟨e, e'⟩) w' x h)
  · have e' : qr.length = r.its.length + 1 := by
      rcases KK'.len he' with e' | e'
      · cases h with
        | zero => have := KK.1; rw [this] at e; simp at e
        | succ h => obtain ⟨ks, e1, e2, _, _⟩ := KK'; exfalso; have h9 : r.2.length = r.1.length + 1 := he'; rw [e2, List.length_map] at h9; rw [e'] at e1; have h8 := congrArg List.length e1; rw [List.length_map] at h8; simp at h8; omega
      · exact e'
    exact (shiftUp_inner w p iv kv _ _ s q ia kav l.its ql _ c ic kcv r.its qr _ A.length m mx n1 hP hA hB hnod hpl hpc hmm (by simp only [List.length_append, List.length_cons]; omega) (by simp only [List.length_append, List.length_cons]; omega) (by omega) (by omega) e e' hll hm hz hzb).mono (fun x w' h => hfin (Or.inr (by omega)) w' x h)
theorem down_x (mx : It) (hN : NWX h w p (A ++ m :: B) (ka ++ l :: r :: kb) F s) (hn : Nod F) (hka : ka.length = A.length) (hkb : kb.length = B.length) (hAB : A.length + B.length < 90) (hl1 : l.its.length < 90) (hr1 : r.its.length < 90) (hr2 : 0 < r.its.length) (he : l.even) (he' : r.even) (hm : r.its[0]? = some mx) (hb : (Nd.flat h l).length + (Nd.flat h r).length ≤ 1000000000000000000) :
    Calls Try.prog 84 #[pv p, .int .i64 A.length] w fun x w' => x = .returned (.tuple #[]) ∧ ∃ F', NWX h w' p (A ++ mx :: B) (ka ++ Nd.lo h (l.its.length + 1) (Nd.glue h l m r) :: Nd.hi h (l.its.length + 1) (Nd.glue h l m r) :: kb) F' s ∧ Fits w.heap.size F F' ∧ Tch (fun i => i ∈ F) w w' := by
  obtain ⟨iv, kv, qs, FF, hP, hK, rfl⟩ := hN
  obtain ⟨k1, k2, q, c, Fl, Fr, rfl, rfl, rfl, rfl, hq, hc, h1, h2⟩ := kids_at2 hK
  obtain ⟨ia, kav, ql, G, hA, KK, rfl⟩ := NW_iff.1 hq
  obtain ⟨ic, kcv, qr, G', hB, KK', rfl⟩ := NW_iff.1 hc
  have hF0 : ∀ b, (fb p iv kv ++ (kF k1 ++ ((fb q ia kav ++ G) ++ ((fb c ic kcv ++ G') ++ kF k2)))).count b = (fb p iv kv ++ (fb q ia kav ++ fb c ic kcv)).count b + (kF k1 ++ (G ++ (G' ++ kF k2))).count b := fun b => by simp only [List.count_append]; omega
  obtain ⟨hnod, hap⟩ := nodR hn hF0
  have hl1' : (kP k1).length = A.length := by rw [kP_len, hka]
  have hl2' : (kP k2).length = B.length := by rw [kP_len, hkb]
  have hz : ∀ x ∈ ql ++ qr, w.cell? ⟨x, 2, none⟩ = some (.int .i64 (zsz w x)) ∧ 0 ≤ zsz w x ∧ x ∉ fb p iv kv ++ (fb q ia kav ++ fb c ic kcv) := fun x hx => by
    rcases List.mem_append.1 hx with hx | hx
    · exact ⟨(KK.cell x hx).1, (KK.cell x hx).2, hap x (by simp [KK.mem x hx])⟩
    · exact ⟨(KK'.cell x hx).1, (KK'.cell x hx).2, hap x (by simp [KK'.mem x hx])⟩
  have hzb : zsum w (ql ++ qr) ≤ 1000000000000000000 := by rw [zsum_app]; have := KK.size he; have := KK'.size he'; omega
  have hpl : (kP k1 ++ q :: c :: kP k2)[A.length]? = some q := by rw [List.getElem?_append_right (by omega), hl1']; simp
  have hpc : (kP k1 ++ q :: c :: kP k2)[A.length + 1]? = some c := by rw [List.getElem?_append_right (by omega), hl1']; simp
  have hmm : (A ++ m :: B)[A.length]? = some m := by rw [List.getElem?_append_right (Nat.le_refl _)]; simp
  obtain ⟨G1, G2, eG, K1, K2⟩ := (KK.glue KK' m).cut (l.its.length + 1)
  have hge := glue_even h l m r he he'
  have hgl : l.its.length + 1 < (Nd.glue h l m r).its.length := by rw [glue_its, List.length_append, List.length_cons]; omega
  have i1 : (Nd.lo h (l.its.length + 1) (Nd.glue h l m r)).its = l.its ++ [m] := by
    rw [lo_its, glue_its, show l.its ++ m :: r.its = (l.its ++ [m]) ++ r.its by simp]; exact List.take_left' (by simp)
  have i2 : (Nd.hi h (l.its.length + 1) (Nd.glue h l m r)).its = r.its.drop 1 := by
    rw [hi_its, glue_its, show l.its ++ m :: r.its = (l.its ++ [m]) ++ r.its by simp, List.drop_append, List.drop_eq_nil_of_le (by simp), List.nil_append]; congr 1; simp
  have hfin : (ql = [] ∧ qr = []) ∨ ql.length = l.its.length + 1 → ∀ (w' : World) (x : Ending), x = .returned (.tuple #[]) ∧ ShiftOut w w' (fb p iv kv ++ (fb q ia kav ++ fb c ic kcv)) p ((A ++ m :: B).set A.length mx) (kP k1 ++ q :: c :: kP k2) s q c (l.its ++ [m]) (r.its.drop 1) (ql ++ qr.take 1) (qr.drop 1) → x = .returned (.tuple #[]) ∧ ∃ F', NWX h w' p (A ++ mx :: B) (kT k1 ++ Nd.lo h (l.its.length + 1) (Nd.glue h l m r) :: Nd.hi h (l.its.length + 1) (Nd.glue h l m r) :: kT k2) F' s ∧ Fits w.heap.size (fb p iv kv ++ (kF k1 ++ ((fb q ia kav ++ G) ++ ((fb c ic kcv ++ G') ++ kF k2)))) F' ∧ Tch (fun i => i ∈ fb p iv kv ++ (kF k1 ++ ((fb q ia kav ++ G) ++ ((fb c ic kcv ++ G') ++ kF k2)))) w w' := by
    rintro hq w' x ⟨hx, iv', kv', ia', ka', ic', kc', H⟩
    have t1 : (ql ++ qr).take (l.its.length + 1 + 1) = ql ++ qr.take 1 := by
      rcases hq with ⟨rfl, rfl⟩ | hq
      · rfl
      · rw [List.take_append, List.take_of_length_le (by omega), hq]; congr 2; omega
    have t2 : (ql ++ qr).drop (l.its.length + 1 + 1) = qr.drop 1 := by
      rcases hq with ⟨rfl, rfl⟩ | hq
      · rfl
      · rw [List.drop_append, List.drop_eq_nil_of_le (by omega), hq, List.nil_append]; congr 1; omega
    rw [t1] at K1
    rw [t2] at K2
    refine ⟨hx, ?_⟩
    rw [set_mid] at H
    exact lift2 H k1 k2 h1 h2 _ _ G1 G2 _ K1 K2 (lo_even h _ _ hge hgl) (hi_even h _ _ hge hgl) i1 i2 rfl rfl rfl hn (fun b => by
      rw [hF0 b]
      have : (G ++ G').count b = (G1 ++ G2).count b := by rw [eG]
      simp only [List.count_append] at this ⊢; omega)
  rcases KK.len he with e | e
  · have e' : qr = [] := by
      cases h with
      | zero => exact KK'.1
      | succ h => obtain ⟨ks, e1, e2, _, _⟩ := KK; exfalso; have h9 : l.2.length = l.1.length + 1 := he; rw [e2, List.length_map] at h9; rw [e] at e1; have h8 := congrArg List.length e1; rw [List.length_map] at h8; simp at h8; omega
    exact (shiftDown_leaf w p iv kv _ _ s q ia kav l.its ql _ c ic kcv r.its qr _ A.length m mx hP hA hB hnod hpl hpc hmm (by simp only [List.length_append, List.length_cons]; omega) (by simp only [List.length_append, List.length_cons]; omega) (by omega) (by omega) e e' hm hz hzb).mono (fun x w' h => hfin (Or.inl ⟨e, e'⟩) w' x h)
  · have e' : qr.length = r.its.length + 1 := by
      rcases KK'.len he' with e' | e'
      · cases h with
        | zero => have := KK.1; rw [this] at e; simp at e
        | succ h => obtain ⟨ks, e1, e2, _, _⟩ := KK'; exfalso; have h9 : r.2.length = r.1.length + 1 := he'; rw [e2, List.length_map] at h9; rw [e'] at e1; have h8 := congrArg List.length e1; rw [List.length_map] at h8; simp at h8; omega
      · exact e'
    exact (shiftDown_inner w p iv kv _ _ s q ia kav l.its ql _ c ic kcv r.its qr _ A.length m mx hP hA hB hnod hpl hpc hmm (by simp only [List.length_append, List.length_cons]; omega) (by simp only [List.length_append, List.length_cons]; omega) (by omega) (by omega) e e' hm hz hzb).mono (fun x w' h => hfin (Or.inr e) w' x h)
theorem join_x (hN : NWX h w p (A ++ m :: B) (ka ++ l :: r :: kb) F s) (hn : Nod F) (hka : ka.length = A.length) (hkb : kb.length = B.length) (hAB : A.length + B.length < 90) (hl1 : l.its.length < 90) (hr1 : r.its.length < 90) (he : l.even) (he' : r.even) (hb : (Nd.flat h l).length + (Nd.flat h r).length ≤ 1000000000000000000) :
    Calls Try.prog 85 #[pv p, .int .i64 A.length] w fun x w' => x = .returned (.tuple #[]) ∧ ∃ F', NWX h w' p (A ++ B) (ka ++ Nd.glue h l m r :: kb) F' s ∧ Fits w.heap.size F F' ∧ Tch (fun i => i ∈ F) w w' := by
  obtain ⟨iv, kv, qs, FF, hP, hK, rfl⟩ := hN
  obtain ⟨k1, k2, q, c, Fl, Fr, rfl, rfl, rfl, rfl, hq, hc, h1, h2⟩ := kids_at2 hK
  obtain ⟨ia, kav, ql, G, hA, KK, rfl⟩ := NW_iff.1 hq
  obtain ⟨ic, kcv, qr, G', hB, KK', rfl⟩ := NW_iff.1 hc
  have hF0 : ∀ b, (fb p iv kv ++ (kF k1 ++ ((fb q ia kav ++ G) ++ ((fb c ic kcv ++ G') ++ kF k2)))).count b = (fb p iv kv ++ (fb q ia kav ++ fb c ic kcv)).count b + (kF k1 ++ (G ++ (G' ++ kF k2))).count b := fun b => by simp only [List.count_append]; omega
  obtain ⟨hnod, hap⟩ := nodR hn hF0
  have hl1' : (kP k1).length = A.length := by rw [kP_len, hka]
  have hl2' : (kP k2).length = B.length := by rw [kP_len, hkb]
  have hz : ∀ x ∈ ql ++ qr, w.cell? ⟨x, 2, none⟩ = some (.int .i64 (zsz w x)) ∧ 0 ≤ zsz w x ∧ x ∉ fb p iv kv ++ (fb q ia kav ++ fb c ic kcv) := fun x hx => by
    rcases List.mem_append.1 hx with hx | hx
    · exact ⟨(KK.cell x hx).1, (KK.cell x hx).2, hap x (by simp [KK.mem x hx])⟩
    · exact ⟨(KK'.cell x hx).1, (KK'.cell x hx).2, hap x (by simp [KK'.mem x hx])⟩
  have hzb : zsum w (ql ++ qr) ≤ 1000000000000000000 := by rw [zsum_app]; have := KK.size he; have := KK'.size he'; omega
  have hpl : (kP k1 ++ q :: c :: kP k2)[A.length]? = some q := by rw [List.getElem?_append_right (by omega), hl1']; simp
  have hpc : (kP k1 ++ q :: c :: kP k2)[A.length + 1]? = some c := by rw [List.getElem?_append_right (by omega), hl1']; simp
  have hmm : (A ++ m :: B)[A.length]? = some m := by rw [List.getElem?_append_right (Nat.le_refl _)]; simp
  have hq1 : ql.length < 100 := by
    rcases KK.len he with e | e
    · rw [e]; simp
    · omega
  have hq2 : qr.length < 100 := by
    rcases KK'.len he' with e | e
    · rw [e]; simp
    · omega
  refine (join_any w p iv kv _ _ s q ia kav l.its ql _ c ic kcv r.its qr _ A.length m hP hA hB hnod hpl hpc hmm (by simp only [List.length_append, List.length_cons]; omega) (by simp only [List.length_append, List.length_cons]; omega) (by omega) (by omega) hq1 hq2 hz hzb).mono ?_
  rintro x w' ⟨hx, iv', kv', ia', ka', ic', kc', r', qr', sc', H⟩
  refine ⟨hx, ?_⟩
  have e1 : (A ++ m :: B).take A.length ++ (A ++ m :: B).drop (A.length + 1) = A ++ B := by
    rw [List.take_left, show A ++ m :: B = (A ++ [m]) ++ B by simp, List.drop_left' (by simp)]
  have e2 : (kP k1 ++ q :: c :: kP k2).take (A.length + 1) ++ (kP k1 ++ q :: c :: kP k2).drop (A.length + 2) = kP k1 ++ q :: kP k2 := by
    rw [show kP k1 ++ q :: c :: kP k2 = (kP k1 ++ [q]) ++ (c :: kP k2) by simp, List.take_left' (by simp [hl1']), show (kP k1 ++ [q]) ++ (c :: kP k2) = (kP k1 ++ [q, c]) ++ kP k2 by simp, List.drop_left' (by simp [hl1'])]
    simp
  rw [e1, e2] at H
  exact lift1 H k1 k2 h1 h2 (Nd.glue h l m r) (G ++ G') _ (KK.glue KK' m) (glue_even h l m r he he') (glue_its h l m r) rfl rfl hn (fun b => by rw [hF0 b]; simp only [List.count_append]; omega)
end
end Go.Proofs.Ytnjiiebjdpipjaa
/- mend: each way. -/
namespace Go.Proofs.Ytnjiiebjdpipjaa
open Go.RowKit Go

set_option maxHeartbeats 2000000 in
set_option maxRecDepth 100000 in
theorem mend_ok (w : World) (p kg kd mp : Nat) (i : Nat) (q : Nat) (qo : Option Addr) (nq qc : Nat) 
    (_hmp : mp < 100) (d1 : w.cell? ⟨p, 1, none⟩ = some (.slice (some ⟨kg, 0, none⟩) mp kd)) (hpl : i < mp) (k0 : w.cell? ⟨kg, i, none⟩ = some (pv q)) (e0 : w.cell? ⟨q, 0, none⟩ = some (.slice qo nq qc)) (h7 : 7 ≤ nq)
    :
    Calls Try.prog 56 #[pv p, .int .i64 i] w fun x w' => x = .returned (.tuple #[]) ∧ w' = w := by
  have h7' : (7 : Int) ≤ nq := by omega
  have hi1 : (i : Int) < mp := by omega
  go_enter Try.func56, Try.ntmps56
  go_wp2_with fail
  go_end0
  exact ⟨rfl, rfl⟩
set_option maxHeartbeats 2000000 in
set_option maxRecDepth 100000 in
theorem mend_up (w : World) (p kg kd mp : Nat) (j : Nat) (q : Nat) (qo : Option Addr) (nq qc : Nat) (ql : Nat) (lo : Option Addr) (nl lc : Nat)
    (hmp : mp < 100) (d1 : w.cell? ⟨p, 1, none⟩ = some (.slice (some ⟨kg, 0, none⟩) mp kd)) (hpl : (j + 1) < mp) (k0 : w.cell? ⟨kg, (j + 1), none⟩ = some (pv q)) (e0 : w.cell? ⟨q, 0, none⟩ = some (.slice qo nq qc)) (kl : w.cell? ⟨kg, j, none⟩ = some (pv ql)) (el : w.cell? ⟨ql, 0, none⟩ = some (.slice lo nl lc)) (h7 : nq < 7) (hl : 7 < nl)
    (R : World → Prop) (hq : Calls Try.prog 83 #[pv p, .int .i64 j] w fun x w' => x = .returned (.tuple #[]) ∧ R w') :
    Calls Try.prog 56 #[pv p, .int .i64 (j + 1)] w fun x w' => x = .returned (.tuple #[]) ∧ R w' := by
  have h7 : ¬ (7 : Int) ≤ nq := by omega
  have hj1 : (j : Int) + 1 < mp := by omega
  have hj2 : (j : Int) < mp := by omega
  have hj3 : (0 : Int) < (j : Int) + 1 := by omega
  have hjt : ((j : Int) + 1).toNat = j + 1 := by omega
  have hl' : (7 : Int) < nl := by omega
  go_enter Try.func56, Try.ntmps56
  go_wp2_with fail
  refine hq.mono ?_
  rintro x w1 ⟨rfl, h1⟩
  go_wp2_with fail
  go_end0
  exact ⟨rfl, h1⟩
set_option maxHeartbeats 2000000 in
set_option maxRecDepth 100000 in
theorem mend_down0 (w : World) (p kg kd mp : Nat) (q : Nat) (qo : Option Addr) (nq qc : Nat) (qr : Nat) (ro : Option Addr) (nr rc : Nat) (po : Option Addr) (np pc : Nat)
    (hmp : mp < 100) (d1 : w.cell? ⟨p, 1, none⟩ = some (.slice (some ⟨kg, 0, none⟩) mp kd)) (hpl : 0 < mp) (k0 : w.cell? ⟨kg, 0, none⟩ = some (pv q)) (e0 : w.cell? ⟨q, 0, none⟩ = some (.slice qo nq qc)) (d0 : w.cell? ⟨p, 0, none⟩ = some (.slice po np pc)) (kr : w.cell? ⟨kg, 1, none⟩ = some (pv qr)) (er : w.cell? ⟨qr, 0, none⟩ = some (.slice ro nr rc)) (h7 : nq < 7) (hnp : 0 < np) (hnm : np + 1 = mp) (hr : 7 < nr)
    (R : World → Prop) (hq : Calls Try.prog 84 #[pv p, .int .i64 0] w fun x w' => x = .returned (.tuple #[]) ∧ R w') :
    Calls Try.prog 56 #[pv p, .int .i64 0] w fun x w' => x = .returned (.tuple #[]) ∧ R w' := by
  have h7 : ¬ (7 : Int) ≤ nq := by omega
  have hr' : (7 : Int) < nr := by omega
  have hn1 : (0 : Int) < np := by omega
  have hm0 : (0 : Int) < mp := by omega
  have hm1 : (1 : Int) < mp := by omega
  clear hnm
  go_enter Try.func56, Try.ntmps56
  go_wp2_with fail
  refine hq.mono ?_
  rintro x w1 ⟨rfl, h1⟩
  go_wp2_with fail
  go_end0
  exact ⟨rfl, h1⟩
set_option maxHeartbeats 2000000 in
set_option maxRecDepth 100000 in
theorem mend_down1 (w : World) (p kg kd mp : Nat) (j : Nat) (q : Nat) (qo : Option Addr) (nq qc : Nat) (ql : Nat) (lo : Option Addr) (nl lc : Nat) (qr : Nat) (ro : Option Addr) (nr rc : Nat) (po : Option Addr) (np pc : Nat)
    (hmp : mp < 100) (d1 : w.cell? ⟨p, 1, none⟩ = some (.slice (some ⟨kg, 0, none⟩) mp kd)) (_hpl : (j + 1) < mp) (k0 : w.cell? ⟨kg, (j + 1), none⟩ = some (pv q)) (e0 : w.cell? ⟨q, 0, none⟩ = some (.slice qo nq qc)) (d0 : w.cell? ⟨p, 0, none⟩ = some (.slice po np pc)) (kl : w.cell? ⟨kg, j, none⟩ = some (pv ql)) (el : w.cell? ⟨ql, 0, none⟩ = some (.slice lo nl lc)) (kr : w.cell? ⟨kg, j + 1 + 1, none⟩ = some (pv qr)) (er : w.cell? ⟨qr, 0, none⟩ = some (.slice ro nr rc)) (h7 : nq < 7) (hl : nl ≤ 7) (hnp : j + 1 < np) (hnm : np + 1 = mp) (hr : 7 < nr)
    (R : World → Prop) (hq : Calls Try.prog 84 #[pv p, .int .i64 (j + 1)] w fun x w' => x = .returned (.tuple #[]) ∧ R w') :
    Calls Try.prog 56 #[pv p, .int .i64 (j + 1)] w fun x w' => x = .returned (.tuple #[]) ∧ R w' := by
  have h7 : ¬ (7 : Int) ≤ nq := by omega
  have hj1 : (j : Int) + 1 < mp := by omega
  have hj2 : (j : Int) < mp := by omega
  have hj3 : (0 : Int) < (j : Int) + 1 := by omega
  have hjt : ((j : Int) + 1).toNat = j + 1 := by omega
  have hl' : ¬ (7 : Int) < nl := by omega
  have hr' : (7 : Int) < nr := by omega
  have hn1 : (j : Int) + 1 < np := by omega
  have hm1 : (j : Int) + 1 + 1 < mp := by omega
  have hm2 : (0 : Int) ≤ (j : Int) + 1 + 1 := by omega
  have hm3 : ((j : Int) + 1 + 1).toNat = j + 1 + 1 := by omega
  clear hnm
  go_enter Try.func56, Try.ntmps56
  go_wp2_with fail
  refine hq.mono ?_
  rintro x w1 ⟨rfl, h1⟩
  go_wp2_with fail
  go_end0
  exact ⟨rfl, h1⟩
set_option maxHeartbeats 2000000 in
set_option maxRecDepth 100000 in
theorem mend_join1 (w : World) (p kg kd mp : Nat) (j : Nat) (q : Nat) (qo : Option Addr) (nq qc : Nat) (ql : Nat) (lo : Option Addr) (nl lc : Nat) (qr : Nat) (ro : Option Addr) (nr rc : Nat) (po : Option Addr) (np pc : Nat)
    (hmp : mp < 100) (d1 : w.cell? ⟨p, 1, none⟩ = some (.slice (some ⟨kg, 0, none⟩) mp kd)) (_hpl : (j + 1) < mp) (k0 : w.cell? ⟨kg, (j + 1), none⟩ = some (pv q)) (e0 : w.cell? ⟨q, 0, none⟩ = some (.slice qo nq qc)) (d0 : w.cell? ⟨p, 0, none⟩ = some (.slice po np pc)) (kl : w.cell? ⟨kg, j, none⟩ = some (pv ql)) (el : w.cell? ⟨ql, 0, none⟩ = some (.slice lo nl lc)) (kr : w.cell? ⟨kg, j + 1 + 1, none⟩ = some (pv qr)) (er : w.cell? ⟨qr, 0, none⟩ = some (.slice ro nr rc)) (h7 : nq < 7) (hl : nl ≤ 7) (hnp : j + 1 < np) (hnm : np + 1 = mp) (hr : nr ≤ 7)
    (R : World → Prop) (hq : Calls Try.prog 85 #[pv p, .int .i64 j] w fun x w' => x = .returned (.tuple #[]) ∧ R w') :
    Calls Try.prog 56 #[pv p, .int .i64 (j + 1)] w fun x w' => x = .returned (.tuple #[]) ∧ R w' := by
  have h7 : ¬ (7 : Int) ≤ nq := by omega
  have hj1 : (j : Int) + 1 < mp := by omega
  have hj2 : (j : Int) < mp := by omega
  have hj3 : (0 : Int) < (j : Int) + 1 := by omega
  have hjt : ((j : Int) + 1).toNat = j + 1 := by omega
  have hl' : ¬ (7 : Int) < nl := by omega
  have hr' : ¬ (7 : Int) < nr := by omega
  have hn1 : (j : Int) + 1 < np := by omega
  have hm1 : (j : Int) + 1 + 1 < mp := by omega
  have hm2 : (0 : Int) ≤ (j : Int) + 1 + 1 := by omega
  have hm3 : ((j : Int) + 1 + 1).toNat = j + 1 + 1 := by omega
  clear hnm
  go_enter Try.func56, Try.ntmps56
  go_wp2_with fail
  refine hq.mono ?_
  rintro x w1 ⟨rfl, h1⟩
  go_wp2_with fail
  go_end0
  exact ⟨rfl, h1⟩
set_option maxHeartbeats 2000000 in
set_option maxRecDepth 100000 in
theorem mend_join2 (w : World) (p kg kd mp : Nat) (j : Nat) (q : Nat) (qo : Option Addr) (nq qc : Nat) (ql : Nat) (lo : Option Addr) (nl lc : Nat) (po : Option Addr) (np pc : Nat)
    (hmp : mp < 100) (d1 : w.cell? ⟨p, 1, none⟩ = some (.slice (some ⟨kg, 0, none⟩) mp kd)) (hpl : (j + 1) < mp) (k0 : w.cell? ⟨kg, (j + 1), none⟩ = some (pv q)) (e0 : w.cell? ⟨q, 0, none⟩ = some (.slice qo nq qc)) (d0 : w.cell? ⟨p, 0, none⟩ = some (.slice po np pc)) (kl : w.cell? ⟨kg, j, none⟩ = some (pv ql)) (el : w.cell? ⟨ql, 0, none⟩ = some (.slice lo nl lc)) (h7 : nq < 7) (hl : nl ≤ 7) (hnp : np = j + 1)
    (R : World → Prop) (hq : Calls Try.prog 85 #[pv p, .int .i64 j] w fun x w' => x = .returned (.tuple #[]) ∧ R w') :
    Calls Try.prog 56 #[pv p, .int .i64 (j + 1)] w fun x w' => x = .returned (.tuple #[]) ∧ R w' := by
  subst hnp
  have h7 : ¬ (7 : Int) ≤ nq := by omega
  have hj1 : (j : Int) + 1 < mp := by omega
  have hj2 : (j : Int) < mp := by omega
  have hj3 : (0 : Int) < (j : Int) + 1 := by omega
  have hjt : ((j : Int) + 1).toNat = j + 1 := by omega
  have hl' : ¬ (7 : Int) < nl := by omega
  go_enter Try.func56, Try.ntmps56
  go_wp2_with fail
  refine hq.mono ?_
  rintro x w1 ⟨rfl, h1⟩
  go_wp2_with fail
  go_end0
  exact ⟨rfl, h1⟩
set_option maxHeartbeats 2000000 in
set_option maxRecDepth 100000 in
theorem mend_join0 (w : World) (p kg kd mp : Nat) (q : Nat) (qo : Option Addr) (nq qc : Nat) (qr : Nat) (ro : Option Addr) (nr rc : Nat) (po : Option Addr) (np pc : Nat)
    (hmp : mp < 100) (d1 : w.cell? ⟨p, 1, none⟩ = some (.slice (some ⟨kg, 0, none⟩) mp kd)) (hpl : 0 < mp) (k0 : w.cell? ⟨kg, 0, none⟩ = some (pv q)) (e0 : w.cell? ⟨q, 0, none⟩ = some (.slice qo nq qc)) (d0 : w.cell? ⟨p, 0, none⟩ = some (.slice po np pc)) (kr : w.cell? ⟨kg, 1, none⟩ = some (pv qr)) (er : w.cell? ⟨qr, 0, none⟩ = some (.slice ro nr rc)) (h7 : nq < 7) (hnp : 0 < np) (hnm : np + 1 = mp) (hr : nr ≤ 7)
    (R : World → Prop) (hq : Calls Try.prog 85 #[pv p, .int .i64 0] w fun x w' => x = .returned (.tuple #[]) ∧ R w') :
    Calls Try.prog 56 #[pv p, .int .i64 0] w fun x w' => x = .returned (.tuple #[]) ∧ R w' := by
  have h7 : ¬ (7 : Int) ≤ nq := by omega
  have hr' : ¬ (7 : Int) < nr := by omega
  have hn1 : (0 : Int) < np := by omega
  have hm0 : (0 : Int) < mp := by omega
  have hm1 : (1 : Int) < mp := by omega
  clear hnm
  go_enter Try.func56, Try.ntmps56
  go_wp2_with fail
  refine hq.mono ?_
  rintro x w1 ⟨rfl, h1⟩
  go_wp2_with fail
  go_end0
  exact ⟨rfl, h1⟩
end Go.Proofs.Ytnjiiebjdpipjaa
/- mend, at trees. -/
namespace Go.Proofs.Ytnjiiebjdpipjaa
open Go.RowKit Go

theorem NWX.look {h : Nat} {w : World} {p : Nat} {L : List It} {ts : List (Nd It h)} {F : List Nat} {s : Int} (hN : NWX h w p L ts F s) (ht : 0 < ts.length) : ∃ kg kd po pc, w.cell? ⟨p, 1, none⟩ = some (.slice (some ⟨kg, 0, none⟩) ts.length kd) ∧ w.cell? ⟨p, 0, none⟩ = some (.slice po L.length pc) ∧ ∀ (i : Nat) (t : Nd It h), ts[i]? = some t → ∃ q qo qc, w.cell? ⟨kg, i, none⟩ = some (pv q) ∧ w.cell? ⟨q, 0, none⟩ = some (.slice qo t.its.length qc) := by
  obtain ⟨iv, kv, qs, FF, hP, ⟨ks, rfl, rfl, rfl, h3⟩, rfl⟩ := hN
  rw [List.length_map] at ht
  obtain ⟨po, pc, rfl⟩ := row_slice hP.its
  obtain ⟨kg, kd, ek, -, -, -, -, -⟩ := kid_at hP.kids (k := 0) (by rw [List.length_map]; exact ht)
  subst ek
  obtain ⟨c0, c1, -, -⟩ := hP.nd.cells
  rw [List.length_map] at c1
  refine ⟨kg, kd, po, pc, by rw [List.length_map]; exact c1, c0, fun i t hi => ?_⟩
  rw [List.getElem?_map] at hi
  obtain ⟨x, hx, rfl⟩ := Option.map_eq_some_iff.1 hi
  obtain ⟨hlt, hx2⟩ := List.getElem?_eq_some_iff.1 hx
  have hx3 : x ∈ ks := hx2 ▸ List.getElem_mem hlt
  obtain ⟨g, c, ek, -, -, -, k0, -⟩ := kid_at hP.kids (k := i) (by rw [List.length_map]; exact hlt)
  injection ek with e1
  injection e1 with e1
  injection e1 with e1
  subst e1
  rw [List.getElem_map, hx2] at k0
  obtain ⟨ia, kav, ql, G, hA, _, _⟩ := NW_iff.1 (h3 x hx3)
  obtain ⟨qo, qc, rfl⟩ := row_slice hA.its
  exact ⟨x.1, qo, qc, k0, hA.nd.cells.1⟩
theorem pair_le {h : Nat} (A B : List It) (ka kb : List (Nd It h)) (l : Nd It h) (m : It) (r : Nd It h) (hk : ka.length = A.length) (he : l.even) : (Nd.flat h l).length + (Nd.flat h r).length ≤ (Nd.flat (h + 1) ((A ++ m :: B, ka ++ l :: r :: kb) : Nd It (h + 1))).length := by
  rw [glue_in h A B ka kb l m r hk he, kid_mid h A B ka kb _ hk, glue_flat h l m r he]
  simp only [List.length_append, List.length_cons]
  omega
/-- What mend leaves. -/
def MendOut (h : Nat) (w w' : World) (p : Nat) (s : Int) (F : List Nat) (L : List It) (fl : List It) : Prop := ∃ (L' : List It) (ts' : List (Nd It h)) (F' : List Nat), NWX h w' p L' ts' F' s ∧ Fits w.heap.size F F' ∧ Tch (fun i => i ∈ F) w w' ∧ Nd.sub (h + 1) ((L', ts') : Nd It (h + 1)) ∧ Nd.flat (h + 1) ((L', ts') : Nd It (h + 1)) = fl ∧ L'.length ≤ L.length ∧ L.length ≤ L'.length + 1
theorem cut1 {h : Nat} {A B : List It} {ka kb : List (Nd It h)} {t1 t2 : Nd It h} {m : It} (hka : ka.length = A.length) (hkb : kb.length = B.length) (h1 : ∀ x ∈ ka, x.ok ∧ 7 ≤ x.its.length) (h2 : ∀ x ∈ kb, x.ok ∧ 7 ≤ x.its.length) (h3 : t1.ok ∧ 7 ≤ t1.its.length) (h4 : t2.ok ∧ 7 ≤ t2.its.length) : Nd.sub (h + 1) ((A ++ m :: B, ka ++ t1 :: t2 :: kb) : Nd It (h + 1)) := by
  refine ⟨by simp only [List.length_append, List.length_cons]; omega, fun x hx => ?_⟩
  simp only [List.mem_append, List.mem_cons] at hx
  rcases hx with hx | rfl | rfl | hx
  · exact h1 x hx
  · exact h3
  · exact h4
  · exact h2 x hx
theorem cut0 {h : Nat} {A B : List It} {ka kb : List (Nd It h)} {t1 : Nd It h} (hka : ka.length = A.length) (hkb : kb.length = B.length) (h1 : ∀ x ∈ ka, x.ok ∧ 7 ≤ x.its.length) (h2 : ∀ x ∈ kb, x.ok ∧ 7 ≤ x.its.length) (h3 : t1.ok ∧ 7 ≤ t1.its.length) : Nd.sub (h + 1) ((A ++ B, ka ++ t1 :: kb) : Nd It (h + 1)) := by
  refine ⟨by simp only [List.length_append, List.length_cons]; omega, fun x hx => ?_⟩
  simp only [List.mem_append, List.mem_cons] at hx
  rcases hx with hx | rfl | hx
  · exact h1 x hx
  · exact h3
  · exact h2 x hx
section
variable (h : Nat) (w : World) (p : Nat) (s : Int) (A B : List It) (ka kb : List (Nd It h)) (l r : Nd It h) (m : It) (F : List Nat)
/-- The three ways to mend two kids beside each other. -/
theorem up_m (hN : NWX h w p (A ++ m :: B) (ka ++ l :: r :: kb) F s) (hn : Nod F) (hka : ka.length = A.length) (hkb : kb.length = B.length) (hAB : A.length + B.length < 90) (h1 : ∀ x ∈ ka, x.ok ∧ 7 ≤ x.its.length) (h2 : ∀ x ∈ kb, x.ok ∧ 7 ≤ x.its.length) (hl : 7 < l.its.length) (hl2 : l.its.length ≤ 15) (hr : r.its.length = 6) (hsl : l.sub) (hsr : r.sub) (hb : (Nd.flat (h + 1) ((A ++ m :: B, ka ++ l :: r :: kb) : Nd It (h + 1))).length ≤ 1000000000000000000) :
    Calls Try.prog 83 #[pv p, .int .i64 A.length] w fun x w' => x = .returned (.tuple #[]) ∧ MendOut h w w' p s F (A ++ m :: B) (Nd.flat (h + 1) ((A ++ m :: B, ka ++ l :: r :: kb) : Nd It (h + 1))) := by
  obtain ⟨n1, hn1⟩ : ∃ n1, l.its.length = n1 + 1 := ⟨l.its.length - 1, by omega⟩
  obtain ⟨mx, hmx⟩ : ∃ mx, l.its[n1]? = some mx := ⟨l.its[n1]'(by omega), List.getElem?_eq_getElem (by omega)⟩
  have he := sub_even h l hsl
  have he' := sub_even h r hsr
  refine (up_x h w p s A B ka kb l r m F n1 mx hN hn hka hkb hAB hn1 (by omega) (by omega) he he' hmx (Nat.le_trans (pair_le A B ka kb l m r hka he) hb)).mono ?_
  rintro x w' ⟨hx, F', hN', hf, ht⟩
  have hgl : (Nd.glue h l m r).its.length = n1 + 8 := by rw [glue_its, List.length_append, List.length_cons]; omega
  have hc := cut_at h n1 (Nd.glue h l m r) (glue_sub h l m r hsl hsr) (by omega) (by omega) (by omega) (by omega)
  have hgm : (Nd.glue h l m r).its[n1]? = some mx := by rw [glue_its, List.getElem?_append_left (by omega)]; exact hmx
  exact ⟨hx, _, _, F', hN', hf, ht, cut1 hka hkb h1 h2 hc.1 hc.2, shift_in h n1 A B ka kb l m r mx hka he he' hgm, by simp, by simp⟩
theorem down_m (hN : NWX h w p (A ++ m :: B) (ka ++ l :: r :: kb) F s) (hn : Nod F) (hka : ka.length = A.length) (hkb : kb.length = B.length) (hAB : A.length + B.length < 90) (h1 : ∀ x ∈ ka, x.ok ∧ 7 ≤ x.its.length) (h2 : ∀ x ∈ kb, x.ok ∧ 7 ≤ x.its.length) (hl : l.its.length = 6) (hr : 7 < r.its.length) (hr2 : r.its.length ≤ 15) (hsl : l.sub) (hsr : r.sub) (hb : (Nd.flat (h + 1) ((A ++ m :: B, ka ++ l :: r :: kb) : Nd It (h + 1))).length ≤ 1000000000000000000) :
    Calls Try.prog 84 #[pv p, .int .i64 A.length] w fun x w' => x = .returned (.tuple #[]) ∧ MendOut h w w' p s F (A ++ m :: B) (Nd.flat (h + 1) ((A ++ m :: B, ka ++ l :: r :: kb) : Nd It (h + 1))) := by
  obtain ⟨mx, hmx⟩ : ∃ mx, r.its[0]? = some mx := ⟨r.its[0]'(by omega), List.getElem?_eq_getElem (by omega)⟩
  have he := sub_even h l hsl
  have he' := sub_even h r hsr
  refine (down_x h w p s A B ka kb l r m F mx hN hn hka hkb hAB (by omega) (by omega) (by omega) he he' hmx (Nat.le_trans (pair_le A B ka kb l m r hka he) hb)).mono ?_
  rintro x w' ⟨hx, F', hN', hf, ht⟩
  have hgl : (Nd.glue h l m r).its.length = 7 + r.its.length := by rw [glue_its, List.length_append, List.length_cons]; omega
  rw [hl] at hN'
  have hc := cut_at h 7 (Nd.glue h l m r) (glue_sub h l m r hsl hsr) (by omega) (by omega) (by omega) (by omega)
  have hgm : (Nd.glue h l m r).its[7]? = some mx := by rw [glue_its, List.getElem?_append_right (by omega), hl]; exact hmx
  exact ⟨hx, _, _, F', hN', hf, ht, cut1 hka hkb h1 h2 hc.1 hc.2, shift_in h 7 A B ka kb l m r mx hka he he' hgm, by simp, by simp⟩
theorem join_m (hN : NWX h w p (A ++ m :: B) (ka ++ l :: r :: kb) F s) (hn : Nod F) (hka : ka.length = A.length) (hkb : kb.length = B.length) (hAB : A.length + B.length < 90) (h1 : ∀ x ∈ ka, x.ok ∧ 7 ≤ x.its.length) (h2 : ∀ x ∈ kb, x.ok ∧ 7 ≤ x.its.length) (hlr : l.its.length + r.its.length ≤ 14) (hlr2 : 6 ≤ l.its.length + r.its.length) (hsl : l.sub) (hsr : r.sub) (hb : (Nd.flat (h + 1) ((A ++ m :: B, ka ++ l :: r :: kb) : Nd It (h + 1))).length ≤ 1000000000000000000) :
    Calls Try.prog 85 #[pv p, .int .i64 A.length] w fun x w' => x = .returned (.tuple #[]) ∧ MendOut h w w' p s F (A ++ m :: B) (Nd.flat (h + 1) ((A ++ m :: B, ka ++ l :: r :: kb) : Nd It (h + 1))) := by
  have he := sub_even h l hsl
  have he' := sub_even h r hsr
  refine (join_x h w p s A B ka kb l r m F hN hn hka hkb hAB (by omega) (by omega) he he' (Nat.le_trans (pair_le A B ka kb l m r hka he) hb)).mono ?_
  rintro x w' ⟨hx, F', hN', hf, ht⟩
  exact ⟨hx, _, _, F', hN', hf, ht, cut0 hka hkb h1 h2 (join_ok h l m r hsl hsr hlr hlr2), (glue_in h A B ka kb l m r hka he).symm, by simp, by simp; omega⟩
end
theorem list_at (L : List It) (i : Nat) (hi : i < L.length) : ∃ A m B, L = A ++ m :: B ∧ A.length = i :=
  ⟨L.take i, L[i], L.drop (i + 1), by rw [← List.drop_eq_getElem_cons hi, List.take_append_drop], by rw [List.length_take]; omega⟩
theorem mend_x (h : Nat) (w : World) (p : Nat) (s : Int) (L : List It) (ka kb : List (Nd It h)) (k : Nd It h) (F : List Nat) (hN : NWX h w p L (ka ++ k :: kb) F s) (hn : Nod F) (hlen : ka.length + kb.length = L.length) (hL1 : 1 ≤ L.length) (hL : L.length ≤ 15) (hk6 : 6 ≤ k.its.length) (hk15 : k.its.length ≤ 15) (hks : k.sub)
    (h1 : ∀ x ∈ ka, x.ok ∧ 7 ≤ x.its.length) (h2 : ∀ x ∈ kb, x.ok ∧ 7 ≤ x.its.length) (hb : (Nd.flat (h + 1) ((L, ka ++ k :: kb) : Nd It (h + 1))).length ≤ 1000000000000000000) :
    Calls Try.prog 56 #[pv p, .int .i64 ka.length] w fun x w' => x = .returned (.tuple #[]) ∧ MendOut h w w' p s F L (Nd.flat (h + 1) ((L, ka ++ k :: kb) : Nd It (h + 1))) := by
  obtain ⟨kg, kd, po, pc, d1, d0, hlook⟩ := hN.look (by simp only [List.length_append, List.length_cons]; omega)
  have hml : (ka ++ k :: kb).length = L.length + 1 := by simp only [List.length_append, List.length_cons]; omega
  rw [hml] at d1
  obtain ⟨q, qo, qc, k0, e0⟩ := hlook ka.length k (by rw [List.getElem?_append_right (Nat.le_refl _)]; simp)
  rcases Nat.lt_or_ge k.its.length 7 with hk7 | hk7
  · have hk : k.its.length = 6 := by omega
    rcases List.eq_nil_or_concat ka with rfl | ⟨ka', l, rfl⟩
    · cases kb with
      | nil => simp at hlen; omega
      | cons r kb =>
        obtain ⟨qr, ro, rc, kr, er⟩ := hlook 1 r (by simp)
        obtain ⟨A, m, B, rfl, hA⟩ := list_at L 0 (by omega)
        obtain rfl := List.eq_nil_of_length_eq_zero hA
        simp only [List.nil_append, List.length_cons, List.length_nil] at *
        have hr := h2 r (by simp)
        have hrs := ((ok_iff h r).1 hr.1)
        rcases Nat.lt_or_ge 7 r.its.length with h7 | h7
        · exact mend_down0 w p kg kd _ q qo _ qc qr ro _ rc po _ pc (by omega) d1 (by omega) k0 e0 d0 kr er hk7 (by omega) rfl h7 _ (down_m h w p s [] B [] kb k r m F hN hn rfl (by omega) (by simp; omega) (by simp) (fun x hx => h2 x (by simp [hx])) hk h7 hrs.1 hks hrs.2 hb)
        · exact mend_join0 w p kg kd _ q qo _ qc qr ro _ rc po _ pc (by omega) d1 (by omega) k0 e0 d0 kr er hk7 (by omega) rfl h7 _ (join_m h w p s [] B [] kb k r m F hN hn rfl (by omega) (by simp; omega) (by simp) (fun x hx => h2 x (by simp [hx])) (by omega) (by omega) hks hrs.2 hb)
    · have hl := h1 l (by simp)
      have hls := ((ok_iff h l).1 hl.1)
      obtain ⟨A, m, B, rfl, hA⟩ := list_at L ka'.length (by simp only [List.concat_eq_append, List.length_append, List.length_cons, List.length_nil] at hlen; omega)
      simp only [List.concat_eq_append] at *
      rw [List.append_assoc] at hN hb hlook ⊢
      simp only [List.cons_append, List.nil_append] at hN hb hlook ⊢
      obtain ⟨ql, lo, lc, kl, el⟩ := hlook ka'.length l (by rw [List.getElem?_append_right (Nat.le_refl _)]; simp)
      have hlen2 : ka'.length + 1 + kb.length = A.length + (B.length + 1) := by simp only [List.length_append, List.length_cons, List.length_nil] at hlen; omega
      have hNL : (A ++ m :: B).length = A.length + (B.length + 1) := by simp
      rw [hNL] at hL hL1 d1 d0
      rw [show (ka' ++ [l]).length = ka'.length + 1 by simp] at k0 ⊢
      have h1' : ∀ x ∈ ka', x.ok ∧ 7 ≤ x.its.length := fun x hx => h1 x (by simp [hx])
      rw [show (((ka'.length + 1 : Nat)) : Int) = (ka'.length : Int) + 1 by omega]
      rcases Nat.lt_or_ge 7 l.its.length with h7 | h7
      · exact mend_up w p kg kd _ ka'.length q qo _ qc ql lo _ lc (by omega) d1 (by omega) k0 e0 kl el hk7 h7 _ (by rw [← hA]; exact up_m h w p s A B ka' kb l k m F hN hn hA.symm (by omega) (by omega) h1' h2 h7 hls.1 hk hls.2 hks hb)
      · have hjoin := join_m h w p s A B ka' kb l k m F hN hn hA.symm (by omega) (by omega) h1' h2 (by omega) (by omega) hls.2 hks hb
        rw [hA] at hjoin
        cases kb with
        | nil =>
          simp only [List.length_nil] at hlen2
          exact mend_join2 w p kg kd _ ka'.length q qo _ qc ql lo _ lc po _ pc (by omega) d1 (by omega) k0 e0 d0 kl el hk7 h7 (by omega) _ hjoin
        | cons r kb =>
          obtain ⟨qr, ro, rc, kr, er⟩ := hlook (ka'.length + 1 + 1) r (by rw [List.getElem?_append_right (by omega), show ka'.length + 1 + 1 - ka'.length = 2 by omega]; rfl)
          have hr := h2 r (by simp)
          have hrs := ((ok_iff h r).1 hr.1)
          simp only [List.length_cons] at hlen2
          rcases Nat.lt_or_ge 7 r.its.length with h8 | h8
          · obtain ⟨B0, m2, B2, rfl, hB0⟩ := list_at B 0 (by omega)
            obtain rfl := List.eq_nil_of_length_eq_zero hB0
            simp only [List.nil_append, List.length_cons] at *
            have hN2 : NWX h w p ((A ++ [m]) ++ m2 :: B2) ((ka' ++ [l]) ++ k :: r :: kb) F s := by simpa using hN
            have hd := down_m h w p s (A ++ [m]) B2 (ka' ++ [l]) kb k r m2 F hN2 hn (by simp [hA]) (by omega) (by simp; omega) (fun x hx => by
              rcases List.mem_append.1 hx with hx | hx
              · exact h1' x hx
              · rw [List.mem_singleton.1 hx]; exact hl) (fun x hx => h2 x (by simp [hx])) hk h8 hrs.1 hks hrs.2 (by simpa using hb)
            rw [show (A ++ [m]).length = ka'.length + 1 by simp [hA], show (((ka'.length + 1 : Nat)) : Int) = (ka'.length : Int) + 1 by omega] at hd
            simp only [List.append_assoc, List.cons_append, List.nil_append] at hd
            exact mend_down1 w p kg kd _ ka'.length q qo _ qc ql lo _ lc qr ro _ rc po _ pc (by omega) d1 (by omega) k0 e0 d0 kl el kr er hk7 h7 (by omega) rfl h8 _ hd
          · exact mend_join1 w p kg kd _ ka'.length q qo _ qc ql lo _ lc qr ro _ rc po _ pc (by omega) d1 (by omega) k0 e0 d0 kl el kr er hk7 h7 (by omega) rfl h8 _ hjoin
  · refine (mend_ok w p kg kd _ ka.length q qo _ qc (by omega) d1 (by omega) k0 e0 hk7).mono ?_
    rintro x w' ⟨hx, rfl⟩
    refine ⟨hx, L, ka ++ k :: kb, F, hN, Fits.refl hn, Tch.refl _ _, ⟨hml, fun x hx => ?_⟩, rfl, Nat.le_refl _, by omega⟩
    simp only [List.mem_append, List.mem_cons] at hx
    rcases hx with hx | rfl | hx
    · exact h1 x hx
    · exact ⟨(ok_iff h _).2 ⟨hk15, hks⟩, hk7⟩
    · exact h2 x hx
end Go.Proofs.Ytnjiiebjdpipjaa
