import Derived.Test.YtdbaafigmfclcaaTLift
/- shiftUp, shiftDown, join: at trees. -/
namespace Go.Proofs.Ytdbaafigmfclcaa
open Go.RowKit Go

theorem set_mid (A B : List It) (m x : It) : (A ++ m :: B).set A.length x = A ++ x :: B := by
  rw [List.set_append_right _ _ (Nat.le_refl _), Nat.sub_self]; rfl
theorem kids_at2 {h : Nat} {w : World} {ka kb : List (Nd It h)} {l r : Nd It h} {qs FF : List Nat} (hk : KidsOf (NW h w) (ka ++ l :: r :: kb) qs FF) : ∃ (k1 k2 : List (Kd h)) (q c : Nat) (Fl Fr : List Nat), qs = kP k1 ++ q :: c :: kP k2 ∧ FF = kF k1 ++ (Fl ++ (Fr ++ kF k2)) ∧ ka = kT k1 ∧ kb = kT k2 ∧ NW h w q l Fl ∧ NW h w c r Fr ∧ (∀ x ∈ k1, NW h w x.1 x.2.1 x.2.2) ∧ (∀ x ∈ k2, NW h w x.1 x.2.1 x.2.2) := by
  obtain ⟨k1, k2, q, Fk, rfl, rfl, rfl, e, hq, h1, h2⟩ := kids_at hk
  obtain ⟨x, k3, rfl, h6, h7⟩ := List.map_eq_cons_iff.1 e.symm
  obtain ⟨c, r', Fr⟩ := x
  simp only at h6
  subst h6
  exact ⟨k1, k3, q, c, Fk, Fr, by simp [kP], by simp [kF], rfl, h7.symm, hq, h2 (c, r', Fr) (by simp), h1, fun x hx => h2 x (by simp [hx])⟩
section
variable (h : Nat) (w : World) (p : Nat) (s : Int) (A B : List It) (ka kb : List (Nd It h)) (l r : Nd It h) (m : It) (F : List Nat)
theorem up_x (n1 : Nat) (mx : It) (hN : NWX h w p (A ++ m :: B) (ka ++ l :: r :: kb) F s) (hn : Nod F) (hka : ka.length = A.length) (hkb : kb.length = B.length) (hAB : A.length + B.length < 90) (hll : l.its.length = n1 + 1) (hl1 : n1 < 90) (hr1 : r.its.length < 90) (he : l.even) (he' : r.even) (hm : l.its[n1]? = some mx) (hb : (Nd.flat h l).length + (Nd.flat h r).length ≤ 1000000000000000000) :
    Calls Try.prog 83 #[pv p, .int .i64 A.length] w fun x w' => x = .returned (.tuple #[]) ∧ ∃ F', NWX h w' p (A ++ mx :: B) (ka ++ Nd.lo h n1 (Nd.glue h l m r) :: Nd.hi h n1 (Nd.glue h l m r) :: kb) F' s ∧ Fits w.heap.size F F' ∧ Tch (fun i => i ∈ F) w w' := by
  obtain ⟨iv, kv, qs, FF, hP, hK, rfl⟩ := hN
  obtain ⟨k1, k2, q, c, Fl, Fr, rfl, rfl, rfl, rfl, hq, hc, h1, h2⟩ := kids_at2 hK
  obtain ⟨ia, kav, ql, G, hA, KK, rfl⟩ := NW_iff.1 hq
  obtain ⟨ic, kcv, qr, G', hB, KK', rfl⟩ := NW_iff.1 hc
  have hF0 : ∀ b, (fb p iv kv ++ (kF k1 ++ ((fb q ia kav ++ G) ++ ((fb c ic kcv ++ G') ++ kF k2)))).count b = (fb p iv kv ++ (fb q ia kav ++ fb c ic kcv)).count b + (kF k1 ++ (G ++ (G' ++ kF k2))).count b := fun b => by simp only [List.count_append]; omega
  obtain ⟨hnod, hap⟩ := nodR hn hF0
  have hl1' : (kP k1).length = A.length := by rw [kP_len, hka]
  have hl2' : (kP k2).length = B.length := by rw [kP_len, hkb]
  have hz : ∀ x ∈ ql ++ qr, w.cell? ⟨x, 2, none⟩ = some (.int .i64 (zsz w x)) ∧ 0 ≤ zsz w x ∧ x ∉ fb p iv kv ++ (fb q ia kav ++ fb c ic kcv) := fun x hx => by
    rcases List.mem_append.1 hx with hx | hx
    · exact ⟨(KK.cell x hx).1, (KK.cell x hx).2, hap x (by simp [KK.mem x hx])⟩
    · exact ⟨(KK'.cell x hx).1, (KK'.cell x hx).2, hap x (by simp [KK'.mem x hx])⟩
  have hzb : zsum w (ql ++ qr) ≤ 1000000000000000000 := by rw [zsum_app]; have := KK.size he; have := KK'.size he'; omega
  have hpl : (kP k1 ++ q :: c :: kP k2)[A.length]? = some q := by rw [List.getElem?_append_right (by omega), hl1']; simp
  have hpc : (kP k1 ++ q :: c :: kP k2)[A.length + 1]? = some c := by rw [List.getElem?_append_right (by omega), hl1']; simp
  have hmm : (A ++ m :: B)[A.length]? = some m := by rw [List.getElem?_append_right (Nat.le_refl _)]; simp
  obtain ⟨G1, G2, eG, K1, K2⟩ := (KK.glue KK' m).cut n1
  have hge := glue_even h l m r he he'
  have hgl : n1 < (Nd.glue h l m r).its.length := by rw [glue_its, List.length_append]; omega
  have i1 : (Nd.lo h n1 (Nd.glue h l m r)).its = l.its.take n1 := by rw [lo_its, glue_its, List.take_append_of_le_length (by omega)]
  have i2 : (Nd.hi h n1 (Nd.glue h l m r)).its = m :: r.its := by rw [hi_its, glue_its]; exact List.drop_left' hll
  have hfin : (ql = [] ∧ qr = []) ∨ ql.length = n1 + 2 → ∀ (w' : World) (x : Ending), x = .returned (.tuple #[]) ∧ ShiftOut w w' (fb p iv kv ++ (fb q ia kav ++ fb c ic kcv)) p ((A ++ m :: B).set A.length mx) (kP k1 ++ q :: c :: kP k2) s q c (l.its.take n1) (m :: r.its) (ql.take (n1 + 1)) (ql.drop (n1 + 1) ++ qr) → x = .returned (.tuple #[]) ∧ ∃ F', NWX h w' p (A ++ mx :: B) (kT k1 ++ Nd.lo h n1 (Nd.glue h l m r) :: Nd.hi h n1 (Nd.glue h l m r) :: kT k2) F' s ∧ Fits w.heap.size (fb p iv kv ++ (kF k1 ++ ((fb q ia kav ++ G) ++ ((fb c ic kcv ++ G') ++ kF k2)))) F' ∧ Tch (fun i => i ∈ fb p iv kv ++ (kF k1 ++ ((fb q ia kav ++ G) ++ ((fb c ic kcv ++ G') ++ kF k2)))) w w' := by
    rintro hq w' x ⟨hx, iv', kv', ia', ka', ic', kc', H⟩
    have t1 : (ql ++ qr).take (n1 + 1) = ql.take (n1 + 1) := by
      rcases hq with ⟨rfl, rfl⟩ | hq
      · rfl
      · exact List.take_append_of_le_length (by omega)
    have t2 : (ql ++ qr).drop (n1 + 1) = ql.drop (n1 + 1) ++ qr := by
      rcases hq with ⟨rfl, rfl⟩ | hq
      · simp
      · exact List.drop_append_of_le_length (by omega)
    rw [t1] at K1
    rw [t2] at K2
    refine ⟨hx, ?_⟩
    rw [set_mid] at H
    exact lift2 H k1 k2 h1 h2 _ _ G1 G2 _ K1 K2 (lo_even h n1 _ hge hgl) (hi_even h n1 _ hge hgl) i1 i2 rfl rfl rfl hn (fun b => by
      rw [hF0 b]
      have : (G ++ G').count b = (G1 ++ G2).count b := by rw [eG]
      simp only [List.count_append] at this ⊢; omega)
  rcases KK.len he with e | e
  · have e' : qr = [] := by
      cases h with
      | zero => exact KK'.1
      | succ h => have := he; have := KK; obtain ⟨ks, e1, e2, _, _⟩ := KK; exfalso; have h9 : l.2.length = l.1.length + 1 := he; rw [e2, List.length_map] at h9; rw [e] at e1; have h8 := congrArg List.length e1; rw [List.length_map] at h8; simp at h8; omega
    exact (shiftUp_leaf w p iv kv _ _ s q ia kav l.its ql _ c ic kcv r.its qr _ A.length m mx n1 hP hA hB hnod hpl hpc hmm (by simp only [List.length_append, List.length_cons]; omega) (by simp only [List.length_append, List.length_cons]; omega) (by omega) (by omega) e e' hll hm hz hzb).mono (fun x w' h => hfin (Or.inl ⟨e, e'⟩) w' x h)
  · have e' : qr.length = r.its.length + 1 := by
      rcases KK'.len he' with e' | e'
      · cases h with
        | zero => have := KK.1; rw [this] at e; simp at e
        | succ h => obtain ⟨ks, e1, e2, _, _⟩ := KK'; exfalso; have h9 : r.2.length = r.1.length + 1 := he'; rw [e2, List.length_map] at h9; rw [e'] at e1; have h8 := congrArg List.length e1; rw [List.length_map] at h8; simp at h8; omega
      · exact e'
    exact (shiftUp_inner w p iv kv _ _ s q ia kav l.its ql _ c ic kcv r.its qr _ A.length m mx n1 hP hA hB hnod hpl hpc hmm (by simp only [List.length_append, List.length_cons]; omega) (by simp only [List.length_append, List.length_cons]; omega) (by omega) (by omega) e e' hll hm hz hzb).mono (fun x w' h => hfin (Or.inr (by omega)) w' x h)
theorem down_x (mx : It) (hN : NWX h w p (A ++ m :: B) (ka ++ l :: r :: kb) F s) (hn : Nod F) (hka : ka.length = A.length) (hkb : kb.length = B.length) (hAB : A.length + B.length < 90) (hl1 : l.its.length < 90) (hr1 : r.its.length < 90) (hr2 : 0 < r.its.length) (he : l.even) (he' : r.even) (hm : r.its[0]? = some mx) (hb : (Nd.flat h l).length + (Nd.flat h r).length ≤ 1000000000000000000) :
    Calls Try.prog 84 #[pv p, .int .i64 A.length] w fun x w' => x = .returned (.tuple #[]) ∧ ∃ F', NWX h w' p (A ++ mx :: B) (ka ++ Nd.lo h (l.its.length + 1) (Nd.glue h l m r) :: Nd.hi h (l.its.length + 1) (Nd.glue h l m r) :: kb) F' s ∧ Fits w.heap.size F F' ∧ Tch (fun i => i ∈ F) w w' := by
  obtain ⟨iv, kv, qs, FF, hP, hK, rfl⟩ := hN
  obtain ⟨k1, k2, q, c, Fl, Fr, rfl, rfl, rfl, rfl, hq, hc, h1, h2⟩ := kids_at2 hK
  obtain ⟨ia, kav, ql, G, hA, KK, rfl⟩ := NW_iff.1 hq
  obtain ⟨ic, kcv, qr, G', hB, KK', rfl⟩ := NW_iff.1 hc
  have hF0 : ∀ b, (fb p iv kv ++ (kF k1 ++ ((fb q ia kav ++ G) ++ ((fb c ic kcv ++ G') ++ kF k2)))).count b = (fb p iv kv ++ (fb q ia kav ++ fb c ic kcv)).count b + (kF k1 ++ (G ++ (G' ++ kF k2))).count b := fun b => by simp only [List.count_append]; omega
  obtain ⟨hnod, hap⟩ := nodR hn hF0
  have hl1' : (kP k1).length = A.length := by rw [kP_len, hka]
  have hl2' : (kP k2).length = B.length := by rw [kP_len, hkb]
  have hz : ∀ x ∈ ql ++ qr, w.cell? ⟨x, 2, none⟩ = some (.int .i64 (zsz w x)) ∧ 0 ≤ zsz w x ∧ x ∉ fb p iv kv ++ (fb q ia kav ++ fb c ic kcv) := fun x hx => by
    rcases List.mem_append.1 hx with hx | hx
    · exact ⟨(KK.cell x hx).1, (KK.cell x hx).2, hap x (by simp [KK.mem x hx])⟩
    · exact ⟨(KK'.cell x hx).1, (KK'.cell x hx).2, hap x (by simp [KK'.mem x hx])⟩
  have hzb : zsum w (ql ++ qr) ≤ 1000000000000000000 := by rw [zsum_app]; have := KK.size he; have := KK'.size he'; omega
  have hpl : (kP k1 ++ q :: c :: kP k2)[A.length]? = some q := by rw [List.getElem?_append_right (by omega), hl1']; simp
  have hpc : (kP k1 ++ q :: c :: kP k2)[A.length + 1]? = some c := by rw [List.getElem?_append_right (by omega), hl1']; simp
  have hmm : (A ++ m :: B)[A.length]? = some m := by rw [List.getElem?_append_right (Nat.le_refl _)]; simp
  obtain ⟨G1, G2, eG, K1, K2⟩ := (KK.glue KK' m).cut (l.its.length + 1)
  have hge := glue_even h l m r he he'
  have hgl : l.its.length + 1 < (Nd.glue h l m r).its.length := by rw [glue_its, List.length_append, List.length_cons]; omega
  have i1 : (Nd.lo h (l.its.length + 1) (Nd.glue h l m r)).its = l.its ++ [m] := by
    rw [lo_its, glue_its, show l.its ++ m :: r.its = (l.its ++ [m]) ++ r.its by simp]; exact List.take_left' (by simp)
  have i2 : (Nd.hi h (l.its.length + 1) (Nd.glue h l m r)).its = r.its.drop 1 := by
    rw [hi_its, glue_its, show l.its ++ m :: r.its = (l.its ++ [m]) ++ r.its by simp, List.drop_append, List.drop_eq_nil_of_le (by simp), List.nil_append]; congr 1; simp
  have hfin : (ql = [] ∧ qr = []) ∨ ql.length = l.its.length + 1 → ∀ (w' : World) (x : Ending), x = .returned (.tuple #[]) ∧ ShiftOut w w' (fb p iv kv ++ (fb q ia kav ++ fb c ic kcv)) p ((A ++ m :: B).set A.length mx) (kP k1 ++ q :: c :: kP k2) s q c (l.its ++ [m]) (r.its.drop 1) (ql ++ qr.take 1) (qr.drop 1) → x = .returned (.tuple #[]) ∧ ∃ F', NWX h w' p (A ++ mx :: B) (kT k1 ++ Nd.lo h (l.its.length + 1) (Nd.glue h l m r) :: Nd.hi h (l.its.length + 1) (Nd.glue h l m r) :: kT k2) F' s ∧ Fits w.heap.size (fb p iv kv ++ (kF k1 ++ ((fb q ia kav ++ G) ++ ((fb c ic kcv ++ G') ++ kF k2)))) F' ∧ Tch (fun i => i ∈ fb p iv kv ++ (kF k1 ++ ((fb q ia kav ++ G) ++ ((fb c ic kcv ++ G') ++ kF k2)))) w w' := by
    rintro hq w' x ⟨hx, iv', kv', ia', ka', ic', kc', H⟩
    have t1 : (ql ++ qr).take (l.its.length + 1 + 1) = ql ++ qr.take 1 := by
      rcases hq with ⟨rfl, rfl⟩ | hq
      · rfl
      · rw [List.take_append, List.take_of_length_le (by omega), hq]; congr 2; omega
    have t2 : (ql ++ qr).drop (l.its.length + 1 + 1) = qr.drop 1 := by
      rcases hq with ⟨rfl, rfl⟩ | hq
      · rfl
      · rw [List.drop_append, List.drop_eq_nil_of_le (by omega), hq, List.nil_append]; congr 1; omega
    rw [t1] at K1
    rw [t2] at K2
    refine ⟨hx, ?_⟩
    rw [set_mid] at H
    exact lift2 H k1 k2 h1 h2 _ _ G1 G2 _ K1 K2 (lo_even h _ _ hge hgl) (hi_even h _ _ hge hgl) i1 i2 rfl rfl rfl hn (fun b => by
      rw [hF0 b]
      have : (G ++ G').count b = (G1 ++ G2).count b := by rw [eG]
      simp only [List.count_append] at this ⊢; omega)
  rcases KK.len he with e | e
  · have e' : qr = [] := by
      cases h with
      | zero => exact KK'.1
      | succ h => obtain ⟨ks, e1, e2, _, _⟩ := KK; exfalso; have h9 : l.2.length = l.1.length + 1 := he; rw [e2, List.length_map] at h9; rw [e] at e1; have h8 := congrArg List.length e1; rw [List.length_map] at h8; simp at h8; omega
    exact (shiftDown_leaf w p iv kv _ _ s q ia kav l.its ql _ c ic kcv r.its qr _ A.length m mx hP hA hB hnod hpl hpc hmm (by simp only [List.length_append, List.length_cons]; omega) (by simp only [List.length_append, List.length_cons]; omega) (by omega) (by omega) e e' hm hz hzb).mono (fun x w' h => hfin (Or.inl ⟨e, e'⟩) w' x h)
  · have e' : qr.length = r.its.length + 1 := by
      rcases KK'.len he' with e' | e'
      · cases h with
        | zero => have := KK.1; rw [this] at e; simp at e
        | succ h => obtain ⟨ks, e1, e2, _, _⟩ := KK'; exfalso; have h9 : r.2.length = r.1.length + 1 := he'; rw [e2, List.length_map] at h9; rw [e'] at e1; have h8 := congrArg List.length e1; rw [List.length_map] at h8; simp at h8; omega
      · exact e'
    exact (shiftDown_inner w p iv kv _ _ s q ia kav l.its ql _ c ic kcv r.its qr _ A.length m mx hP hA hB hnod hpl hpc hmm (by simp only [List.length_append, List.length_cons]; omega) (by simp only [List.length_append, List.length_cons]; omega) (by omega) (by omega) e e' hm hz hzb).mono (fun x w' h => hfin (Or.inr e) w' x h)
theorem join_x (hN : NWX h w p (A ++ m :: B) (ka ++ l :: r :: kb) F s) (hn : Nod F) (hka : ka.length = A.length) (hkb : kb.length = B.length) (hAB : A.length + B.length < 90) (hl1 : l.its.length < 90) (hr1 : r.its.length < 90) (he : l.even) (he' : r.even) (hb : (Nd.flat h l).length + (Nd.flat h r).length ≤ 1000000000000000000) :
    Calls Try.prog 85 #[pv p, .int .i64 A.length] w fun x w' => x = .returned (.tuple #[]) ∧ ∃ F', NWX h w' p (A ++ B) (ka ++ Nd.glue h l m r :: kb) F' s ∧ Fits w.heap.size F F' ∧ Tch (fun i => i ∈ F) w w' := by
  obtain ⟨iv, kv, qs, FF, hP, hK, rfl⟩ := hN
  obtain ⟨k1, k2, q, c, Fl, Fr, rfl, rfl, rfl, rfl, hq, hc, h1, h2⟩ := kids_at2 hK
  obtain ⟨ia, kav, ql, G, hA, KK, rfl⟩ := NW_iff.1 hq
  obtain ⟨ic, kcv, qr, G', hB, KK', rfl⟩ := NW_iff.1 hc
  have hF0 : ∀ b, (fb p iv kv ++ (kF k1 ++ ((fb q ia kav ++ G) ++ ((fb c ic kcv ++ G') ++ kF k2)))).count b = (fb p iv kv ++ (fb q ia kav ++ fb c ic kcv)).count b + (kF k1 ++ (G ++ (G' ++ kF k2))).count b := fun b => by simp only [List.count_append]; omega
  obtain ⟨hnod, hap⟩ := nodR hn hF0
  have hl1' : (kP k1).length = A.length := by rw [kP_len, hka]
  have hl2' : (kP k2).length = B.length := by rw [kP_len, hkb]
  have hz : ∀ x ∈ ql ++ qr, w.cell? ⟨x, 2, none⟩ = some (.int .i64 (zsz w x)) ∧ 0 ≤ zsz w x ∧ x ∉ fb p iv kv ++ (fb q ia kav ++ fb c ic kcv) := fun x hx => by
    rcases List.mem_append.1 hx with hx | hx
    · exact ⟨(KK.cell x hx).1, (KK.cell x hx).2, hap x (by simp [KK.mem x hx])⟩
    · exact ⟨(KK'.cell x hx).1, (KK'.cell x hx).2, hap x (by simp [KK'.mem x hx])⟩
  have hzb : zsum w (ql ++ qr) ≤ 1000000000000000000 := by rw [zsum_app]; have := KK.size he; have := KK'.size he'; omega
  have hpl : (kP k1 ++ q :: c :: kP k2)[A.length]? = some q := by rw [List.getElem?_append_right (by omega), hl1']; simp
  have hpc : (kP k1 ++ q :: c :: kP k2)[A.length + 1]? = some c := by rw [List.getElem?_append_right (by omega), hl1']; simp
  have hmm : (A ++ m :: B)[A.length]? = some m := by rw [List.getElem?_append_right (Nat.le_refl _)]; simp
  have hq1 : ql.length < 100 := by
    rcases KK.len he with e | e
    · rw [e]; simp
    · omega
  have hq2 : qr.length < 100 := by
    rcases KK'.len he' with e | e
    · rw [e]; simp
    · omega
  refine (join_any w p iv kv _ _ s q ia kav l.its ql _ c ic kcv r.its qr _ A.length m hP hA hB hnod hpl hpc hmm (by simp only [List.length_append, List.length_cons]; omega) (by simp only [List.length_append, List.length_cons]; omega) (by omega) (by omega) hq1 hq2 hz hzb).mono ?_
  rintro x w' ⟨hx, iv', kv', ia', ka', ic', kc', r', qr', sc', H⟩
  refine ⟨hx, ?_⟩
  have e1 : (A ++ m :: B).take A.length ++ (A ++ m :: B).drop (A.length + 1) = A ++ B := by
    rw [List.take_left, show A ++ m :: B = (A ++ [m]) ++ B by simp, List.drop_left' (by simp)]
  have e2 : (kP k1 ++ q :: c :: kP k2).take (A.length + 1) ++ (kP k1 ++ q :: c :: kP k2).drop (A.length + 2) = kP k1 ++ q :: kP k2 := by
    rw [show kP k1 ++ q :: c :: kP k2 = (kP k1 ++ [q]) ++ (c :: kP k2) by simp, List.take_left' (by simp [hl1']), show (kP k1 ++ [q]) ++ (c :: kP k2) = (kP k1 ++ [q, c]) ++ kP k2 by simp, List.drop_left' (by simp [hl1'])]
    simp
  rw [e1, e2] at H
  exact lift1 H k1 k2 h1 h2 (Nd.glue h l m r) (G ++ G') _ (KK.glue KK' m) (glue_even h l m r he he') (glue_its h l m r) rfl rfl hn (fun b => by rw [hF0 b]; simp only [List.count_append]; omega)
end
end Go.Proofs.Ytdbaafigmfclcaa
