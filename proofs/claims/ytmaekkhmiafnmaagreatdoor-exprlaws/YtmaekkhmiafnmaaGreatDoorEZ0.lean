import Derived.Test.YtmaekkhmiafnmaaGreatDoorEL1
import Derived.Test.YtmaekkhmiafnmaaGreatDoorEX6
import Derived.Lib.ItoaLen
namespace Go.Proofs.YtmaekkhmiafnmaaGreatDoor
open Go Go.Lib
theorem law0 {ρ : ByteArray → Val} {p q : Val} (hp : ρ ⟨#[112]⟩ = p) (hq : ρ ⟨#[113]⟩ = q) (fp : BooF p) (fq : BooF q) : Alk ρ eL0 eL1 := by
  unfold Alk eL0 eL1
  simp only [w_col, w_nil, w_cons, w_and, w_or, hlA1, w_4, hp, hq]
  rcases fp with rfl | rfl | rfl <;> rcases fq with rfl | rfl | rfl <;> decide
theorem law1 {ρ : ByteArray → Val} {p q : Val} (hp : ρ ⟨#[112]⟩ = p) (hq : ρ ⟨#[113]⟩ = q) (fp : BooF p) (fq : BooF q) : Alk ρ eL2 eL3 := by
  unfold Alk eL2 eL3
  simp only [w_col, w_nil, w_cons, w_and, w_or, hlA1, w_4, hp, hq]
  rcases fp with rfl | rfl | rfl <;> rcases fq with rfl | rfl | rfl <;> decide
theorem law2 {ρ : ByteArray → Val} {p q : Val} (hp : ρ ⟨#[112]⟩ = p) (hq : ρ ⟨#[113]⟩ = q) (fp : BooF p) (fq : BooF q) : Alk ρ eL4 eL5 := by
  unfold Alk eL4 eL5
  simp only [w_col, w_nil, w_cons, w_and, hp, hq]
  rcases fp with rfl | rfl | rfl <;> rcases fq with rfl | rfl | rfl <;> decide
theorem law3 {ρ : ByteArray → Val} {p q : Val} (hp : ρ ⟨#[112]⟩ = p) (hq : ρ ⟨#[113]⟩ = q) (fp : BooF p) (fq : BooF q) : Alk ρ eL6 eL7 := by
  unfold Alk eL6 eL7
  simp only [w_col, w_nil, w_cons, w_or, hp, hq]
  rcases fp with rfl | rfl | rfl <;> rcases fq with rfl | rfl | rfl <;> decide
theorem law4 {ρ : ByteArray → Val} {p : Val} (hp : ρ ⟨#[112]⟩ = p) (fp : BooF p) : Alk ρ eL8 eL9 := by
  unfold Alk eL8 eL9
  simp only [w_col, w_nil, w_cons, hlA1, w_4, hp]
  rcases fp with rfl | rfl | rfl <;> decide
theorem law5 {ρ : ByteArray → Val} {a b : Val} (ha : ρ ⟨#[97]⟩ = a) (hb : ρ ⟨#[98]⟩ = b) (fa : IntF a) (fb : IntF b) : Alk ρ eL10 eL11 := by
  unfold Alk eL10 eL11
  simp only [w_col, w_nil, w_cons, hlA2, w_7, w_9, ha, hb]
  rcases fa with rfl | ⟨n, rfl, hn⟩ <;> rcases fb with rfl | ⟨m, rfl, hm⟩ <;> simp only [h7_zl, h7_i, h7_iz, h9_zl, h9_i, h9_iz]
  all_goals first
    | decide
    | (rcases cmp_i3 n m with ⟨c, d, e⟩ | ⟨c, d, e⟩ | ⟨c, d, e⟩ <;> simp only [c, d] <;> first | exact ⟨rfl, rfl⟩ | exact ⟨rfl, trivial⟩ | (subst e; first | exact ⟨rfl, rfl⟩ | exact ⟨rfl, trivial⟩) | (simp only [e, inV_eq, if_false]; exact ⟨rfl, rfl⟩))
    | exact ⟨rfl, rfl⟩
    | exact ⟨rfl, trivial⟩
theorem law6 {ρ : ByteArray → Val} {a b : Val} (ha : ρ ⟨#[97]⟩ = a) (hb : ρ ⟨#[98]⟩ = b) (fa : IntF a) (fb : IntF b) : Alk ρ eL12 eL13 := by
  unfold Alk eL12 eL13
  simp only [w_col, w_nil, w_cons, hlA2, w_4, w_8, w_9, ha, hb]
  rcases fa with rfl | ⟨n, rfl, hn⟩ <;> rcases fb with rfl | ⟨m, rfl, hm⟩ <;> simp only [h8_zl, h8_i, h8_iz, h9_zl, h9_i, h9_iz]
  all_goals first
    | decide
    | (rcases cmp_i3 n m with ⟨c, d, e⟩ | ⟨c, d, e⟩ | ⟨c, d, e⟩ <;> simp only [c] <;> first | exact ⟨rfl, rfl⟩ | exact ⟨rfl, trivial⟩ | (subst e; first | exact ⟨rfl, rfl⟩ | exact ⟨rfl, trivial⟩) | (simp only [e, inV_eq, if_false]; exact ⟨rfl, rfl⟩))
    | exact ⟨rfl, rfl⟩
    | exact ⟨rfl, trivial⟩
theorem law7 {ρ : ByteArray → Val} {a b : Val} (ha : ρ ⟨#[97]⟩ = a) (hb : ρ ⟨#[98]⟩ = b) (fa : IntF a) (fb : IntF b) : Alk ρ eL14 eL15 := by
  unfold Alk eL14 eL15
  simp only [w_col, w_nil, w_cons, hlA2, w_4, w_5, w_6, ha, hb]
  rcases fa with rfl | ⟨n, rfl, hn⟩ <;> rcases fb with rfl | ⟨m, rfl, hm⟩ <;> simp only [h5_zl, h5_i, h5_iz, h6_zl, h6_i, h6_iz]
  all_goals first
    | decide
    | (rcases cmp_i3 n m with ⟨c, d, e⟩ | ⟨c, d, e⟩ | ⟨c, d, e⟩ <;> simp only [c] <;> first | exact ⟨rfl, rfl⟩ | exact ⟨rfl, trivial⟩ | (subst e; first | exact ⟨rfl, rfl⟩ | exact ⟨rfl, trivial⟩) | (simp only [e, inV_eq, if_false]; exact ⟨rfl, rfl⟩))
    | exact ⟨rfl, rfl⟩
    | exact ⟨rfl, trivial⟩
theorem law8 {ρ : ByteArray → Val} {a b : Val} (ha : ρ ⟨#[97]⟩ = a) (hb : ρ ⟨#[98]⟩ = b) (fa : IntF a) (fb : IntF b) : Alk ρ eL16 eL17 := by
  unfold Alk eL16 eL17
  simp only [w_col, w_nil, w_cons, w_and, hlA2, w_5, w_8, w_10, ha, hb]
  rcases fa with rfl | ⟨n, rfl, hn⟩ <;> rcases fb with rfl | ⟨m, rfl, hm⟩ <;> simp only [h5_zl, h5_i, h5_iz, h8_zl, h8_i, h8_iz, h10_zl, h10_i, h10_iz]
  all_goals first
    | decide
    | (rcases cmp_i3 n m with ⟨c, d, e⟩ | ⟨c, d, e⟩ | ⟨c, d, e⟩ <;> simp only [c] <;> first | exact ⟨rfl, rfl⟩ | exact ⟨rfl, trivial⟩ | (subst e; first | exact ⟨rfl, rfl⟩ | exact ⟨rfl, trivial⟩) | (simp only [e, inV_eq, if_false]; exact ⟨rfl, rfl⟩))
    | exact ⟨rfl, rfl⟩
    | exact ⟨rfl, trivial⟩
theorem law9 {ρ : ByteArray → Val} {s t : Val} (hs : ρ ⟨#[115]⟩ = s) (ht : ρ ⟨#[116]⟩ = t) (fs : TxtF s) (ft : TxtF t) : Alk ρ eL18 eL19 := by
  unfold Alk eL18 eL19
  simp only [w_col, w_nil, w_cons, hlA2, w_7, w_9, hs, ht]
  rcases fs with rfl | ⟨n, rfl, hn⟩ <;> rcases ft with rfl | ⟨m, rfl, hm⟩ <;> simp only [h7_zl, h7_t, h7_tz, h9_zl, h9_t, h9_tz]
  all_goals first
    | decide
    | exact ⟨rfl, rfl⟩
    | exact ⟨rfl, trivial⟩
    | (rcases cmp_t3 n m with ⟨c, d, e⟩ | ⟨c, d, e⟩ | ⟨c, d, e⟩ <;> simp only [c, d] <;> first | exact ⟨rfl, rfl⟩ | exact ⟨rfl, trivial⟩ | (subst e; first | exact ⟨rfl, rfl⟩ | exact ⟨rfl, trivial⟩))
theorem law10 {ρ : ByteArray → Val} {a b : Val} (ha : ρ ⟨#[97]⟩ = a) (hb : ρ ⟨#[98]⟩ = b) (fa : IntF a) (fb : IntF b) : Alk ρ eL20 eL21 := by
  unfold Alk eL20 eL21
  simp only [w_col, w_lit, w_nil, w_cons, w_and, hlA2, hlA3, five, w_8, w_10, w_13, ha, hb]
  rcases fa with rfl | ⟨n, rfl, hn⟩ <;> rcases fb with rfl | ⟨m, rfl, hm⟩ <;> simp only [h13_d, o_zl, o_iz, o_i, h8_zl, h8_i, h10_zl, h10_i, h10_iz]
  all_goals first
    | decide
    | exact ⟨rfl, rfl⟩
    | exact ⟨rfl, trivial⟩
    | (rcases cmp_i3 n 5 with ⟨c, d, e⟩ | ⟨c, d, e⟩ | ⟨c, d, e⟩ <;> first
        | (subst e; simp only [c]; first | exact ⟨rfl, rfl⟩ | exact ⟨rfl, trivial⟩)
        | (have e := Ne.symm e; simp only [c]; first | exact ⟨rfl, rfl⟩ | exact ⟨rfl, trivial⟩))
    | (rcases cmp_i3 n m with ⟨c, d, e⟩ | ⟨c, d, e⟩ | ⟨c, d, e⟩ <;> rcases cmp_i3 n 5 with ⟨c', d', e'⟩ | ⟨c', d', e'⟩ | ⟨c', d', e'⟩ <;> first
        | (subst e; subst e'; simp only [c]; first | exact ⟨rfl, rfl⟩ | exact ⟨rfl, trivial⟩)
        | (subst e; simp only [c, c']; first | exact ⟨rfl, rfl⟩ | exact ⟨rfl, trivial⟩)
        | (subst e'; have e := Ne.symm e; simp only [c, d, c']; first | exact ⟨rfl, rfl⟩ | exact ⟨rfl, trivial⟩)
        | (have e := Ne.symm e; have e' := Ne.symm e'; simp only [c, d, c']; first | exact ⟨rfl, rfl⟩ | exact ⟨rfl, trivial⟩))
theorem law11 {ρ : ByteArray → Val} {a b : Val} (ha : ρ ⟨#[97]⟩ = a) (hb : ρ ⟨#[98]⟩ = b) (fa : IntF a) (fb : IntF b) : Alk ρ eL22 eL23 := by
  unfold Alk eL22 eL23
  simp only [w_col, w_lit, w_nil, w_cons, w_or, w_n13, hlA2, hlA3, five, w_7, w_9, ha, hb]
  rcases fa with rfl | ⟨n, rfl, hn⟩ <;> rcases fb with rfl | ⟨m, rfl, hm⟩ <;> simp only [h13_d, o_zl, o_iz, o_i, h7_zl, h7_i, h7_iz, h9_zl, h9_i]
  all_goals first
    | decide
    | exact ⟨rfl, rfl⟩
    | exact ⟨rfl, trivial⟩
    | (rcases cmp_i3 n 5 with ⟨c, d, e⟩ | ⟨c, d, e⟩ | ⟨c, d, e⟩ <;> first
        | (subst e; simp only [c]; first | exact ⟨rfl, rfl⟩ | exact ⟨rfl, trivial⟩)
        | (have e := Ne.symm e; simp only [c]; first | exact ⟨rfl, rfl⟩ | exact ⟨rfl, trivial⟩))
    | (rcases cmp_i3 n m with ⟨c, d, e⟩ | ⟨c, d, e⟩ | ⟨c, d, e⟩ <;> rcases cmp_i3 n 5 with ⟨c', d', e'⟩ | ⟨c', d', e'⟩ | ⟨c', d', e'⟩ <;> first
        | (subst e; subst e'; simp only [c]; first | exact ⟨rfl, rfl⟩ | exact ⟨rfl, trivial⟩)
        | (subst e; simp only [c, c']; first | exact ⟨rfl, rfl⟩ | exact ⟨rfl, trivial⟩)
        | (subst e'; have e := Ne.symm e; simp only [c, d, c']; first | exact ⟨rfl, rfl⟩ | exact ⟨rfl, trivial⟩)
        | (have e := Ne.symm e; have e' := Ne.symm e'; simp only [c, d, c']; first | exact ⟨rfl, rfl⟩ | exact ⟨rfl, trivial⟩))
end Go.Proofs.YtmaekkhmiafnmaaGreatDoor
namespace Go.Proofs.YtmaekkhmiafnmaaGreatDoor
open Go Go.Lib
theorem law12 {ρ : ByteArray → Val} {a b : Val} (ha : ρ ⟨#[97]⟩ = a) (hb : ρ ⟨#[98]⟩ = b) (fa : IntF a) (fb : IntF b) : Alk ρ eL24 eL25 := by
  unfold Alk eL24 eL25
  simp only [w_col, w_lit, w_nil, w_cons, w_or, w_in, hlA2, five, w_5, ha, hb]
  rcases fa with rfl | ⟨n, rfl, hn⟩ <;> rcases fb with rfl | ⟨m, rfl, hm⟩ <;> simp only [h5_zl, h5_i, h5_iz, inA_z, inA_i, inA_iz]
  all_goals first
    | decide
    | exact ⟨rfl, rfl⟩
    | exact ⟨rfl, trivial⟩
    | (rcases cmp_i3 n 5 with ⟨c, d, e⟩ | ⟨c, d, e⟩ | ⟨c, d, e⟩ <;> first
        | (subst e; simp only [c]; first | exact ⟨rfl, rfl⟩ | exact ⟨rfl, trivial⟩)
        | (have e := Ne.symm e; simp only [c, if_neg e]; first | exact ⟨rfl, rfl⟩ | exact ⟨rfl, trivial⟩))
    | (rcases cmp_i3 n m with ⟨c, d, e⟩ | ⟨c, d, e⟩ | ⟨c, d, e⟩ <;> rcases cmp_i3 n 5 with ⟨c', d', e'⟩ | ⟨c', d', e'⟩ | ⟨c', d', e'⟩ <;> first
        | (subst e; subst e'; simp only [c, if_true]; first | exact ⟨rfl, rfl⟩ | exact ⟨rfl, trivial⟩)
        | (subst e; simp only [c, c', if_true]; first | exact ⟨rfl, rfl⟩ | exact ⟨rfl, trivial⟩)
        | (subst e'; have e := Ne.symm e; simp only [c, c', if_neg e, if_true]; first | exact ⟨rfl, rfl⟩ | exact ⟨rfl, trivial⟩)
        | (have e := Ne.symm e; have e' := Ne.symm e'; simp only [c, c', if_neg e, if_neg e']; first | exact ⟨rfl, rfl⟩ | exact ⟨rfl, trivial⟩))
theorem law13 {ρ : ByteArray → Val} {a b : Val} (ha : ρ ⟨#[97]⟩ = a) (hb : ρ ⟨#[98]⟩ = b) (fa : IntF a) (fb : IntF b) : Alk ρ eL26 eL27 := by
  unfold Alk eL26 eL27
  simp only [w_col, w_lit, w_nil, w_cons, w_and, w_ni, hlA2, five, w_6, ha, hb]
  rcases fa with rfl | ⟨n, rfl, hn⟩ <;> rcases fb with rfl | ⟨m, rfl, hm⟩ <;> simp only [h6_zl, h6_i, h6_iz, inA_z, inA_i, inA_iz]
  all_goals first
    | decide
    | exact ⟨rfl, rfl⟩
    | exact ⟨rfl, trivial⟩
    | (rcases cmp_i3 n 5 with ⟨c, d, e⟩ | ⟨c, d, e⟩ | ⟨c, d, e⟩ <;> first
        | (subst e; simp only [c]; first | exact ⟨rfl, rfl⟩ | exact ⟨rfl, trivial⟩)
        | (have e := Ne.symm e; simp only [c, if_neg e]; first | exact ⟨rfl, rfl⟩ | exact ⟨rfl, trivial⟩))
    | (rcases cmp_i3 n m with ⟨c, d, e⟩ | ⟨c, d, e⟩ | ⟨c, d, e⟩ <;> rcases cmp_i3 n 5 with ⟨c', d', e'⟩ | ⟨c', d', e'⟩ | ⟨c', d', e'⟩ <;> first
        | (subst e; subst e'; simp only [c, if_true]; first | exact ⟨rfl, rfl⟩ | exact ⟨rfl, trivial⟩)
        | (subst e; simp only [c, c', if_true]; first | exact ⟨rfl, rfl⟩ | exact ⟨rfl, trivial⟩)
        | (subst e'; have e := Ne.symm e; simp only [c, c', if_neg e, if_true]; first | exact ⟨rfl, rfl⟩ | exact ⟨rfl, trivial⟩)
        | (have e := Ne.symm e; have e' := Ne.symm e'; simp only [c, c', if_neg e, if_neg e']; first | exact ⟨rfl, rfl⟩ | exact ⟨rfl, trivial⟩))
theorem law14 {ρ : ByteArray → Val} {a b : Val} (ha : ρ ⟨#[97]⟩ = a) (hb : ρ ⟨#[98]⟩ = b) (fa : IntF a) (fb : IntF b) : Alk ρ eL28 eL29 := by
  unfold Alk eL28 eL29
  simp only [w_col, w_nil, w_cons, w_chs, w_knw, w_n11, hlA1, ha, hb]
  rcases fa with rfl | ⟨n, rfl, hn⟩ <;> rcases fb with rfl | ⟨m, rfl, hm⟩ <;> simp only [h11_d]
  all_goals first
    | decide
    | (rcases cmp_i3 n m with ⟨c, d, e⟩ | ⟨c, d, e⟩ | ⟨c, d, e⟩ <;> simp only [c, d] <;> first | exact ⟨rfl, rfl⟩ | exact ⟨rfl, trivial⟩ | (subst e; first | exact ⟨rfl, rfl⟩ | exact ⟨rfl, trivial⟩) | (simp only [e, inV_eq, if_false]; exact ⟨rfl, rfl⟩))
    | exact ⟨rfl, rfl⟩
    | exact ⟨rfl, trivial⟩
theorem law15 {ρ : ByteArray → Val} {a b : Val} (ha : ρ ⟨#[97]⟩ = a) (hb : ρ ⟨#[98]⟩ = b) (fa : IntF a) (fb : IntF b) : Alk ρ eL30 eL31 := by
  unfold Alk eL30 eL31
  simp only [w_col, w_lit, w_nil, w_cons, w_chs, hlA2, w_5, w_27, ha, hb]
  rcases fa with rfl | ⟨n, rfl, hn⟩ <;> rcases fb with rfl | ⟨m, rfl, hm⟩ <;> simp only [h27_d, h5_zl, h5_i, h5_iz]
  · decide
  · refine ⟨?_, by first | rfl | trivial⟩
    rw [if_neg (fun h => by injection h; contradiction)]; rfl
  · refine ⟨?_, by first | rfl | trivial⟩
    rw [if_neg (fun h => by injection h; contradiction)]; rfl
  · rcases cmp_i3 n m with ⟨c, d, e⟩ | ⟨c, d, e⟩ | ⟨c, d, e⟩
    · simp only [c, inV_eq, if_neg e]
      exact ⟨rfl, trivial⟩
    · subst e
      simp only [c, if_true]
      exact ⟨rfl, trivial⟩
    · simp only [c, inV_eq, if_neg e]
      exact ⟨rfl, trivial⟩
theorem law16 {ρ : ByteArray → Val} {a : Val} (ha : ρ ⟨#[97]⟩ = a) (fa : IntF a) : Alk ρ eL32 eL33 := by
  unfold Alk eL32 eL33
  simp only [w_col, w_nil, w_cons, w_n11, hlA1, w_4, w_11, ha]
  rcases fa with rfl | ⟨n, rfl, hn⟩
  · decide
  · exact ⟨rfl, rfl⟩
theorem law17 {ρ : ByteArray → Val} {a b : Val} (ha : ρ ⟨#[97]⟩ = a) (hb : ρ ⟨#[98]⟩ = b) (fa : IntF a) (fb : IntF b) : Alk ρ eL34 eL35 := by
  unfold Alk eL34 eL35
  simp only [w_col, w_nil, w_cons, w_chs, hlA2, w_9, w_10, w_30, ha, hb]
  rcases fa with rfl | ⟨n, rfl, hn⟩ <;> rcases fb with rfl | ⟨m, rfl, hm⟩ <;> simp only [maxi, h9_zl, h9_i, h9_iz, h10_zl, h10_i, h10_iz, h30_zl, h30_i, h30_iz]
  all_goals first
    | decide
    | (rcases cmp_i3 n m with ⟨c, d, e⟩ | ⟨c, d, e⟩ | ⟨c, d, e⟩ <;> simp only [c, d] <;> first | exact ⟨rfl, rfl⟩ | exact ⟨rfl, trivial⟩ | (subst e; first | exact ⟨rfl, rfl⟩ | exact ⟨rfl, trivial⟩) | (simp only [e, inV_eq, if_false]; exact ⟨rfl, rfl⟩))
    | exact ⟨rfl, rfl⟩
    | exact ⟨rfl, trivial⟩
theorem law18 {ρ : ByteArray → Val} {s t : Val} (hs : ρ ⟨#[115]⟩ = s) (ht : ρ ⟨#[116]⟩ = t) (fs : TxtF s) (ft : TxtF t) : Alk ρ eL36 eL37 := by
  unfold Alk eL36 eL37
  simp only [w_col, w_nil, w_cons, w_chs, hlA2, w_7, w_8, w_31, hs, ht]
  rcases fs with rfl | ⟨n, rfl, hn⟩ <;> rcases ft with rfl | ⟨m, rfl, hm⟩ <;> simp only [mint, h7_zl, h7_t, h7_tz, h8_zl, h8_t, h8_tz, h31_zl, h31_t, h31_tz]
  all_goals first
    | decide
    | exact ⟨rfl, rfl⟩
    | exact ⟨rfl, trivial⟩
    | (rcases cmp_t3 n m with ⟨c, d, e⟩ | ⟨c, d, e⟩ | ⟨c, d, e⟩ <;> simp only [c, d] <;> first | exact ⟨rfl, rfl⟩ | exact ⟨rfl, trivial⟩ | (subst e; first | exact ⟨rfl, rfl⟩ | exact ⟨rfl, trivial⟩))
theorem law19 {ρ : ByteArray → Val} {s : Val} (hs : ρ ⟨#[115]⟩ = s) (fs : TxtF s) : Alk ρ eL38 eL39 := by
  unfold Alk eL38 eL39
  simp only [w_col, w_lit, w_nil, w_cons, hlA2, w_5, w_14, hs]
  rcases fs with rfl | ⟨n, rfl, hn⟩
  · exact ⟨rfl, rfl⟩
  · have e1 : hldV 14 [txV n, ⟨2, 0, ⟨#[37]⟩⟩] = (tr (lkM n.data.toList [37]), 0) := rfl
    rcases cmp_t3 n n with ⟨c, d, e⟩ | ⟨c, d, e⟩ | ⟨c, d, e⟩
    · exact absurd rfl e
    · simp only [h5_t, c, e1, lk_all]
      exact ⟨rfl, trivial⟩
    · exact absurd rfl e
theorem law20 {ρ : ByteArray → Val} {s : Val} (hs : ρ ⟨#[115]⟩ = s) (fs : TxtF s) : Alk ρ eL40 eL41 := by
  unfold Alk eL40 eL41
  simp only [w_col, w_lit, w_nil, w_cons, hlA2, w_14, w_15, hs]
  rcases fs with rfl | ⟨n, rfl, hn⟩
  · exact ⟨rfl, by first | rfl | trivial⟩
  · have e1 : hldV 15 [txV n, ⟨2, 0, ⟨#[]⟩⟩] = (txV n, 0) := joi_nil n hn
    simp only [e1, hlA2]
    exact ⟨by first | rfl | trivial, by first | rfl | trivial⟩
theorem law21 {ρ : ByteArray → Val} {s t : Val} (hs : ρ ⟨#[115]⟩ = s) (ht : ρ ⟨#[116]⟩ = t) (fs : TxtF s) (ft : TxtF t) : Alk ρ eL42 eL43 := by
  unfold Alk eL42 eL43
  simp only [w_col, w_nil, w_cons, w_and, hlA2, w_5, hs, ht]
  rcases fs with rfl | ⟨n, rfl, hn⟩ <;> rcases ft with rfl | ⟨m, rfl, hm⟩ <;> simp only [h5_zl, h5_t, h5_tz]
  all_goals first
    | decide
    | exact ⟨rfl, rfl⟩
    | exact ⟨rfl, trivial⟩
    | (rcases cmp_t3 n m with ⟨c, d, e⟩ | ⟨c, d, e⟩ | ⟨c, d, e⟩ <;> simp only [c, d] <;> first | exact ⟨rfl, rfl⟩ | exact ⟨rfl, trivial⟩ | (subst e; first | exact ⟨rfl, rfl⟩ | exact ⟨rfl, trivial⟩))
theorem law22 {ρ : ByteArray → Val} {s : Val} (hs : ρ ⟨#[115]⟩ = s) (fs : TxtF s) : Alk ρ eL44 eL45 := by
  unfold Alk eL44 eL45
  simp only [w_col, w_nil, w_cons, hlA1, w_23, w_25, w_26, hs]
  rcases fs with rfl | ⟨n, rfl, hn⟩
  · exact ⟨rfl, rfl⟩
  · have e1 : hldV 25 [txV n] = (rszV n 97 65, 0) := rfl
    have e2 : hldV 26 [txV n] = (rszV n 65 97, 0) := rfl
    have e3 : ∀ x, hldV 23 [txV x] = (inV x.size, 0) := fun _ => rfl
    simp only [e1, e2, hlA1]
    refine ⟨?_, rfl⟩
    have h1 := rsz_len n 97 65
    have h2 := rsz_len n 65 97
    show (inV (rszV n 97 65).s.size, (0 : Int)) = (inV (rszV n 65 97).s.size, 0)
    rw [h1, h2]
theorem law23 {ρ : ByteArray → Val} {s : Val} (hs : ρ ⟨#[115]⟩ = s) (fs : TxtF s) : Alk ρ eL46 eL47 := by
  unfold Alk eL46 eL47
  simp only [w_col, w_nil, w_cons, hlA1, w_25, w_26, hs]
  rcases fs with rfl | ⟨n, rfl, hn⟩
  · exact ⟨rfl, rfl⟩
  · refine ⟨?_, rfl⟩
    show (rszV (rszV (rszV n 97 65).s 65 97).s 97 65, (0 : Int)) = (rszV n 97 65, 0)
    rw [rsz_ulu3]
theorem law24 {ρ : ByteArray → Val} {s : Val} (hs : ρ ⟨#[115]⟩ = s) (fs : TxtF s) : Alk ρ eL48 eL49 := by
  unfold Alk eL48 eL49
  simp only [w_col, w_lit, w_nil, w_cons, hlA1, w_23, w_28, hs]
  rcases fs with rfl | ⟨n, rfl, hn⟩
  · exact ⟨rfl, rfl⟩
  · have e3 : hlA 28 [(txV n, 0), (⟨1, 1, ⟨#[]⟩⟩, 0), hldV 23 [txV n]] = (txV n, 0) := cut_all n
    exact ⟨e3, by rw [e3]⟩
def prs : List (ByteArray × ByteArray) := [(sL0, sL1), (sL2, sL3), (sL4, sL5), (sL6, sL7), (sL8, sL9), (sL10, sL11), (sL12, sL13), (sL14, sL15), (sL16, sL17), (sL18, sL19), (sL20, sL21), (sL22, sL23), (sL24, sL25), (sL26, sL27), (sL28, sL29), (sL30, sL31), (sL32, sL33), (sL34, sL35), (sL36, sL37), (sL38, sL39), (sL40, sL41), (sL42, sL43), (sL44, sL45), (sL46, sL47), (sL48, sL49)]
theorem laws_all {r : List Val} (h : Row6 r) (k : Nat) (hk : k < prs.length) : ∃ e f, parE prs[k].1 = (some e, 0, 0) ∧ parE prs[k].2 = (some f, 0, 0) ∧ evE cs6 r e = evE cs6 r f ∧ (evE cs6 r e).2 = 0 := by
  obtain ⟨a, b, s, t, p, q, _, fa, fb, fs, ft, fp, fq, ha, hb, hs, ht, hp, hq⟩ := h.rh
  have key : ∀ {e f : Ex}, (chk cs6 e).2 = 0 → (chk cs6 f).2 = 0 → Alk (rho cs6 r) e f → evE cs6 r e = evE cs6 r f ∧ (evE cs6 r e).2 = 0 := fun he hf h1 => by
    rw [h.ev he, h.ev hf]; exact h1
  have hl : prs.length = 25 := rfl
  rw [hl] at hk
  match k, hk with
  | 0, _ => exact ⟨eL0, eL1, pL0, pL1, key cL0 cL1 (law0 hp hq fp fq)⟩
  | 1, _ => exact ⟨eL2, eL3, pL2, pL3, key cL2 cL3 (law1 hp hq fp fq)⟩
  | 2, _ => exact ⟨eL4, eL5, pL4, pL5, key cL4 cL5 (law2 hp hq fp fq)⟩
  | 3, _ => exact ⟨eL6, eL7, pL6, pL7, key cL6 cL7 (law3 hp hq fp fq)⟩
  | 4, _ => exact ⟨eL8, eL9, pL8, pL9, key cL8 cL9 (law4 hp fp)⟩
  | 5, _ => exact ⟨eL10, eL11, pL10, pL11, key cL10 cL11 (law5 ha hb fa fb)⟩
  | 6, _ => exact ⟨eL12, eL13, pL12, pL13, key cL12 cL13 (law6 ha hb fa fb)⟩
  | 7, _ => exact ⟨eL14, eL15, pL14, pL15, key cL14 cL15 (law7 ha hb fa fb)⟩
  | 8, _ => exact ⟨eL16, eL17, pL16, pL17, key cL16 cL17 (law8 ha hb fa fb)⟩
  | 9, _ => exact ⟨eL18, eL19, pL18, pL19, key cL18 cL19 (law9 hs ht fs ft)⟩
  | 10, _ => exact ⟨eL20, eL21, pL20, pL21, key cL20 cL21 (law10 ha hb fa fb)⟩
  | 11, _ => exact ⟨eL22, eL23, pL22, pL23, key cL22 cL23 (law11 ha hb fa fb)⟩
  | 12, _ => exact ⟨eL24, eL25, pL24, pL25, key cL24 cL25 (law12 ha hb fa fb)⟩
  | 13, _ => exact ⟨eL26, eL27, pL26, pL27, key cL26 cL27 (law13 ha hb fa fb)⟩
  | 14, _ => exact ⟨eL28, eL29, pL28, pL29, key cL28 cL29 (law14 ha hb fa fb)⟩
  | 15, _ => exact ⟨eL30, eL31, pL30, pL31, key cL30 cL31 (law15 ha hb fa fb)⟩
  | 16, _ => exact ⟨eL32, eL33, pL32, pL33, key cL32 cL33 (law16 ha fa)⟩
  | 17, _ => exact ⟨eL34, eL35, pL34, pL35, key cL34 cL35 (law17 ha hb fa fb)⟩
  | 18, _ => exact ⟨eL36, eL37, pL36, pL37, key cL36 cL37 (law18 hs ht fs ft)⟩
  | 19, _ => exact ⟨eL38, eL39, pL38, pL39, key cL38 cL39 (law19 hs fs)⟩
  | 20, _ => exact ⟨eL40, eL41, pL40, pL41, key cL40 cL41 (law20 hs fs)⟩
  | 21, _ => exact ⟨eL42, eL43, pL42, pL43, key cL42 cL43 (law21 hs ht fs ft)⟩
  | 22, _ => exact ⟨eL44, eL45, pL44, pL45, key cL44 cL45 (law22 hs fs)⟩
  | 23, _ => exact ⟨eL46, eL47, pL46, pL47, key cL46 cL47 (law23 hs fs)⟩
  | 24, _ => exact ⟨eL48, eL49, pL48, pL49, key cL48 cL49 (law24 hs fs)⟩
  | n + 25, hk => exact absurd hk (by omega)
theorem fit_in {n : Int} (h : i64I n) : fitI n = (inV n, 0) := if_pos h
theorem law_quo {r : List Val} (h : Row6 r) {n m : Int} (ha : r.getD 0 zV = inV n) (hb : r.getD 1 zV = inV m) (h0 : m ≠ 0) (hx : ¬ (n = -9223372036854775808 ∧ m = -1)) : evE cs6 r eL50 = (inV n, 0) := by
  obtain ⟨a, b, s, t, p, q, rfl, fa, fb, _, _, _, _, ra, rb, _, _, _, _⟩ := h.rh
  have ha : a = inV n := ha
  have hb : b = inV m := hb
  subst ha; subst hb
  have hn : i64I n := by
    rcases fa with h | ⟨n', h, hn⟩
    · injection h; contradiction
    · rw [(inV_eq _ _).1 h]; exact hn
  have hm : i64I m := by
    rcases fb with h | ⟨n', h, hn⟩
    · injection h; contradiction
    · rw [(inV_eq _ _).1 h]; exact hn
  rw [h.ev cL50]
  unfold eL50
  simp only [w_col, w_nil, w_cons, w_16, w_18, w_19, w_20, ra, rb]
  have e1 : hlA 19 [(inV n, 0), (inV m, 0)] = if m = 0 then (zV, 115) else fitI (n.tdiv m) := rfl
  have e2 : hlA 20 [(inV n, 0), (inV m, 0)] = if m = 0 then (zV, 115) else fitI (n.tmod m) := rfl
  have e3 : ∀ x y, hlA 18 [(inV x, 0), (inV y, 0)] = fitI (x * y) := fun _ _ => rfl
  have e4 : ∀ x y, hlA 16 [(inV x, 0), (inV y, 0)] = fitI (x + y) := fun _ _ => rfl
  have hs : n.tdiv m * m + n.tmod m = n := by rw [Int.mul_comm]; exact Int.mul_tdiv_add_tmod n m
  obtain ⟨hn1, hn2⟩ := hn
  obtain ⟨hm1, hm2⟩ := hm
  have b1 : n.tmod m ≤ 9223372036854775807 ∧ -9223372036854775808 ≤ n.tmod m ∧ (0 ≤ n → 0 ≤ n.tmod m ∧ n.tmod m ≤ n) ∧ (n ≤ 0 → n.tmod m ≤ 0 ∧ n ≤ n.tmod m) := by
    have k1 : ∀ x : Int, 0 ≤ x → 0 ≤ x.tmod m ∧ x.tmod m ≤ x := fun x hx => by
      have h1 : 0 ≤ x.tmod m := by rw [Int.tmod_eq_emod_of_nonneg hx]; exact Int.emod_nonneg _ h0
      have h2 : (x.tmod m).natAbs ≤ x.natAbs := by rw [Int.natAbs_tmod]; exact Nat.mod_le _ _
      omega
    rcases Int.le_total 0 n with h | h
    · obtain ⟨k2, k3⟩ := k1 n h
      exact ⟨by omega, by omega, fun _ => ⟨k2, k3⟩, fun h' => ⟨by omega, by omega⟩⟩
    · obtain ⟨k2, k3⟩ := k1 (-n) (by omega)
      rw [Int.neg_tmod] at k2 k3
      exact ⟨by omega, by omega, fun h' => ⟨by omega, by omega⟩, fun _ => ⟨by omega, by omega⟩⟩
  have b2 : i64I (n.tdiv m) := by
    have k := Int.natAbs_tdiv_le_natAbs n m
    by_cases h2 : 2 ≤ m.natAbs
    · have k2 : (n.tdiv m).natAbs ≤ n.natAbs / 2 := by
        rw [Int.natAbs_tdiv]
        exact Nat.div_le_div_left h2 (by omega)
      unfold i64I
      omega
    · rcases (show m = 1 ∨ m = -1 by omega) with rfl | rfl
      · rw [Int.tdiv_one]; exact ⟨hn1, hn2⟩
      · have hn3 : n ≠ -9223372036854775808 := fun h => hx ⟨h, rfl⟩
        unfold i64I
        omega
  rw [e1, e2, if_neg h0, if_neg h0, fit_in b2, fit_in ⟨b1.2.1, b1.1⟩, e3, fit_in (by unfold i64I; omega), e4, fit_in (by unfold i64I; omega), hs]
end Go.Proofs.YtmaekkhmiafnmaaGreatDoor
namespace Go.Proofs.YtmaekkhmiafnmaaGreatDoor
open Go Go.Lib
theorem prB_size {v : Val} (h : gV v) : (prB v).size ≤ 2000 := by
  unfold prB
  repeat' split
  all_goals first
    | (show _ ≤ _; decide)
    | (show (itoa v.n).toArray.size ≤ _; rw [List.size_toArray]; have := itoa_length_le v.n h.1.1 h.1.2; omega)
    | (show (qtd v.s).toArray.size ≤ _; rw [List.size_toArray, qtd_qt]; have h1 := escs_len v.s.data.toList; have h2 := h.2; have h3 : v.s.data.toList.length = v.s.size := by rw [Array.length_toList]; rfl
       simp only [qt, List.length_cons, List.length_append, List.length_nil]; omega)
def sumS : List (Nat × ByteArray) → Nat
  | [] => 0
  | x :: l => x.2.size + 20 + sumS l
theorem wiP_size (k : Nat) (x : Nat × ByteArray) : (wiP k x).size ≤ x.2.size + 2 := by
  unfold wiP
  split
  · rw [ByteArray.size_append, ByteArray.size_append]
    show 1 + x.2.size + 1 ≤ _; omega
  · omega
theorem sumS_two (x y : Nat × ByteArray) (l : List (Nat × ByteArray)) : x.2.size + y.2.size ≤ sumS (x :: y :: l) := by unfold sumS sumS; omega
theorem sumS_three (x y z : Nat × ByteArray) (l : List (Nat × ByteArray)) : x.2.size + y.2.size + z.2.size ≤ sumS (x :: y :: z :: l) := by unfold sumS sumS sumS; omega
theorem sumS_sum (l : List (Nat × ByteArray)) : (l.getD 0 noP).2.size + (l.getD 1 noP).2.size + (l.getD 2 noP).2.size ≤ sumS l := by
  have h0 : noP.2.size = 0 := rfl
  match l with
  | [] => simp [noP, sumS, ByteArray.size]
  | [x] =>
    show x.2.size + noP.2.size + noP.2.size ≤ _
    unfold sumS; omega
  | [x, y] =>
    show x.2.size + y.2.size + noP.2.size ≤ _
    have := sumS_two x y []; omega
  | x :: y :: z :: l => exact sumS_three x y z l
theorem prLs_size : ∀ (f : Bool) (l : List (Nat × ByteArray)), (prLs f l).size ≤ sumS l
  | _, [] => Nat.le_refl _
  | f, x :: l => by
    have ih := prLs_size false l
    unfold prLs sumS
    rw [ByteArray.size_append]
    have : (if f = true then x.2 else ⟨#[44, 32]⟩ ++ x.2).size ≤ 2 + x.2.size := by
      split
      · omega
      · rw [ByteArray.size_append]; exact Nat.le_refl _
    omega
theorem prCh_size : ∀ (l : List (Nat × ByteArray)), (prCh l).size ≤ sumS l
  | [] => Nat.le_refl _
  | [a] => by
    unfold prCh sumS
    rw [ByteArray.size_append]
    show 6 + a.2.size ≤ _; omega
  | a :: b :: l => by
    have ih := prCh_size l
    unfold prCh sumS sumS
    simp only [ByteArray.size_append]
    show 6 + a.2.size + 6 + b.2.size + _ ≤ _; omega
theorem sumS_drop (l : List (Nat × ByteArray)) : (l.getD 0 noP).2.size + sumS (l.drop 1) ≤ sumS l := by
  cases l with
  | nil => exact Nat.le_refl _
  | cons x l =>
    show x.2.size + sumS l ≤ _
    conv => rhs; unfold sumS
    omega
theorem wd_size (o : Nat) : (wd o).size ≤ 8 := by
  by_cases h : o < 32
  · have : ∀ k, k < 32 → (wd k).size ≤ 8 := by decide
    exact this o h
  · unfold wd
    rw [List.getD_eq_getElem?_getD, List.getElem?_eq_none (show shp.length ≤ o from Nat.le_of_not_lt h)]
    exact Nat.zero_le _
theorem wdT_size (o : Nat) (no : Bool) : (wdT o no).size ≤ 12 := by
  have := wd_size o
  unfold wdT
  repeat' split
  · omega
  · rw [ByteArray.size_append]; show _ + 4 ≤ _; omega
  · rw [ByteArray.size_append]; show 4 + _ ≤ _; omega
theorem prC_size {o : Nat} {no : Bool} {v : Val} {nm : ByteArray} {l : List (Nat × ByteArray)} (hv : gV v) (hn : nm.size ≤ 400) : (prC o no v nm l).size ≤ 2000 + sumS l := by
  have h0 := sumS_sum l
  have hw := wiP_size
  have g0 := hw 3 (l.getD 0 noP)
  have g5 := hw 5 (l.getD 0 noP)
  have g51 := hw 5 (l.getD 1 noP)
  have g52 := hw 5 (l.getD 2 noP)
  have ga := hw (lvl o) (l.getD 0 noP)
  have gb := hw (lvl o + 1) (l.getD 1 noP)
  have hd := wd_size o
  have ht := wdT_size o no
  have hL := prLs_size true l
  have hL2 := prLs_size true (l.drop 1)
  have hD := sumS_drop l
  have hC := prCh_size l
  have hB := prB_size hv
  unfold prC
  by_cases c0 : o = 0
  · rw [if_pos c0]; omega
  rw [if_neg c0]
  by_cases c1 : o = 1
  · rw [if_pos c1]; omega
  rw [if_neg c1]
  by_cases c4 : o = 4
  · rw [if_pos c4, ByteArray.size_append]; show 4 + _ ≤ _; omega
  rw [if_neg c4]
  by_cases c21 : o = 21
  · rw [if_pos c21]; simp only [ByteArray.size_append]; show 2 + _ + 1 ≤ _; omega
  rw [if_neg c21]
  by_cases c22 : o = 22
  · rw [if_pos c22]; simp only [ByteArray.size_append]; show 4 + _ + 4 ≤ _; omega
  rw [if_neg c22]
  by_cases c9 : lvl o = 9
  · rw [if_pos c9]; simp only [ByteArray.size_append]; show _ + 1 + _ + 1 ≤ _; omega
  rw [if_neg c9]
  by_cases k4 : lvl o = 4
  · rw [if_pos k4]
    by_cases c11 : o = 11
    · rw [if_pos c11]; simp only [ByteArray.size_append]; show _ + (1 + _ + 1) + 4 ≤ _; omega
    rw [if_neg c11]
    by_cases c12 : o = 12
    · rw [if_pos c12]; simp only [ByteArray.size_append]; show _ + (1 + _ + 1) + 1 + _ + 1 ≤ _; omega
    rw [if_neg c12]
    by_cases c13 : o = 13
    · rw [if_pos c13]; simp only [ByteArray.size_append]; show _ + (1 + _ + 1) + _ + 5 + _ ≤ _; omega
    rw [if_neg c13]
    simp only [ByteArray.size_append]; show _ + (1 + _ + 1) + _ ≤ _; omega
  rw [if_neg k4]
  simp only [ByteArray.size_append]; show _ + 1 + _ + 1 + _ ≤ _; omega
mutual
theorem prt_size : ∀ (e : Ex), okE e → txE e → (prt e).size + 20 ≤ 3000 * szE e
  | .mk o no v nm l, hk, ht => by
    have hk : i64v v.n ∧ arOk o l.length ∧ okL l := hk
    have ht : (v.s.size ≤ 400 ∧ nm.size ≤ 400) ∧ txL l := ht
    have h := prtL_size l hk.2.2 ht.2
    have h2 := prC_size (o := o) (no := no) (l := prt.prtL l) (v := v) (nm := nm) ⟨hk.1, ht.1.1⟩ ht.1.2
    show (prC o no v nm (prt.prtL l)).size + 20 ≤ 3000 * (szL l + 1)
    omega
theorem prtL_size : ∀ (l : List Ex), okL l → txL l → sumS (prt.prtL l) ≤ 3000 * szL l
  | [], _, _ => Nat.zero_le _
  | e :: l, hk, ht => by
    have hk : okE e ∧ okL l := hk
    have ht : txE e ∧ txL l := ht
    have h1 := prt_size e hk.1 ht.1
    have h2 := prtL_size l hk.2 ht.2
    show (prt e).size + 20 + sumS (prt.prtL l) ≤ 3000 * (szE e + szL l)
    omega
end
theorem prt_fair {e : Ex} (hg : gdE e) (ht : txE e) : (prt e).size ≤ 3000000 := by
  have h := prt_size e hg.ok ht
  have h2 := hg.sz
  omega
end Go.Proofs.YtmaekkhmiafnmaaGreatDoor
