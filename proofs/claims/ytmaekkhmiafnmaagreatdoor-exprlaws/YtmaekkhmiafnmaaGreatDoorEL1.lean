import Derived.Test.YtmaekkhmiafnmaaGreatDoorET1
import Derived.Test.YtmaekkhmiafnmaaGreatDoorVDec2
namespace Go.Proofs.YtmaekkhmiafnmaaGreatDoor
open Go Go.Lib
def cs6 : List (ByteArray × Int) := [(⟨#[97]⟩, 1), (⟨#[98]⟩, 1), (⟨#[115]⟩, 2), (⟨#[116]⟩, 2), (⟨#[112]⟩, 3), (⟨#[113]⟩, 3)]
def i64I (n : Int) : Prop := -9223372036854775808 ≤ n ∧ n ≤ 9223372036854775807
def IntF (v : Val) : Prop := v = zV ∨ ∃ n, v = inV n ∧ i64I n
def TxtF (v : Val) : Prop := v = zV ∨ ∃ x, v = txV x ∧ x.size ≤ 200
def BooF (v : Val) : Prop := v = zV ∨ v = tr true ∨ v = tr false
structure Row6 (r : List Val) : Prop where
  ex : ∃ a b s t p q, r = [a, b, s, t, p, q] ∧ IntF a ∧ IntF b ∧ TxtF s ∧ TxtF t ∧ BooF p ∧ BooF q
theorem IntF.fit {v : Val} (h : IntF v) : fitE v 1 true = 0 := by
  rcases h with rfl | ⟨n, rfl, _⟩
  · decide
  · have hw : wrg (inV n) = 0 := by unfold wrg; rw [if_pos (show frm (inV n) from Or.inr (Or.inl ⟨rfl, rfl⟩))]; rfl
    unfold fitE; rw [hw]; rfl
theorem TxtF.fit {v : Val} (h : TxtF v) : fitE v 2 true = 0 := by
  rcases h with rfl | ⟨n, rfl, hs⟩
  · decide
  · have hw : wrg (txV n) = 0 := by unfold wrg; rw [if_pos (show frm (txV n) from Or.inr (Or.inr (Or.inl ⟨rfl, rfl⟩))), if_pos (show (txV n).s.size ≤ 200 from hs)]
    unfold fitE; rw [hw]; rfl
theorem BooF.fit {v : Val} (h : BooF v) : fitE v 3 true = 0 := by
  rcases h with rfl | rfl | rfl <;> decide
theorem Row6.suits {r : List Val} (h : Row6 r) (l : List ByteArray) : sutE cs6 r l = true := by
  obtain ⟨a, b, s, t, p, q, rfl, ha, hb, hs, ht, hp, hq⟩ := h.ex
  unfold sutE
  rw [List.all_eq_true]
  intro nm _
  cases hi : plc cs6 nm with
  | none => rfl
  | some i =>
    have hl : i < cs6.length := by
      unfold plc at hi
      rw [List.findIdx?_eq_some_iff_getElem] at hi
      exact hi.1
    have h6 : cs6.length = 6 := rfl
    rw [h6] at hl
    simp only [decide_eq_true_eq]
    rcases (show i = 0 ∨ i = 1 ∨ i = 2 ∨ i = 3 ∨ i = 4 ∨ i = 5 by omega) with rfl | rfl | rfl | rfl | rfl | rfl
    · exact ha.fit
    · exact hb.fit
    · exact hs.fit
    · exact ht.fit
    · exact hp.fit
    · exact hq.fit
theorem Row6.rh {r : List Val} (h : Row6 r) : ∃ a b s t p q, r = [a, b, s, t, p, q] ∧ IntF a ∧ IntF b ∧ TxtF s ∧ TxtF t ∧ BooF p ∧ BooF q ∧ rho cs6 r ⟨#[97]⟩ = a ∧ rho cs6 r ⟨#[98]⟩ = b ∧ rho cs6 r ⟨#[115]⟩ = s ∧ rho cs6 r ⟨#[116]⟩ = t ∧ rho cs6 r ⟨#[112]⟩ = p ∧ rho cs6 r ⟨#[113]⟩ = q := by
  obtain ⟨a, b, s, t, p, q, rfl, ha, hb, hs, ht, hp, hq⟩ := h.ex
  exact ⟨a, b, s, t, p, q, rfl, ha, hb, hs, ht, hp, hq, rfl, rfl, rfl, rfl, rfl, rfl⟩
theorem Row6.ev {r : List Val} (h : Row6 r) {e : Ex} (hc : (chk cs6 e).2 = 0) : evE cs6 r e = wrk (rho cs6 r) e := by
  have hl : r.length = cs6.length := by
    obtain ⟨a, b, s, t, p, q, rfl, _⟩ := h.ex
    rfl
  unfold evE
  rw [if_neg (by rw [hc]; simp), if_neg (by rw [hl]; simp), if_pos (h.suits _)]
def eL0 : Ex := Ex.mk 4 false zV ⟨#[]⟩ [Ex.mk 3 false zV ⟨#[]⟩ [colE ⟨#[112]⟩, colE ⟨#[113]⟩]]
def sL0 : ByteArray := ⟨#[110, 111, 116, 32, 40, 112, 32, 97, 110, 100, 32, 113, 41]⟩
theorem pL0 : parE sL0 = (some eL0, 0, 0) := by kernel_rfl
theorem cL0 : (chk cs6 eL0).2 = 0 := by decide +kernel
def eL1 : Ex := Ex.mk 2 false zV ⟨#[]⟩ [Ex.mk 4 false zV ⟨#[]⟩ [colE ⟨#[112]⟩], Ex.mk 4 false zV ⟨#[]⟩ [colE ⟨#[113]⟩]]
def sL1 : ByteArray := ⟨#[110, 111, 116, 32, 112, 32, 111, 114, 32, 110, 111, 116, 32, 113]⟩
theorem pL1 : parE sL1 = (some eL1, 0, 0) := by kernel_rfl
theorem cL1 : (chk cs6 eL1).2 = 0 := by decide +kernel
def eL2 : Ex := Ex.mk 4 false zV ⟨#[]⟩ [Ex.mk 2 false zV ⟨#[]⟩ [colE ⟨#[112]⟩, colE ⟨#[113]⟩]]
def sL2 : ByteArray := ⟨#[110, 111, 116, 32, 40, 112, 32, 111, 114, 32, 113, 41]⟩
theorem pL2 : parE sL2 = (some eL2, 0, 0) := by kernel_rfl
theorem cL2 : (chk cs6 eL2).2 = 0 := by decide +kernel
def eL3 : Ex := Ex.mk 3 false zV ⟨#[]⟩ [Ex.mk 4 false zV ⟨#[]⟩ [colE ⟨#[112]⟩], Ex.mk 4 false zV ⟨#[]⟩ [colE ⟨#[113]⟩]]
def sL3 : ByteArray := ⟨#[110, 111, 116, 32, 112, 32, 97, 110, 100, 32, 110, 111, 116, 32, 113]⟩
theorem pL3 : parE sL3 = (some eL3, 0, 0) := by kernel_rfl
theorem cL3 : (chk cs6 eL3).2 = 0 := by decide +kernel
def eL4 : Ex := Ex.mk 3 false zV ⟨#[]⟩ [colE ⟨#[112]⟩, colE ⟨#[113]⟩]
def sL4 : ByteArray := ⟨#[112, 32, 97, 110, 100, 32, 113]⟩
theorem pL4 : parE sL4 = (some eL4, 0, 0) := by kernel_rfl
theorem cL4 : (chk cs6 eL4).2 = 0 := by decide +kernel
def eL5 : Ex := Ex.mk 3 false zV ⟨#[]⟩ [colE ⟨#[113]⟩, colE ⟨#[112]⟩]
def sL5 : ByteArray := ⟨#[113, 32, 97, 110, 100, 32, 112]⟩
theorem pL5 : parE sL5 = (some eL5, 0, 0) := by kernel_rfl
theorem cL5 : (chk cs6 eL5).2 = 0 := by decide +kernel
def eL6 : Ex := Ex.mk 2 false zV ⟨#[]⟩ [colE ⟨#[112]⟩, colE ⟨#[113]⟩]
def sL6 : ByteArray := ⟨#[112, 32, 111, 114, 32, 113]⟩
theorem pL6 : parE sL6 = (some eL6, 0, 0) := by kernel_rfl
theorem cL6 : (chk cs6 eL6).2 = 0 := by decide +kernel
def eL7 : Ex := Ex.mk 2 false zV ⟨#[]⟩ [colE ⟨#[113]⟩, colE ⟨#[112]⟩]
def sL7 : ByteArray := ⟨#[113, 32, 111, 114, 32, 112]⟩
theorem pL7 : parE sL7 = (some eL7, 0, 0) := by kernel_rfl
theorem cL7 : (chk cs6 eL7).2 = 0 := by decide +kernel
def eL8 : Ex := Ex.mk 4 false zV ⟨#[]⟩ [Ex.mk 4 false zV ⟨#[]⟩ [colE ⟨#[112]⟩]]
def sL8 : ByteArray := ⟨#[110, 111, 116, 32, 110, 111, 116, 32, 112]⟩
theorem pL8 : parE sL8 = (some eL8, 0, 0) := by kernel_rfl
theorem cL8 : (chk cs6 eL8).2 = 0 := by decide +kernel
def eL9 : Ex := colE ⟨#[112]⟩
def sL9 : ByteArray := ⟨#[112]⟩
theorem pL9 : parE sL9 = (some eL9, 0, 0) := by kernel_rfl
theorem cL9 : (chk cs6 eL9).2 = 0 := by decide +kernel
def eL10 : Ex := Ex.mk 7 false zV ⟨#[]⟩ [colE ⟨#[97]⟩, colE ⟨#[98]⟩]
def sL10 : ByteArray := ⟨#[97, 32, 60, 32, 98]⟩
theorem pL10 : parE sL10 = (some eL10, 0, 0) := by kernel_rfl
theorem cL10 : (chk cs6 eL10).2 = 0 := by decide +kernel
def eL11 : Ex := Ex.mk 9 false zV ⟨#[]⟩ [colE ⟨#[98]⟩, colE ⟨#[97]⟩]
def sL11 : ByteArray := ⟨#[98, 32, 62, 32, 97]⟩
theorem pL11 : parE sL11 = (some eL11, 0, 0) := by kernel_rfl
theorem cL11 : (chk cs6 eL11).2 = 0 := by decide +kernel
def eL12 : Ex := Ex.mk 8 false zV ⟨#[]⟩ [colE ⟨#[97]⟩, colE ⟨#[98]⟩]
def sL12 : ByteArray := ⟨#[97, 32, 60, 61, 32, 98]⟩
theorem pL12 : parE sL12 = (some eL12, 0, 0) := by kernel_rfl
theorem cL12 : (chk cs6 eL12).2 = 0 := by decide +kernel
def eL13 : Ex := Ex.mk 4 false zV ⟨#[]⟩ [Ex.mk 9 false zV ⟨#[]⟩ [colE ⟨#[97]⟩, colE ⟨#[98]⟩]]
def sL13 : ByteArray := ⟨#[110, 111, 116, 32, 97, 32, 62, 32, 98]⟩
theorem pL13 : parE sL13 = (some eL13, 0, 0) := by kernel_rfl
theorem cL13 : (chk cs6 eL13).2 = 0 := by decide +kernel
def eL14 : Ex := Ex.mk 6 false zV ⟨#[]⟩ [colE ⟨#[97]⟩, colE ⟨#[98]⟩]
def sL14 : ByteArray := ⟨#[97, 32, 60, 62, 32, 98]⟩
theorem pL14 : parE sL14 = (some eL14, 0, 0) := by kernel_rfl
theorem cL14 : (chk cs6 eL14).2 = 0 := by decide +kernel
def eL15 : Ex := Ex.mk 4 false zV ⟨#[]⟩ [Ex.mk 5 false zV ⟨#[]⟩ [colE ⟨#[97]⟩, colE ⟨#[98]⟩]]
def sL15 : ByteArray := ⟨#[110, 111, 116, 32, 97, 32, 61, 32, 98]⟩
theorem pL15 : parE sL15 = (some eL15, 0, 0) := by kernel_rfl
theorem cL15 : (chk cs6 eL15).2 = 0 := by decide +kernel
def eL16 : Ex := Ex.mk 5 false zV ⟨#[]⟩ [colE ⟨#[97]⟩, colE ⟨#[98]⟩]
def sL16 : ByteArray := ⟨#[97, 32, 61, 32, 98]⟩
theorem pL16 : parE sL16 = (some eL16, 0, 0) := by kernel_rfl
theorem cL16 : (chk cs6 eL16).2 = 0 := by decide +kernel
def eL17 : Ex := Ex.mk 3 false zV ⟨#[]⟩ [Ex.mk 10 false zV ⟨#[]⟩ [colE ⟨#[97]⟩, colE ⟨#[98]⟩], Ex.mk 8 false zV ⟨#[]⟩ [colE ⟨#[97]⟩, colE ⟨#[98]⟩]]
def sL17 : ByteArray := ⟨#[97, 32, 62, 61, 32, 98, 32, 97, 110, 100, 32, 97, 32, 60, 61, 32, 98]⟩
theorem pL17 : parE sL17 = (some eL17, 0, 0) := by kernel_rfl
theorem cL17 : (chk cs6 eL17).2 = 0 := by decide +kernel
def eL18 : Ex := Ex.mk 7 false zV ⟨#[]⟩ [colE ⟨#[115]⟩, colE ⟨#[116]⟩]
def sL18 : ByteArray := ⟨#[115, 32, 60, 32, 116]⟩
theorem pL18 : parE sL18 = (some eL18, 0, 0) := by kernel_rfl
theorem cL18 : (chk cs6 eL18).2 = 0 := by decide +kernel
def eL19 : Ex := Ex.mk 9 false zV ⟨#[]⟩ [colE ⟨#[116]⟩, colE ⟨#[115]⟩]
def sL19 : ByteArray := ⟨#[116, 32, 62, 32, 115]⟩
theorem pL19 : parE sL19 = (some eL19, 0, 0) := by kernel_rfl
theorem cL19 : (chk cs6 eL19).2 = 0 := by decide +kernel
def eL20 : Ex := Ex.mk 13 false zV ⟨#[]⟩ [colE ⟨#[97]⟩, colE ⟨#[98]⟩, litE ⟨1, 5, ⟨#[]⟩⟩]
def sL20 : ByteArray := ⟨#[97, 32, 98, 101, 116, 119, 101, 101, 110, 32, 98, 32, 97, 110, 100, 32, 53]⟩
theorem pL20 : parE sL20 = (some eL20, 0, 0) := by kernel_rfl
theorem cL20 : (chk cs6 eL20).2 = 0 := by decide +kernel
def eL21 : Ex := Ex.mk 3 false zV ⟨#[]⟩ [Ex.mk 10 false zV ⟨#[]⟩ [colE ⟨#[97]⟩, colE ⟨#[98]⟩], Ex.mk 8 false zV ⟨#[]⟩ [colE ⟨#[97]⟩, litE ⟨1, 5, ⟨#[]⟩⟩]]
def sL21 : ByteArray := ⟨#[97, 32, 62, 61, 32, 98, 32, 97, 110, 100, 32, 97, 32, 60, 61, 32, 53]⟩
theorem pL21 : parE sL21 = (some eL21, 0, 0) := by kernel_rfl
theorem cL21 : (chk cs6 eL21).2 = 0 := by decide +kernel
def eL22 : Ex := Ex.mk 13 true zV ⟨#[]⟩ [colE ⟨#[97]⟩, colE ⟨#[98]⟩, litE ⟨1, 5, ⟨#[]⟩⟩]
def sL22 : ByteArray := ⟨#[97, 32, 110, 111, 116, 32, 98, 101, 116, 119, 101, 101, 110, 32, 98, 32, 97, 110, 100, 32, 53]⟩
theorem pL22 : parE sL22 = (some eL22, 0, 0) := by kernel_rfl
theorem cL22 : (chk cs6 eL22).2 = 0 := by decide +kernel
def eL23 : Ex := Ex.mk 2 false zV ⟨#[]⟩ [Ex.mk 7 false zV ⟨#[]⟩ [colE ⟨#[97]⟩, colE ⟨#[98]⟩], Ex.mk 9 false zV ⟨#[]⟩ [colE ⟨#[97]⟩, litE ⟨1, 5, ⟨#[]⟩⟩]]
def sL23 : ByteArray := ⟨#[97, 32, 60, 32, 98, 32, 111, 114, 32, 97, 32, 62, 32, 53]⟩
theorem pL23 : parE sL23 = (some eL23, 0, 0) := by kernel_rfl
theorem cL23 : (chk cs6 eL23).2 = 0 := by decide +kernel
def eL24 : Ex := Ex.mk 12 false zV ⟨#[]⟩ [colE ⟨#[97]⟩, colE ⟨#[98]⟩, litE ⟨1, 5, ⟨#[]⟩⟩]
def sL24 : ByteArray := ⟨#[97, 32, 105, 110, 32, 40, 98, 44, 32, 53, 41]⟩
theorem pL24 : parE sL24 = (some eL24, 0, 0) := by kernel_rfl
theorem cL24 : (chk cs6 eL24).2 = 0 := by decide +kernel
def eL25 : Ex := Ex.mk 2 false zV ⟨#[]⟩ [Ex.mk 5 false zV ⟨#[]⟩ [colE ⟨#[97]⟩, colE ⟨#[98]⟩], Ex.mk 5 false zV ⟨#[]⟩ [colE ⟨#[97]⟩, litE ⟨1, 5, ⟨#[]⟩⟩]]
def sL25 : ByteArray := ⟨#[97, 32, 61, 32, 98, 32, 111, 114, 32, 97, 32, 61, 32, 53]⟩
theorem pL25 : parE sL25 = (some eL25, 0, 0) := by kernel_rfl
theorem cL25 : (chk cs6 eL25).2 = 0 := by decide +kernel
def eL26 : Ex := Ex.mk 12 true zV ⟨#[]⟩ [colE ⟨#[97]⟩, colE ⟨#[98]⟩, litE ⟨1, 5, ⟨#[]⟩⟩]
def sL26 : ByteArray := ⟨#[97, 32, 110, 111, 116, 32, 105, 110, 32, 40, 98, 44, 32, 53, 41]⟩
theorem pL26 : parE sL26 = (some eL26, 0, 0) := by kernel_rfl
theorem cL26 : (chk cs6 eL26).2 = 0 := by decide +kernel
def eL27 : Ex := Ex.mk 3 false zV ⟨#[]⟩ [Ex.mk 6 false zV ⟨#[]⟩ [colE ⟨#[97]⟩, colE ⟨#[98]⟩], Ex.mk 6 false zV ⟨#[]⟩ [colE ⟨#[97]⟩, litE ⟨1, 5, ⟨#[]⟩⟩]]
def sL27 : ByteArray := ⟨#[97, 32, 60, 62, 32, 98, 32, 97, 110, 100, 32, 97, 32, 60, 62, 32, 53]⟩
theorem pL27 : parE sL27 = (some eL27, 0, 0) := by kernel_rfl
theorem cL27 : (chk cs6 eL27).2 = 0 := by decide +kernel
def eL28 : Ex := Ex.mk 29 false zV ⟨#[]⟩ [colE ⟨#[97]⟩, colE ⟨#[98]⟩]
def sL28 : ByteArray := ⟨#[99, 111, 97, 108, 101, 115, 99, 101, 40, 97, 44, 32, 98, 41]⟩
theorem pL28 : parE sL28 = (some eL28, 0, 0) := by kernel_rfl
theorem cL28 : (chk cs6 eL28).2 = 0 := by decide +kernel
def eL29 : Ex := Ex.mk 22 false zV ⟨#[]⟩ [Ex.mk 11 true zV ⟨#[]⟩ [colE ⟨#[97]⟩], colE ⟨#[97]⟩, colE ⟨#[98]⟩]
def sL29 : ByteArray := ⟨#[99, 97, 115, 101, 32, 119, 104, 101, 110, 32, 97, 32, 105, 115, 32, 110, 111, 116, 32, 110, 117, 108, 108, 32, 116, 104, 101, 110, 32, 97, 32, 101, 108, 115, 101, 32, 98, 32, 101, 110, 100]⟩
theorem pL29 : parE sL29 = (some eL29, 0, 0) := by kernel_rfl
theorem cL29 : (chk cs6 eL29).2 = 0 := by decide +kernel
def eL30 : Ex := Ex.mk 27 false zV ⟨#[]⟩ [colE ⟨#[97]⟩, colE ⟨#[98]⟩]
def sL30 : ByteArray := ⟨#[110, 117, 108, 108, 105, 102, 40, 97, 44, 32, 98, 41]⟩
theorem pL30 : parE sL30 = (some eL30, 0, 0) := by kernel_rfl
theorem cL30 : (chk cs6 eL30).2 = 0 := by decide +kernel
def eL31 : Ex := Ex.mk 22 false zV ⟨#[]⟩ [Ex.mk 5 false zV ⟨#[]⟩ [colE ⟨#[97]⟩, colE ⟨#[98]⟩], litE ⟨0, 0, ⟨#[]⟩⟩, colE ⟨#[97]⟩]
def sL31 : ByteArray := ⟨#[99, 97, 115, 101, 32, 119, 104, 101, 110, 32, 97, 32, 61, 32, 98, 32, 116, 104, 101, 110, 32, 110, 117, 108, 108, 32, 101, 108, 115, 101, 32, 97, 32, 101, 110, 100]⟩
theorem pL31 : parE sL31 = (some eL31, 0, 0) := by kernel_rfl
theorem cL31 : (chk cs6 eL31).2 = 0 := by decide +kernel
def eL32 : Ex := Ex.mk 11 false zV ⟨#[]⟩ [colE ⟨#[97]⟩]
def sL32 : ByteArray := ⟨#[97, 32, 105, 115, 32, 110, 117, 108, 108]⟩
theorem pL32 : parE sL32 = (some eL32, 0, 0) := by kernel_rfl
theorem cL32 : (chk cs6 eL32).2 = 0 := by decide +kernel
def eL33 : Ex := Ex.mk 4 false zV ⟨#[]⟩ [Ex.mk 11 true zV ⟨#[]⟩ [colE ⟨#[97]⟩]]
def sL33 : ByteArray := ⟨#[110, 111, 116, 32, 97, 32, 105, 115, 32, 110, 111, 116, 32, 110, 117, 108, 108]⟩
theorem pL33 : parE sL33 = (some eL33, 0, 0) := by kernel_rfl
theorem cL33 : (chk cs6 eL33).2 = 0 := by decide +kernel
def eL34 : Ex := Ex.mk 30 false zV ⟨#[]⟩ [colE ⟨#[97]⟩, colE ⟨#[98]⟩]
def sL34 : ByteArray := ⟨#[103, 114, 101, 97, 116, 101, 115, 116, 40, 97, 44, 32, 98, 41]⟩
theorem pL34 : parE sL34 = (some eL34, 0, 0) := by kernel_rfl
theorem cL34 : (chk cs6 eL34).2 = 0 := by decide +kernel
def eL35 : Ex := Ex.mk 22 false zV ⟨#[]⟩ [Ex.mk 10 false zV ⟨#[]⟩ [colE ⟨#[97]⟩, colE ⟨#[98]⟩], colE ⟨#[97]⟩, Ex.mk 9 false zV ⟨#[]⟩ [colE ⟨#[98]⟩, colE ⟨#[97]⟩], colE ⟨#[98]⟩]
def sL35 : ByteArray := ⟨#[99, 97, 115, 101, 32, 119, 104, 101, 110, 32, 97, 32, 62, 61, 32, 98, 32, 116, 104, 101, 110, 32, 97, 32, 119, 104, 101, 110, 32, 98, 32, 62, 32, 97, 32, 116, 104, 101, 110, 32, 98, 32, 101, 110, 100]⟩
theorem pL35 : parE sL35 = (some eL35, 0, 0) := by kernel_rfl
theorem cL35 : (chk cs6 eL35).2 = 0 := by decide +kernel
def eL36 : Ex := Ex.mk 31 false zV ⟨#[]⟩ [colE ⟨#[115]⟩, colE ⟨#[116]⟩]
def sL36 : ByteArray := ⟨#[108, 101, 97, 115, 116, 40, 115, 44, 32, 116, 41]⟩
theorem pL36 : parE sL36 = (some eL36, 0, 0) := by kernel_rfl
theorem cL36 : (chk cs6 eL36).2 = 0 := by decide +kernel
def eL37 : Ex := Ex.mk 22 false zV ⟨#[]⟩ [Ex.mk 8 false zV ⟨#[]⟩ [colE ⟨#[115]⟩, colE ⟨#[116]⟩], colE ⟨#[115]⟩, Ex.mk 7 false zV ⟨#[]⟩ [colE ⟨#[116]⟩, colE ⟨#[115]⟩], colE ⟨#[116]⟩]
def sL37 : ByteArray := ⟨#[99, 97, 115, 101, 32, 119, 104, 101, 110, 32, 115, 32, 60, 61, 32, 116, 32, 116, 104, 101, 110, 32, 115, 32, 119, 104, 101, 110, 32, 116, 32, 60, 32, 115, 32, 116, 104, 101, 110, 32, 116, 32, 101, 110, 100]⟩
theorem pL37 : parE sL37 = (some eL37, 0, 0) := by kernel_rfl
theorem cL37 : (chk cs6 eL37).2 = 0 := by decide +kernel
def eL38 : Ex := Ex.mk 14 false zV ⟨#[]⟩ [colE ⟨#[115]⟩, litE ⟨2, 0, ⟨#[37]⟩⟩]
def sL38 : ByteArray := ⟨#[115, 32, 108, 105, 107, 101, 32, 39, 37, 39]⟩
theorem pL38 : parE sL38 = (some eL38, 0, 0) := by kernel_rfl
theorem cL38 : (chk cs6 eL38).2 = 0 := by decide +kernel
def eL39 : Ex := Ex.mk 5 false zV ⟨#[]⟩ [colE ⟨#[115]⟩, colE ⟨#[115]⟩]
def sL39 : ByteArray := ⟨#[115, 32, 61, 32, 115]⟩
theorem pL39 : parE sL39 = (some eL39, 0, 0) := by kernel_rfl
theorem cL39 : (chk cs6 eL39).2 = 0 := by decide +kernel
def eL40 : Ex := Ex.mk 14 false zV ⟨#[]⟩ [colE ⟨#[115]⟩, Ex.mk 15 false zV ⟨#[]⟩ [colE ⟨#[115]⟩, litE ⟨2, 0, ⟨#[]⟩⟩]]
def sL40 : ByteArray := ⟨#[115, 32, 108, 105, 107, 101, 32, 115, 32, 124, 124, 32, 39, 39]⟩
theorem pL40 : parE sL40 = (some eL40, 0, 0) := by kernel_rfl
theorem cL40 : (chk cs6 eL40).2 = 0 := by decide +kernel
def eL41 : Ex := Ex.mk 14 false zV ⟨#[]⟩ [colE ⟨#[115]⟩, colE ⟨#[115]⟩]
def sL41 : ByteArray := ⟨#[115, 32, 108, 105, 107, 101, 32, 115]⟩
theorem pL41 : parE sL41 = (some eL41, 0, 0) := by kernel_rfl
theorem cL41 : (chk cs6 eL41).2 = 0 := by decide +kernel
def eL42 : Ex := Ex.mk 3 false zV ⟨#[]⟩ [Ex.mk 5 false zV ⟨#[]⟩ [colE ⟨#[115]⟩, colE ⟨#[116]⟩], Ex.mk 5 false zV ⟨#[]⟩ [colE ⟨#[116]⟩, colE ⟨#[115]⟩]]
def sL42 : ByteArray := ⟨#[115, 32, 61, 32, 116, 32, 97, 110, 100, 32, 116, 32, 61, 32, 115]⟩
theorem pL42 : parE sL42 = (some eL42, 0, 0) := by kernel_rfl
theorem cL42 : (chk cs6 eL42).2 = 0 := by decide +kernel
def eL43 : Ex := Ex.mk 5 false zV ⟨#[]⟩ [colE ⟨#[115]⟩, colE ⟨#[116]⟩]
def sL43 : ByteArray := ⟨#[115, 32, 61, 32, 116]⟩
theorem pL43 : parE sL43 = (some eL43, 0, 0) := by kernel_rfl
theorem cL43 : (chk cs6 eL43).2 = 0 := by decide +kernel
def eL44 : Ex := Ex.mk 23 false zV ⟨#[]⟩ [Ex.mk 25 false zV ⟨#[]⟩ [colE ⟨#[115]⟩]]
def sL44 : ByteArray := ⟨#[108, 101, 110, 103, 116, 104, 40, 117, 112, 112, 101, 114, 40, 115, 41, 41]⟩
theorem pL44 : parE sL44 = (some eL44, 0, 0) := by kernel_rfl
theorem cL44 : (chk cs6 eL44).2 = 0 := by decide +kernel
def eL45 : Ex := Ex.mk 23 false zV ⟨#[]⟩ [Ex.mk 26 false zV ⟨#[]⟩ [colE ⟨#[115]⟩]]
def sL45 : ByteArray := ⟨#[108, 101, 110, 103, 116, 104, 40, 108, 111, 119, 101, 114, 40, 115, 41, 41]⟩
theorem pL45 : parE sL45 = (some eL45, 0, 0) := by kernel_rfl
theorem cL45 : (chk cs6 eL45).2 = 0 := by decide +kernel
def eL46 : Ex := Ex.mk 25 false zV ⟨#[]⟩ [Ex.mk 26 false zV ⟨#[]⟩ [Ex.mk 25 false zV ⟨#[]⟩ [colE ⟨#[115]⟩]]]
def sL46 : ByteArray := ⟨#[117, 112, 112, 101, 114, 40, 108, 111, 119, 101, 114, 40, 117, 112, 112, 101, 114, 40, 115, 41, 41, 41]⟩
theorem pL46 : parE sL46 = (some eL46, 0, 0) := by kernel_rfl
theorem cL46 : (chk cs6 eL46).2 = 0 := by decide +kernel
def eL47 : Ex := Ex.mk 25 false zV ⟨#[]⟩ [colE ⟨#[115]⟩]
def sL47 : ByteArray := ⟨#[117, 112, 112, 101, 114, 40, 115, 41]⟩
theorem pL47 : parE sL47 = (some eL47, 0, 0) := by kernel_rfl
theorem cL47 : (chk cs6 eL47).2 = 0 := by decide +kernel
def eL48 : Ex := Ex.mk 28 false zV ⟨#[]⟩ [colE ⟨#[115]⟩, litE ⟨1, 1, ⟨#[]⟩⟩, Ex.mk 23 false zV ⟨#[]⟩ [colE ⟨#[115]⟩]]
def sL48 : ByteArray := ⟨#[115, 117, 98, 115, 116, 114, 40, 115, 44, 32, 49, 44, 32, 108, 101, 110, 103, 116, 104, 40, 115, 41, 41]⟩
theorem pL48 : parE sL48 = (some eL48, 0, 0) := by kernel_rfl
theorem cL48 : (chk cs6 eL48).2 = 0 := by decide +kernel
def eL49 : Ex := colE ⟨#[115]⟩
def sL49 : ByteArray := ⟨#[115]⟩
theorem pL49 : parE sL49 = (some eL49, 0, 0) := by kernel_rfl
theorem cL49 : (chk cs6 eL49).2 = 0 := by decide +kernel
def eL50 : Ex := Ex.mk 16 false zV ⟨#[]⟩ [Ex.mk 18 false zV ⟨#[]⟩ [Ex.mk 19 false zV ⟨#[]⟩ [colE ⟨#[97]⟩, colE ⟨#[98]⟩], colE ⟨#[98]⟩], Ex.mk 20 false zV ⟨#[]⟩ [colE ⟨#[97]⟩, colE ⟨#[98]⟩]]
def sL50 : ByteArray := ⟨#[97, 32, 47, 32, 98, 32, 42, 32, 98, 32, 43, 32, 97, 32, 37, 32, 98]⟩
theorem pL50 : parE sL50 = (some eL50, 0, 0) := by kernel_rfl
theorem cL50 : (chk cs6 eL50).2 = 0 := by decide +kernel
def eL51 : Ex := Ex.mk 16 false zV ⟨#[]⟩ [litE ⟨1, 1, ⟨#[]⟩⟩, Ex.mk 18 false zV ⟨#[]⟩ [litE ⟨1, 2, ⟨#[]⟩⟩, colE ⟨#[97]⟩]]
def sL51 : ByteArray := ⟨#[49, 43, 50, 42, 97]⟩
theorem pL51 : parE sL51 = (some eL51, 0, 0) := by kernel_rfl
theorem cL51 : (chk cs6 eL51).2 = 0 := by decide +kernel
end Go.Proofs.YtmaekkhmiafnmaaGreatDoor
namespace Go.Proofs.YtmaekkhmiafnmaaGreatDoor
open Go Go.Lib
theorem cmp_i (n m : Int) : cmpV (inV n) (inV m) = if n < m then -1 else if m < n then 1 else 0 := by
  unfold cmpV
  rw [if_neg (by simp [inV]), if_neg (by simp [inV])]
  by_cases e : n = m
  · subst e
    rw [if_neg (by simp [inV]), if_neg (by omega), if_neg (by omega)]
    rfl
  · rw [if_pos (by simpa [inV] using e)]
    show compareInt n m = _
    unfold compareInt
    rfl
theorem cmp_t (x y : ByteArray) : cmpV (txV x) (txV y) = compareBytes x.data.toList y.data.toList := by
  unfold cmpV
  rw [if_neg (by simp [txV]), if_neg (by simp [txV]), if_neg (by simp [txV])]
  rfl
theorem cmp_i3 (n m : Int) : (cmpV (inV n) (inV m) = -1 ∧ cmpV (inV m) (inV n) = 1 ∧ n ≠ m) ∨ (cmpV (inV n) (inV m) = 0 ∧ cmpV (inV m) (inV n) = 0 ∧ n = m) ∨ (cmpV (inV n) (inV m) = 1 ∧ cmpV (inV m) (inV n) = -1 ∧ n ≠ m) := by
  rw [cmp_i, cmp_i]
  rcases Int.lt_trichotomy n m with hl | hl | hl
  · exact Or.inl ⟨by rw [if_pos hl], by rw [if_neg (by omega), if_pos hl], by omega⟩
  · exact Or.inr (Or.inl ⟨by rw [if_neg (by omega), if_neg (by omega)], by rw [if_neg (by omega), if_neg (by omega)], hl⟩)
  · exact Or.inr (Or.inr ⟨by rw [if_neg (by omega), if_pos hl], by rw [if_pos hl], by omega⟩)
theorem cmp_t3 (x y : ByteArray) : (cmpV (txV x) (txV y) = -1 ∧ cmpV (txV y) (txV x) = 1 ∧ x ≠ y) ∨ (cmpV (txV x) (txV y) = 0 ∧ cmpV (txV y) (txV x) = 0 ∧ x = y) ∨ (cmpV (txV x) (txV y) = 1 ∧ cmpV (txV y) (txV x) = -1 ∧ x ≠ y) := by
  rw [cmp_t, cmp_t]
  have hn := compareBytes_neg x.data.toList y.data.toList
  have hr : ∀ z, compareBytes z z = 0 := compareBytes_refl
  rcases compareBytes_rng x.data.toList y.data.toList with hl | hl | hl
  · exact Or.inl ⟨hl, by omega, fun e => by rw [e, hr] at hl; omega⟩
  · refine Or.inr (Or.inl ⟨hl, by omega, ?_⟩)
    have := compareBytes_eq hl
    apply ByteArray.ext
    exact Array.toList_inj.1 this
  · exact Or.inr (Or.inr ⟨hl, by omega, fun e => by rw [e, hr] at hl; omega⟩)
theorem lk_all : ∀ l : List UInt8, lkM l [37] = true
  | [] => by unfold lkM; rw [if_pos (by decide)]; unfold lkM.lkA; unfold lkM; rfl
  | b :: l => by
    have ih := lk_all l
    unfold lkM at ih ⊢
    rw [if_pos (by decide)] at ih ⊢
    unfold lkM.lkA
    rw [ih, Bool.or_true]
theorem rsz_len (x : ByteArray) (c d : Nat) : (rszV x c d).s.size = x.size := by
  show (List.map (rszB c d) x.data.toList).toArray.size = x.data.size
  simp
theorem rsz_ulu (b : UInt8) : rszB 97 65 (rszB 65 97 (rszB 97 65 b)) = rszB 97 65 b := by
  have h := b.toNat_lt
  have key : ∀ k : Fin 256, rszB 97 65 (rszB 65 97 (rszB 97 65 (UInt8.ofNat k.val))) = rszB 97 65 (UInt8.ofNat k.val) := by decide +kernel
  have e := key ⟨b.toNat, h⟩
  have hb : UInt8.ofNat b.toNat = b := UInt8.ofNat_toNat
  rw [show (⟨b.toNat, h⟩ : Fin 256).val = b.toNat from rfl, hb] at e
  exact e
theorem rsz_ulu3 (x : ByteArray) : rszV (rszV (rszV x 97 65).s 65 97).s 97 65 = rszV x 97 65 := by
  unfold rszV txV
  simp only [List.map_map]
  congr 3
  apply List.map_congr_left
  intro b _
  exact rsz_ulu b
theorem cut_all (x : ByteArray) : cutV x 1 x.size = (txV x, 0) := by
  unfold cutV
  rw [if_neg (by omega)]
  have e : ((x.data.toList.drop ((1 : Int) - 1).toNat).take ((x.size : Nat) : Int).toNat).toArray = x.data := by
    have h1 : ((1 : Int) - 1).toNat = 0 := rfl
    have h2 : ((x.size : Nat) : Int).toNat = x.data.toList.length := by rw [Int.toNat_natCast, Array.length_toList]; rfl
    rw [h1, h2, List.drop_zero, List.take_length]
  rw [e]
theorem joi_nil (x : ByteArray) (h : x.size ≤ 200) : joiV x ⟨#[]⟩ = (txV x, 0) := by
  unfold joiV
  have h0 : (⟨#[]⟩ : ByteArray).size = 0 := rfl
  rw [h0, if_neg (by omega)]
  have e : x ++ (⟨#[]⟩ : ByteArray) = x := by
    apply ByteArray.ext
    simp
  rw [e]
def Alk (ρ : ByteArray → Val) (e f : Ex) : Prop := wrk ρ e = wrk ρ f ∧ (wrk ρ e).2 = 0
theorem w_col (ρ : ByteArray → Val) (nm : ByteArray) : wrk ρ (colE nm) = (ρ nm, 0) := rfl
theorem w_lit (ρ : ByteArray → Val) (v : Val) : wrk ρ (litE v) = (v, 0) := rfl
theorem w_nil (ρ : ByteArray → Val) : wrk.wrkL ρ [] = [] := rfl
theorem w_cons (ρ : ByteArray → Val) (e : Ex) (l : List Ex) : wrk.wrkL ρ (e :: l) = wrk ρ e :: wrk.wrkL ρ l := rfl
theorem w_and (ρ : ByteArray → Val) (v : Val) (nm : ByteArray) (l : List Ex) : wrk ρ (.mk 3 false v nm l) = stlV false (tr true) (wrk.wrkL ρ l) := rfl
theorem w_or (ρ : ByteArray → Val) (v : Val) (nm : ByteArray) (l : List Ex) : wrk ρ (.mk 2 false v nm l) = stlV true (tr false) (wrk.wrkL ρ l) := rfl
theorem w_chs (ρ : ByteArray → Val) (v : Val) (nm : ByteArray) (l : List Ex) : wrk ρ (.mk 22 false v nm l) = chsV (wrk.wrkL ρ l) := rfl
theorem w_knw (ρ : ByteArray → Val) (v : Val) (nm : ByteArray) (l : List Ex) : wrk ρ (.mk 29 false v nm l) = knwV (wrk.wrkL ρ l) := rfl
def hlA (o : Nat) (l : List (Val × Int)) : Val × Int := if (allV l).2 ≠ 0 then (zV, (allV l).2) else hldV o (allV l).1
def ngA (x : Val × Int) : Val × Int := (ngV x.1, x.2)
def inA (l : List (Val × Int)) : Val × Int := if (l.getD 0 (zV, 0)).2 ≠ 0 ∨ (l.getD 0 (zV, 0)).1 = zV then l.getD 0 (zV, 0) else fndV (l.getD 0 (zV, 0)).1 (tr false) (l.drop 1)
theorem w_in (ρ : ByteArray → Val) (v : Val) (nm : ByteArray) (l : List Ex) : wrk ρ (.mk 12 false v nm l) = inA (wrk.wrkL ρ l) := rfl
theorem w_ni (ρ : ByteArray → Val) (v : Val) (nm : ByteArray) (l : List Ex) : wrk ρ (.mk 12 true v nm l) = ngA (inA (wrk.wrkL ρ l)) := rfl
theorem w_n11 (ρ : ByteArray → Val) (v : Val) (nm : ByteArray) (l : List Ex) : wrk ρ (.mk 11 true v nm l) = ngA (hlA 11 (wrk.wrkL ρ l)) := rfl
theorem w_n13 (ρ : ByteArray → Val) (v : Val) (nm : ByteArray) (l : List Ex) : wrk ρ (.mk 13 true v nm l) = ngA (hlA 13 (wrk.wrkL ρ l)) := rfl
theorem hlA1 (o : Nat) (x : Val) : hlA o [(x, 0)] = hldV o [x] := rfl
theorem hlA2 (o : Nat) (x y : Val) : hlA o [(x, 0), (y, 0)] = hldV o [x, y] := rfl
theorem hlA3 (o : Nat) (x y z : Val) : hlA o [(x, 0), (y, 0), (z, 0)] = hldV o [x, y, z] := rfl
theorem w_4 (ρ : ByteArray → Val) (v : Val) (nm : ByteArray) (l : List Ex) : wrk ρ (.mk 4 false v nm l) = hlA 4 (wrk.wrkL ρ l) := rfl
theorem w_5 (ρ : ByteArray → Val) (v : Val) (nm : ByteArray) (l : List Ex) : wrk ρ (.mk 5 false v nm l) = hlA 5 (wrk.wrkL ρ l) := rfl
theorem w_6 (ρ : ByteArray → Val) (v : Val) (nm : ByteArray) (l : List Ex) : wrk ρ (.mk 6 false v nm l) = hlA 6 (wrk.wrkL ρ l) := rfl
theorem w_7 (ρ : ByteArray → Val) (v : Val) (nm : ByteArray) (l : List Ex) : wrk ρ (.mk 7 false v nm l) = hlA 7 (wrk.wrkL ρ l) := rfl
theorem w_8 (ρ : ByteArray → Val) (v : Val) (nm : ByteArray) (l : List Ex) : wrk ρ (.mk 8 false v nm l) = hlA 8 (wrk.wrkL ρ l) := rfl
theorem w_9 (ρ : ByteArray → Val) (v : Val) (nm : ByteArray) (l : List Ex) : wrk ρ (.mk 9 false v nm l) = hlA 9 (wrk.wrkL ρ l) := rfl
theorem w_10 (ρ : ByteArray → Val) (v : Val) (nm : ByteArray) (l : List Ex) : wrk ρ (.mk 10 false v nm l) = hlA 10 (wrk.wrkL ρ l) := rfl
theorem w_11 (ρ : ByteArray → Val) (v : Val) (nm : ByteArray) (l : List Ex) : wrk ρ (.mk 11 false v nm l) = hlA 11 (wrk.wrkL ρ l) := rfl
theorem w_13 (ρ : ByteArray → Val) (v : Val) (nm : ByteArray) (l : List Ex) : wrk ρ (.mk 13 false v nm l) = hlA 13 (wrk.wrkL ρ l) := rfl
theorem w_14 (ρ : ByteArray → Val) (v : Val) (nm : ByteArray) (l : List Ex) : wrk ρ (.mk 14 false v nm l) = hlA 14 (wrk.wrkL ρ l) := rfl
theorem w_15 (ρ : ByteArray → Val) (v : Val) (nm : ByteArray) (l : List Ex) : wrk ρ (.mk 15 false v nm l) = hlA 15 (wrk.wrkL ρ l) := rfl
theorem w_16 (ρ : ByteArray → Val) (v : Val) (nm : ByteArray) (l : List Ex) : wrk ρ (.mk 16 false v nm l) = hlA 16 (wrk.wrkL ρ l) := rfl
theorem w_17 (ρ : ByteArray → Val) (v : Val) (nm : ByteArray) (l : List Ex) : wrk ρ (.mk 17 false v nm l) = hlA 17 (wrk.wrkL ρ l) := rfl
theorem w_18 (ρ : ByteArray → Val) (v : Val) (nm : ByteArray) (l : List Ex) : wrk ρ (.mk 18 false v nm l) = hlA 18 (wrk.wrkL ρ l) := rfl
theorem w_19 (ρ : ByteArray → Val) (v : Val) (nm : ByteArray) (l : List Ex) : wrk ρ (.mk 19 false v nm l) = hlA 19 (wrk.wrkL ρ l) := rfl
theorem w_20 (ρ : ByteArray → Val) (v : Val) (nm : ByteArray) (l : List Ex) : wrk ρ (.mk 20 false v nm l) = hlA 20 (wrk.wrkL ρ l) := rfl
theorem w_21 (ρ : ByteArray → Val) (v : Val) (nm : ByteArray) (l : List Ex) : wrk ρ (.mk 21 false v nm l) = hlA 21 (wrk.wrkL ρ l) := rfl
theorem w_23 (ρ : ByteArray → Val) (v : Val) (nm : ByteArray) (l : List Ex) : wrk ρ (.mk 23 false v nm l) = hlA 23 (wrk.wrkL ρ l) := rfl
theorem w_24 (ρ : ByteArray → Val) (v : Val) (nm : ByteArray) (l : List Ex) : wrk ρ (.mk 24 false v nm l) = hlA 24 (wrk.wrkL ρ l) := rfl
theorem w_25 (ρ : ByteArray → Val) (v : Val) (nm : ByteArray) (l : List Ex) : wrk ρ (.mk 25 false v nm l) = hlA 25 (wrk.wrkL ρ l) := rfl
theorem w_26 (ρ : ByteArray → Val) (v : Val) (nm : ByteArray) (l : List Ex) : wrk ρ (.mk 26 false v nm l) = hlA 26 (wrk.wrkL ρ l) := rfl
theorem w_27 (ρ : ByteArray → Val) (v : Val) (nm : ByteArray) (l : List Ex) : wrk ρ (.mk 27 false v nm l) = hlA 27 (wrk.wrkL ρ l) := rfl
theorem w_28 (ρ : ByteArray → Val) (v : Val) (nm : ByteArray) (l : List Ex) : wrk ρ (.mk 28 false v nm l) = hlA 28 (wrk.wrkL ρ l) := rfl
theorem w_30 (ρ : ByteArray → Val) (v : Val) (nm : ByteArray) (l : List Ex) : wrk ρ (.mk 30 false v nm l) = hlA 30 (wrk.wrkL ρ l) := rfl
theorem w_31 (ρ : ByteArray → Val) (v : Val) (nm : ByteArray) (l : List Ex) : wrk ρ (.mk 31 false v nm l) = hlA 31 (wrk.wrkL ρ l) := rfl
theorem h5_zl (y : Val) : hldV 5 [zV, y] = (zV, 0) := rfl
theorem h5_i (n m : Int) : hldV 5 [inV n, inV m] = (tr (cmps 5 (cmpV (inV n) (inV m))), 0) := rfl
theorem h5_iz (n : Int) : hldV 5 [inV n, zV] = (zV, 0) := rfl
theorem h5_t (x y : ByteArray) : hldV 5 [txV x, txV y] = (tr (cmps 5 (cmpV (txV x) (txV y))), 0) := rfl
theorem h5_tz (x : ByteArray) : hldV 5 [txV x, zV] = (zV, 0) := rfl
theorem h6_zl (y : Val) : hldV 6 [zV, y] = (zV, 0) := rfl
theorem h6_i (n m : Int) : hldV 6 [inV n, inV m] = (tr (cmps 6 (cmpV (inV n) (inV m))), 0) := rfl
theorem h6_iz (n : Int) : hldV 6 [inV n, zV] = (zV, 0) := rfl
theorem h6_t (x y : ByteArray) : hldV 6 [txV x, txV y] = (tr (cmps 6 (cmpV (txV x) (txV y))), 0) := rfl
theorem h6_tz (x : ByteArray) : hldV 6 [txV x, zV] = (zV, 0) := rfl
theorem h7_zl (y : Val) : hldV 7 [zV, y] = (zV, 0) := rfl
theorem h7_i (n m : Int) : hldV 7 [inV n, inV m] = (tr (cmps 7 (cmpV (inV n) (inV m))), 0) := rfl
theorem h7_iz (n : Int) : hldV 7 [inV n, zV] = (zV, 0) := rfl
theorem h7_t (x y : ByteArray) : hldV 7 [txV x, txV y] = (tr (cmps 7 (cmpV (txV x) (txV y))), 0) := rfl
theorem h7_tz (x : ByteArray) : hldV 7 [txV x, zV] = (zV, 0) := rfl
theorem h8_zl (y : Val) : hldV 8 [zV, y] = (zV, 0) := rfl
theorem h8_i (n m : Int) : hldV 8 [inV n, inV m] = (tr (cmps 8 (cmpV (inV n) (inV m))), 0) := rfl
theorem h8_iz (n : Int) : hldV 8 [inV n, zV] = (zV, 0) := rfl
theorem h8_t (x y : ByteArray) : hldV 8 [txV x, txV y] = (tr (cmps 8 (cmpV (txV x) (txV y))), 0) := rfl
theorem h8_tz (x : ByteArray) : hldV 8 [txV x, zV] = (zV, 0) := rfl
theorem h9_zl (y : Val) : hldV 9 [zV, y] = (zV, 0) := rfl
theorem h9_i (n m : Int) : hldV 9 [inV n, inV m] = (tr (cmps 9 (cmpV (inV n) (inV m))), 0) := rfl
theorem h9_iz (n : Int) : hldV 9 [inV n, zV] = (zV, 0) := rfl
theorem h9_t (x y : ByteArray) : hldV 9 [txV x, txV y] = (tr (cmps 9 (cmpV (txV x) (txV y))), 0) := rfl
theorem h9_tz (x : ByteArray) : hldV 9 [txV x, zV] = (zV, 0) := rfl
theorem h10_zl (y : Val) : hldV 10 [zV, y] = (zV, 0) := rfl
theorem h10_i (n m : Int) : hldV 10 [inV n, inV m] = (tr (cmps 10 (cmpV (inV n) (inV m))), 0) := rfl
theorem h10_iz (n : Int) : hldV 10 [inV n, zV] = (zV, 0) := rfl
theorem h10_t (x y : ByteArray) : hldV 10 [txV x, txV y] = (tr (cmps 10 (cmpV (txV x) (txV y))), 0) := rfl
theorem h10_tz (x : ByteArray) : hldV 10 [txV x, zV] = (zV, 0) := rfl
theorem h30_zl (y : Val) : hldV 30 [zV, y] = (zV, 0) := rfl
theorem h30_i (n m : Int) : hldV 30 [inV n, inV m] = (maxV (inV n) [inV m], 0) := rfl
theorem h30_iz (n : Int) : hldV 30 [inV n, zV] = (zV, 0) := rfl
theorem h30_t (x y : ByteArray) : hldV 30 [txV x, txV y] = (maxV (txV x) [txV y], 0) := rfl
theorem h30_tz (x : ByteArray) : hldV 30 [txV x, zV] = (zV, 0) := rfl
theorem h31_zl (y : Val) : hldV 31 [zV, y] = (zV, 0) := rfl
theorem h31_i (n m : Int) : hldV 31 [inV n, inV m] = (minV (inV n) [inV m], 0) := rfl
theorem h31_iz (n : Int) : hldV 31 [inV n, zV] = (zV, 0) := rfl
theorem h31_t (x y : ByteArray) : hldV 31 [txV x, txV y] = (minV (txV x) [txV y], 0) := rfl
theorem h31_tz (x : ByteArray) : hldV 31 [txV x, zV] = (zV, 0) := rfl
theorem h27_d (x y : Val) : hldV 27 [x, y] = (if x = y then zV else x, 0) := rfl
theorem h11_d (x : Val) : hldV 11 [x] = (tr (decide (x = zV)), 0) := rfl
theorem h13_d (x y z : Val) : hldV 13 [x, y, z] = (bothV (ordV y x) (ordV x z), 0) := rfl
theorem o_zl (y : Val) : ordV zV y = zV := rfl
theorem o_iz (n : Int) : ordV (inV n) zV = zV := rfl
theorem o_i (n m : Int) : ordV (inV n) (inV m) = tr (decide (cmpV (inV n) (inV m) ≤ 0)) := rfl
theorem five : (⟨1, 5, ⟨#[]⟩⟩ : Val) = inV 5 := rfl
theorem maxi (n m : Int) : maxV (inV n) [inV m] = if 0 < cmpV (inV m) (inV n) then inV m else inV n := rfl
theorem mint (n m : ByteArray) : minV (txV n) [txV m] = if cmpV (txV m) (txV n) < 0 then txV m else txV n := rfl
theorem inV_eq (n m : Int) : (inV n = inV m) ↔ n = m := ⟨fun h => by injection h, fun h => by rw [h]⟩
theorem txV_eq (n m : ByteArray) : (txV n = txV m) ↔ n = m := ⟨fun h => by injection h, fun h => by rw [h]⟩
theorem inA_z (l : List (Val × Int)) : inA ((zV, 0) :: l) = (zV, 0) := rfl
theorem inA_i (n m k : Int) : inA [(inV n, 0), (inV m, 0), (inV k, 0)] = if m = n then (tr true, 0) else if k = n then (tr true, 0) else (tr false, 0) := by
  show (if inV m = inV n then (tr true, (0 : Int)) else if inV k = inV n then (tr true, 0) else (tr false, 0)) = _
  simp only [inV_eq]
theorem inA_iz (n k : Int) : inA [(inV n, 0), (zV, 0), (inV k, 0)] = if k = n then (tr true, 0) else (zV, 0) := by
  show (if inV k = inV n then (tr true, (0 : Int)) else (zV, 0)) = _
  simp only [inV_eq]
theorem ng_tr (b : Bool) : ngV (tr b) = tr !b := by cases b <;> rfl
theorem inV_tz (n : Int) : (inV n = zV) ↔ False := ⟨fun h => by injection h; contradiction, False.elim⟩
end Go.Proofs.YtmaekkhmiafnmaaGreatDoor
