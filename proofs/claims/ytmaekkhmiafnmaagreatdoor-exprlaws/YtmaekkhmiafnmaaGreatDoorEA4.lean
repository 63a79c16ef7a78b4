import Derived.Test.YtmaekkhmiafnmaaGreatDoorEA2
import Derived.Test.YtmaekkhmiafnmaaGreatDoorVN
import Derived.Test.YtmaekkhmiafnmaaGreatDoorTie
import Derived.Test.YtmaekkhmiafnmaaGreatDoorCards
import Derived.SevenTiedAt
import Derived.Deep.DeepHandedRow
import Derived.Deep.DeepWitnessRowRef
import Derived.Stop.LaidErr
import Derived.Lib.LaidTab
set_option maxHeartbeats 8000000
set_option maxRecDepth 100000
namespace Go.Proofs.YtmaekkhmiafnmaaGreatDoor
open Go.RowKit Go Go.Lib
def allocs (w : World) (l : List Obj) : World := l.foldl (fun w o => w.alloc o) w
theorem allocs_tch : ∀ (l : List Obj) (w : World), Tch (fun _ => False) w (allocs w l) ∧ (allocs w l).heap.size = w.heap.size + l.length
  | [], w => ⟨Tch.refl _ _, rfl⟩
  | o :: l, w => by
    obtain ⟨t, h⟩ := allocs_tch l (w.alloc o)
    refine ⟨(Tch.alloc _ _ _).trans' t, ?_⟩
    show (allocs (w.alloc o) l).heap.size = _
    rw [h, List.length_cons]
    simp; omega
theorem allocs_get : ∀ (l : List Obj) (w : World) (k : Nat) (o : Obj), l[k]? = some o → (allocs w l).heap[w.heap.size + k]? = some o
  | [], _, _, _, h => by simp at h
  | x :: l, w, 0, o, h => by
    simp at h
    subst h
    exact ((allocs_tch l (w.alloc x)).1.block w.heap.size (by simp) (fun h => h)).trans (alloc_new w x)
  | x :: l, w, k + 1, o, h => by
    have h2 := allocs_get l (w.alloc x) k o (by simpa using h)
    rw [show (w.alloc x).heap.size + k = w.heap.size + (k + 1) by simp; omega] at h2
    exact h2
def lawObjs (v : World) : List Obj := [.cells #[.string ⟨#[110, 111, 116, 32, 40, 112, 32, 97, 110, 100, 32, 113, 41]⟩, .string ⟨#[110, 111, 116, 32, 112, 32, 111, 114, 32, 110, 111, 116, 32, 113]⟩] 9,
  .cells #[.string ⟨#[110, 111, 116, 32, 40, 112, 32, 111, 114, 32, 113, 41]⟩, .string ⟨#[110, 111, 116, 32, 112, 32, 97, 110, 100, 32, 110, 111, 116, 32, 113]⟩] 9,
  .cells #[.string ⟨#[112, 32, 97, 110, 100, 32, 113]⟩, .string ⟨#[113, 32, 97, 110, 100, 32, 112]⟩] 9,
  .cells #[.string ⟨#[112, 32, 111, 114, 32, 113]⟩, .string ⟨#[113, 32, 111, 114, 32, 112]⟩] 9,
  .cells #[.string ⟨#[110, 111, 116, 32, 110, 111, 116, 32, 112]⟩, .string ⟨#[112]⟩] 9,
  .cells #[.string ⟨#[97, 32, 60, 32, 98]⟩, .string ⟨#[98, 32, 62, 32, 97]⟩] 9,
  .cells #[.string ⟨#[97, 32, 60, 61, 32, 98]⟩, .string ⟨#[110, 111, 116, 32, 97, 32, 62, 32, 98]⟩] 9,
  .cells #[.string ⟨#[97, 32, 60, 62, 32, 98]⟩, .string ⟨#[110, 111, 116, 32, 97, 32, 61, 32, 98]⟩] 9,
  .cells #[.string ⟨#[97, 32, 61, 32, 98]⟩, .string ⟨#[97, 32, 62, 61, 32, 98, 32, 97, 110, 100, 32, 97, 32, 60, 61, 32, 98]⟩] 9,
  .cells #[.string ⟨#[115, 32, 60, 32, 116]⟩, .string ⟨#[116, 32, 62, 32, 115]⟩] 9,
  .cells #[.string ⟨#[97, 32, 98, 101, 116, 119, 101, 101, 110, 32, 98, 32, 97, 110, 100, 32, 53]⟩, .string ⟨#[97, 32, 62, 61, 32, 98, 32, 97, 110, 100, 32, 97, 32, 60, 61, 32, 53]⟩] 9,
  .cells #[.string ⟨#[97, 32, 110, 111, 116, 32, 98, 101, 116, 119, 101, 101, 110, 32, 98, 32, 97, 110, 100, 32, 53]⟩, .string ⟨#[97, 32, 60, 32, 98, 32, 111, 114, 32, 97, 32, 62, 32, 53]⟩] 9,
  .cells #[.string ⟨#[97, 32, 105, 110, 32, 40, 98, 44, 32, 53, 41]⟩, .string ⟨#[97, 32, 61, 32, 98, 32, 111, 114, 32, 97, 32, 61, 32, 53]⟩] 9,
  .cells #[.string ⟨#[97, 32, 110, 111, 116, 32, 105, 110, 32, 40, 98, 44, 32, 53, 41]⟩, .string ⟨#[97, 32, 60, 62, 32, 98, 32, 97, 110, 100, 32, 97, 32, 60, 62, 32, 53]⟩] 9,
  .cells #[.string ⟨#[99, 111, 97, 108, 101, 115, 99, 101, 40, 97, 44, 32, 98, 41]⟩, .string ⟨#[99, 97, 115, 101, 32, 119, 104, 101, 110, 32, 97, 32, 105, 115, 32, 110, 111, 116, 32, 110, 117, 108, 108, 32, 116, 104, 101, 110, 32, 97, 32, 101, 108, 115, 101, 32, 98, 32, 101, 110, 100]⟩] 9,
  .cells #[.string ⟨#[110, 117, 108, 108, 105, 102, 40, 97, 44, 32, 98, 41]⟩, .string ⟨#[99, 97, 115, 101, 32, 119, 104, 101, 110, 32, 97, 32, 61, 32, 98, 32, 116, 104, 101, 110, 32, 110, 117, 108, 108, 32, 101, 108, 115, 101, 32, 97, 32, 101, 110, 100]⟩] 9,
  .cells #[.string ⟨#[97, 32, 105, 115, 32, 110, 117, 108, 108]⟩, .string ⟨#[110, 111, 116, 32, 97, 32, 105, 115, 32, 110, 111, 116, 32, 110, 117, 108, 108]⟩] 9,
  .cells #[.string ⟨#[103, 114, 101, 97, 116, 101, 115, 116, 40, 97, 44, 32, 98, 41]⟩, .string ⟨#[99, 97, 115, 101, 32, 119, 104, 101, 110, 32, 97, 32, 62, 61, 32, 98, 32, 116, 104, 101, 110, 32, 97, 32, 119, 104, 101, 110, 32, 98, 32, 62, 32, 97, 32, 116, 104, 101, 110, 32, 98, 32, 101, 110, 100]⟩] 9,
  .cells #[.string ⟨#[108, 101, 97, 115, 116, 40, 115, 44, 32, 116, 41]⟩, .string ⟨#[99, 97, 115, 101, 32, 119, 104, 101, 110, 32, 115, 32, 60, 61, 32, 116, 32, 116, 104, 101, 110, 32, 115, 32, 119, 104, 101, 110, 32, 116, 32, 60, 32, 115, 32, 116, 104, 101, 110, 32, 116, 32, 101, 110, 100]⟩] 9,
  .cells #[.string ⟨#[115, 32, 108, 105, 107, 101, 32, 39, 37, 39]⟩, .string ⟨#[115, 32, 61, 32, 115]⟩] 9,
  .cells #[.string ⟨#[115, 32, 108, 105, 107, 101, 32, 115, 32, 124, 124, 32, 39, 39]⟩, .string ⟨#[115, 32, 108, 105, 107, 101, 32, 115]⟩] 9,
  .cells #[.string ⟨#[115, 32, 61, 32, 116, 32, 97, 110, 100, 32, 116, 32, 61, 32, 115]⟩, .string ⟨#[115, 32, 61, 32, 116]⟩] 9,
  .cells #[.string ⟨#[108, 101, 110, 103, 116, 104, 40, 117, 112, 112, 101, 114, 40, 115, 41, 41]⟩, .string ⟨#[108, 101, 110, 103, 116, 104, 40, 108, 111, 119, 101, 114, 40, 115, 41, 41]⟩] 9,
  .cells #[.string ⟨#[117, 112, 112, 101, 114, 40, 108, 111, 119, 101, 114, 40, 117, 112, 112, 101, 114, 40, 115, 41, 41, 41]⟩, .string ⟨#[117, 112, 112, 101, 114, 40, 115, 41]⟩] 9,
  .cells #[.string ⟨#[115, 117, 98, 115, 116, 114, 40, 115, 44, 32, 49, 44, 32, 108, 101, 110, 103, 116, 104, 40, 115, 41, 41]⟩, .string ⟨#[115]⟩] 9,
  .cells #[.slice (some ⟨v.heap.size, 0, none⟩) 2 2, .slice (some ⟨v.heap.size + 1, 0, none⟩) 2 2, .slice (some ⟨v.heap.size + 1 + 1, 0, none⟩) 2 2, .slice (some ⟨v.heap.size + 1 + 1 + 1, 0, none⟩) 2 2, .slice (some ⟨v.heap.size + 1 + 1 + 1 + 1, 0, none⟩) 2 2, .slice (some ⟨v.heap.size + 1 + 1 + 1 + 1 + 1, 0, none⟩) 2 2, .slice (some ⟨v.heap.size + 1 + 1 + 1 + 1 + 1 + 1, 0, none⟩) 2 2, .slice (some ⟨v.heap.size + 1 + 1 + 1 + 1 + 1 + 1 + 1, 0, none⟩) 2 2, .slice (some ⟨v.heap.size + 1 + 1 + 1 + 1 + 1 + 1 + 1 + 1, 0, none⟩) 2 2, .slice (some ⟨v.heap.size + 1 + 1 + 1 + 1 + 1 + 1 + 1 + 1 + 1, 0, none⟩) 2 2, .slice (some ⟨v.heap.size + 1 + 1 + 1 + 1 + 1 + 1 + 1 + 1 + 1 + 1, 0, none⟩) 2 2, .slice (some ⟨v.heap.size + 1 + 1 + 1 + 1 + 1 + 1 + 1 + 1 + 1 + 1 + 1, 0, none⟩) 2 2, .slice (some ⟨v.heap.size + 1 + 1 + 1 + 1 + 1 + 1 + 1 + 1 + 1 + 1 + 1 + 1, 0, none⟩) 2 2, .slice (some ⟨v.heap.size + 1 + 1 + 1 + 1 + 1 + 1 + 1 + 1 + 1 + 1 + 1 + 1 + 1, 0, none⟩) 2 2, .slice (some ⟨v.heap.size + 1 + 1 + 1 + 1 + 1 + 1 + 1 + 1 + 1 + 1 + 1 + 1 + 1 + 1, 0, none⟩) 2 2, .slice (some ⟨v.heap.size + 1 + 1 + 1 + 1 + 1 + 1 + 1 + 1 + 1 + 1 + 1 + 1 + 1 + 1 + 1, 0, none⟩) 2 2, .slice (some ⟨v.heap.size + 1 + 1 + 1 + 1 + 1 + 1 + 1 + 1 + 1 + 1 + 1 + 1 + 1 + 1 + 1 + 1, 0, none⟩) 2 2, .slice (some ⟨v.heap.size + 1 + 1 + 1 + 1 + 1 + 1 + 1 + 1 + 1 + 1 + 1 + 1 + 1 + 1 + 1 + 1 + 1, 0, none⟩) 2 2, .slice (some ⟨v.heap.size + 1 + 1 + 1 + 1 + 1 + 1 + 1 + 1 + 1 + 1 + 1 + 1 + 1 + 1 + 1 + 1 + 1 + 1, 0, none⟩) 2 2, .slice (some ⟨v.heap.size + 1 + 1 + 1 + 1 + 1 + 1 + 1 + 1 + 1 + 1 + 1 + 1 + 1 + 1 + 1 + 1 + 1 + 1 + 1, 0, none⟩) 2 2, .slice (some ⟨v.heap.size + 1 + 1 + 1 + 1 + 1 + 1 + 1 + 1 + 1 + 1 + 1 + 1 + 1 + 1 + 1 + 1 + 1 + 1 + 1 + 1, 0, none⟩) 2 2, .slice (some ⟨v.heap.size + 1 + 1 + 1 + 1 + 1 + 1 + 1 + 1 + 1 + 1 + 1 + 1 + 1 + 1 + 1 + 1 + 1 + 1 + 1 + 1 + 1, 0, none⟩) 2 2, .slice (some ⟨v.heap.size + 1 + 1 + 1 + 1 + 1 + 1 + 1 + 1 + 1 + 1 + 1 + 1 + 1 + 1 + 1 + 1 + 1 + 1 + 1 + 1 + 1 + 1, 0, none⟩) 2 2, .slice (some ⟨v.heap.size + 1 + 1 + 1 + 1 + 1 + 1 + 1 + 1 + 1 + 1 + 1 + 1 + 1 + 1 + 1 + 1 + 1 + 1 + 1 + 1 + 1 + 1 + 1, 0, none⟩) 2 2, .slice (some ⟨v.heap.size + 1 + 1 + 1 + 1 + 1 + 1 + 1 + 1 + 1 + 1 + 1 + 1 + 1 + 1 + 1 + 1 + 1 + 1 + 1 + 1 + 1 + 1 + 1 + 1, 0, none⟩) 2 2] 26]
theorem lawObjs_k (v : World) (k : Nat) (hk : k < prs.length) : (lawObjs v)[k]? = some (.cells #[.string prs[k].1, .string prs[k].2] 9) := by
  have hl : prs.length = 25 := rfl
  rw [hl] at hk
  match k, hk with
  | 0, _ => rfl
  | 1, _ => rfl
  | 2, _ => rfl
  | 3, _ => rfl
  | 4, _ => rfl
  | 5, _ => rfl
  | 6, _ => rfl
  | 7, _ => rfl
  | 8, _ => rfl
  | 9, _ => rfl
  | 10, _ => rfl
  | 11, _ => rfl
  | 12, _ => rfl
  | 13, _ => rfl
  | 14, _ => rfl
  | 15, _ => rfl
  | 16, _ => rfl
  | 17, _ => rfl
  | 18, _ => rfl
  | 19, _ => rfl
  | 20, _ => rfl
  | 21, _ => rfl
  | 22, _ => rfl
  | 23, _ => rfl
  | 24, _ => rfl
  | n + 25, hk => exact absurd hk (by omega)
theorem lawObjs_l (v : World) (k : Nat) (hk : k < prs.length) : ∃ cs, (lawObjs v)[25]? = some (.cells cs 26) ∧ cs[k]? = some (.slice (some ⟨v.heap.size + k, 0, none⟩) 2 2) := by
  refine ⟨_, rfl, ?_⟩
  have hl : prs.length = 25 := rfl
  rw [hl] at hk
  match k, hk with
  | 0, _ => rfl
  | 1, _ => rfl
  | 2, _ => rfl
  | 3, _ => rfl
  | 4, _ => rfl
  | 5, _ => rfl
  | 6, _ => rfl
  | 7, _ => rfl
  | 8, _ => rfl
  | 9, _ => rfl
  | 10, _ => rfl
  | 11, _ => rfl
  | 12, _ => rfl
  | 13, _ => rfl
  | 14, _ => rfl
  | 15, _ => rfl
  | 16, _ => rfl
  | 17, _ => rfl
  | 18, _ => rfl
  | 19, _ => rfl
  | 20, _ => rfl
  | 21, _ => rfl
  | 22, _ => rfl
  | 23, _ => rfl
  | 24, _ => rfl
  | n + 25, hk => exact absurd hk (by omega)
theorem laws_at (v : World) (k : Nat) (hk : k < prs.length) : (allocs v (lawObjs v)).cell? ⟨v.heap.size + 25, k, none⟩ = some (.slice (some ⟨v.heap.size + k, 0, none⟩) 2 2) ∧ (allocs v (lawObjs v)).cell? ⟨v.heap.size + k, 0, none⟩ = some (.string prs[k].1) ∧ (allocs v (lawObjs v)).cell? ⟨v.heap.size + k, 1, none⟩ = some (.string prs[k].2) := by
  obtain ⟨cs, e1, e2⟩ := lawObjs_l v k hk
  have h1 := allocs_get (lawObjs v) v 25 _ e1
  have h2 := allocs_get (lawObjs v) v k _ (lawObjs_k v k hk)
  refine ⟨?_, ?_, ?_⟩
  · simp [World.cell?, h1, e2]
  · simp [World.cell?, h2]
  · simp [World.cell?, h2]
theorem exprLaws_law (raw : List Val) (hi : ∀ v ∈ raw, i64v v.n) (ao : Option Addr) (cp : Nat) (w : World) (hG : HG w) (hV : SL w ao (rcl raw)) :
    Calls Tryz.prog 3 #[.slice ao raw.length cp] w fun x w' => x = .returned (.bool true) ∧ Tch (fun _ => False) w w' := by
  have hrow := rw6_row6 hi
  have hi6 := Row6.i64 hrow
  have HK : Hid (Calls Tryz.prog 7 #[] w fun x w' => x = .returned (.bool true) ∧ Tch (fun _ => False) w w') := known_any11 w hG
  have HR : Hid (∀ W, Tch (fun _ => False) w W → Calls Tryz.prog 8 #[.slice ao raw.length cp] W fun x w' => (∃ o c, x = .returned (.slice o 6 c) ∧ SL w' o (rcl (rw6 raw))) ∧ Tch (fun _ => False) W w') := fun W t => row_any11 raw ao cp W (hV.no t)
  obtain ⟨r, hr⟩ : ∃ r, r = rw6 raw := ⟨_, rfl⟩
  rw [← hr] at hrow hi6
  have hl6 : r.length = 6 := by rw [hr]; rfl
  rw [← hr] at HR
  obtain ⟨n, hn⟩ : ∃ n, n = raw.length := ⟨_, rfl⟩
  rw [← hn] at HR ⊢
  have HA : Hid (∀ W s e o c, parE s = (some e, 0, 0) → Tch (fun _ => False) w W → SL W o (rcl r) → Calls Tryz.prog 9 #[.string s, .slice o 6 c] W fun x w' => x = .returned (.tuple #[vV (evE cs6 r e).1, .int .i64 (evE cs6 r e).2]) ∧ Tch (fun _ => False) W w') := fun W s e o c hp t hs => by
    have q := answer_any s e r o c W hp (hG.no t) hs hi6
    rw [hl6] at q
    exact q
  have Hrow : Hid (Row6 r) := hrow
  clear hr hn hrow hi6 hG hV hi hl6
  go_enter Tryz.func3, Tryz.ntmps3
  go_wp2_with fail
  refine HK.out.mono ?_
  rintro y v1 ⟨rfl, t1⟩
  clear HK
  go_wp2_with fail
  refine (HR.out v1 t1).mono ?_
  rintro y v2 ⟨⟨o, c, rfl, hs⟩, t2⟩
  have T2 : Tch (fun _ => False) w v2 := t1.trans' t2
  clear HR t1 t2
  go_wp2_with fail
  obtain ⟨w3, hw3⟩ : ∃ w3, w3 = allocs v2 (lawObjs v2) := ⟨_, rfl⟩
  obtain ⟨t3, z3⟩ := allocs_tch (lawObjs v2) v2
  have HL : Hid (∀ k (hk : k < prs.length), w3.cell? ⟨v2.heap.size + 25, k, none⟩ = some (.slice (some ⟨v2.heap.size + k, 0, none⟩) 2 2) ∧ w3.cell? ⟨v2.heap.size + k, 0, none⟩ = some (.string prs[k].1) ∧ w3.cell? ⟨v2.heap.size + k, 1, none⟩ = some (.string prs[k].2)) := fun k hk => by rw [hw3]; exact laws_at v2 k hk
  have HB : Hid (∀ W, Tch (fun _ => False) w3 W → Tch (fun _ => False) w W ∧ SL W o (rcl r)) := fun W t => by
    rw [hw3] at t
    exact ⟨(T2.trans' t3).trans' t, (hs.no t3).no t⟩
  obtain ⟨Lb, hLb⟩ : ∃ Lb, Lb = v2.heap.size + 1 + 1 + 1 + 1 + 1 + 1 + 1 + 1 + 1 + 1 + 1 + 1 + 1 + 1 + 1 + 1 + 1 + 1 + 1 + 1 + 1 + 1 + 1 + 1 + 1 := ⟨_, rfl⟩
  have hLb2 : Lb = v2.heap.size + 25 := hLb
  rw [← hLb2] at HL
  rw [← hLb]
  clear hLb hLb2 t3 z3 hs T2
  unfold allocs lawObjs at hw3
  simp only [List.foldl_cons, List.foldl_nil] at hw3
  rw [← hw3]
  clear hw3
  go_loopw [6] (fun iv wr => ∃ k : Nat, iv = .int .i64 k ∧ k ≤ 25 ∧ Hid (Tch (fun _ => False) w3 wr)) (fun iv _ => 25 - (RowKit.intOf iv).toNat)
  case atStart => exact ⟨0, rfl, by omega, Tch.refl _ _⟩
  case round =>
    obtain ⟨k, rfl, hk, HT⟩ := hrel
    by_cases hlt : k < 25
    · have hltI : (k : Int) < 25 := by omega
      obtain ⟨e, f, he, hf, hef, he0⟩ := laws_all Hrow.out k hlt
      have hkp : k < prs.length := hlt
      obtain ⟨c0, c1, c2⟩ := HL.out k hkp
      obtain ⟨x, hx⟩ : ∃ x, x = evE cs6 r e := ⟨_, rfl⟩
      have qa := fun W t => HA.out W prs[k].1 e o c he (HB.out W t).1 (HB.out W t).2
      have qb := fun W t => HA.out W prs[k].2 f o c hf (HB.out W t).1 (HB.out W t).2
      rw [← hef, ← hx] at qb
      rw [← hx] at qa he0
      obtain ⟨v, ev⟩ := x
      obtain rfl : ev = 0 := he0
      obtain ⟨sa, hsa⟩ : ∃ s, s = prs[k].1 := ⟨_, rfl⟩
      obtain ⟨sb, hsb⟩ : ∃ s, s = prs[k].2 := ⟨_, rfl⟩
      rw [← hsa] at qa c1
      rw [← hsb] at qb c2
      have HQa : Hid _ := qa
      have HQb : Hid _ := qb
      obtain ⟨Bk, hBk⟩ : ∃ B, B = v2.heap.size + k := ⟨_, rfl⟩
      rw [← hBk] at c0 c1 c2
      have HCk : Hid (∀ W, Tch (fun _ => False) w3 W → W.cell? ⟨Lb, k, none⟩ = some (.slice (some ⟨Bk, 0, none⟩) 2 2) ∧ W.cell? ⟨Bk, 0, none⟩ = some (.string sa) ∧ W.cell? ⟨Bk, 1, none⟩ = some (.string sb)) := fun W t => by
        have kk : ∀ (p : Addr) (y : Value), w3.cell? p = some y → W.cell? p = some y := fun p y h => (t.cell (cell_lt (p := p) h) (fun h => h)).trans h
        exact ⟨kk _ _ c0, kk _ _ c1, kk _ _ c2⟩
      have hne : ∀ W, (binOp .neq 29 (vV v) (vV v)).run Tryz.prog W = .ok (.bool false) W := fun W => by
        have h := neq_dec v v W
        rw [decide_eq_true rfl] at h
        exact h
      clear qa qb he hf hef hx hsa hsb hBk c0 c1 c2 hkp
      obtain ⟨c0, c1, c2⟩ := HCk.out wr HT.out
      go_wp2_with fail
      refine (HQa.out wr HT.out).mono ?_
      rintro y v5 ⟨rfl, t5⟩
      have hV := vb_new v5 v
      obtain ⟨w6, hw6⟩ : ∃ w6, w6 = v5.alloc (.cells #[.int .i64 v.k, .int .i64 v.n, .string v.s] 29) := ⟨_, rfl⟩
      obtain ⟨M, hM⟩ : ∃ M, M = v5.heap.size := ⟨_, rfl⟩
      have T6 : Tch (fun _ => False) w3 w6 := by rw [hw6]; exact (HT.out.trans' t5).allocR _
      rw [← hw6, ← hM] at hV
      obtain ⟨d0, d1, d2⟩ := HCk.out w6 T6
      have hD : ∀ o1, o1 = Obj.cells #[.int .i64 v.k, .int .i64 v.n, .string v.s] 29 → (v5.alloc o1).cell? ⟨Lb, k, none⟩ = some (.slice (some ⟨Bk, 0, none⟩) 2 2) ∧ (v5.alloc o1).cell? ⟨Bk, 1, none⟩ = some (.string sb) := fun o1 e1 => by subst e1; rw [← hw6]; exact ⟨d0, d2⟩
      obtain ⟨d0', d2'⟩ := hD _ rfl
      clear t5 c0 c1 c2 hD
      go_wp2_with fail
      rw [← hw6]
      refine (HQb.out w6 T6).mono ?_
      rintro y v7 ⟨rfl, t7⟩
      have hV7 := hV.no t7
      have HV8 : Hid (VB M v (v7.alloc (.cells #[.int .i64 v.k, .int .i64 v.n, .string v.s] 29))) := hV7.no (Tch.alloc _ _ _)
      have HT8 : Hid (Tch (fun _ => False) w3 (v7.alloc (.cells #[.int .i64 v.k, .int .i64 v.n, .string v.s] 29))) := (T6.trans' t7).allocR _
      obtain ⟨⟨x0, x1, x2⟩, _⟩ := HV8.out
      clear hw6 d0 d1 d2 d0' d2' hV hV7 t7 T6
      rw [hM] at x0 x1 x2
      go_wp2_with fail
      go_roundw
      case rel => exact ⟨k + 1, by first | trivial | rfl, by omega, HT8.out⟩
      case measure => simp [RowKit.intOf]; omega
    · obtain rfl : k = 25 := by omega
      obtain ⟨x, hx⟩ : ∃ x, x = evE cs6 r eL50 := ⟨_, rfl⟩
      have q := HA.out wr sL50 eL50 o c pL50 (HB.out wr HT.out).1 (HB.out wr HT.out).2
      rw [← hx] at q
      obtain ⟨qv, qe⟩ := x
      have HX : Hid _ := hx
      clear hx HL
      go_wp2_with fail
      refine Calls.mono q ?_
      rintro y v5 ⟨rfl, t5⟩
      clear q
      have hV := vb_new v5 qv
      obtain ⟨w6, hw6⟩ : ∃ w6, w6 = v5.alloc (.cells #[.int .i64 qv.k, .int .i64 qv.n, .string qv.s] 29) := ⟨_, rfl⟩
      have T6 : Tch (fun _ => False) w3 w6 := by rw [hw6]; exact (HT.out.trans' t5).allocR _
      rw [← hw6] at hV
      obtain ⟨T7, hs⟩ := HB.out w6 T6
      obtain ⟨a, b, s, t, p, q', rfl, fa, fb, _, _, _, _⟩ := Hrow.out.ex
      obtain ⟨g, i, rfl, a0, a1, a2⟩ := vrow_at hs (k := 0) (Nat.zero_lt_succ _)
      obtain ⟨g', i', e', b0, b1, b2⟩ := vrow_at hs (k := 1) (Nat.succ_lt_succ (Nat.zero_lt_succ _))
      simp only [Option.some.injEq, Addr.mk.injEq, and_true] at e'
      obtain ⟨rfl, rfl⟩ := e'
      simp only [List.getElem_cons_zero, List.getElem_cons_succ, Nat.zero_mul, Nat.one_mul, Nat.add_zero] at a0 a1 a2 b0 b1 b2
      rw [hw6] at a0 a1 a2 b0 b1 b2
      have HT7 : Hid (Tch (fun _ => False) w (v5.alloc (.cells #[.int .i64 qv.k, .int .i64 qv.n, .string qv.s] 29))) := by rw [← hw6]; exact T7
      have Hq : Hid (∀ n m : Int, a = inV n → b = inV m → m ≠ 0 → ¬ (n = -9223372036854775808 ∧ m = -1) → qv = inV n ∧ qe = 0) := fun n m e1 e2 h1 h2 => by
        have h := law_quo Hrow.out (n := n) (m := m) e1 e2 h1 h2
        rw [← HX.out] at h
        injection h with h3 h4
        exact ⟨h3, h4⟩
      clear hs hw6 T7 T6 hV t5 HB HT HX Hrow HA
      have r0 : (0 : Int) < 6 := by decide
      have r1 : (1 : Int) < 6 := by decide
      rcases fa with rfl | ⟨n1, rfl, hn1⟩
      · have k0 : (v5.alloc (.cells #[.int .i64 qv.k, .int .i64 qv.n, .string qv.s] 29)).cell? ⟨g, i, none⟩ = some (.int .i64 0) := a0
        clear a0 a1 a2 b0 b1 b2
        go_wp2_with fail
        go_ret
        exact ⟨rfl, HT7.out⟩
      rcases fb with rfl | ⟨m1, rfl, hm1⟩
      · have k0 : (v5.alloc (.cells #[.int .i64 qv.k, .int .i64 qv.n, .string qv.s] 29)).cell? ⟨g, i, none⟩ = some (.int .i64 1) := a0
        have m0 : (v5.alloc (.cells #[.int .i64 qv.k, .int .i64 qv.n, .string qv.s] 29)).cell? ⟨g, i + 3, none⟩ = some (.int .i64 0) := b0
        clear a0 a1 a2 b0 b1 b2
        go_wp2_with fail
        go_ret
        exact ⟨rfl, HT7.out⟩
      have k0 : (v5.alloc (.cells #[.int .i64 qv.k, .int .i64 qv.n, .string qv.s] 29)).cell? ⟨g, i, none⟩ = some (.int .i64 1) := a0
      have k1 : (v5.alloc (.cells #[.int .i64 qv.k, .int .i64 qv.n, .string qv.s] 29)).cell? ⟨g, i + 1, none⟩ = some (.int .i64 n1) := a1
      have k2 : (v5.alloc (.cells #[.int .i64 qv.k, .int .i64 qv.n, .string qv.s] 29)).cell? ⟨g, i + 2, none⟩ = some (.string ⟨#[]⟩) := a2
      have m0 : (v5.alloc (.cells #[.int .i64 qv.k, .int .i64 qv.n, .string qv.s] 29)).cell? ⟨g, i + 3, none⟩ = some (.int .i64 1) := b0
      have m1' : (v5.alloc (.cells #[.int .i64 qv.k, .int .i64 qv.n, .string qv.s] 29)).cell? ⟨g, i + 3 + 1, none⟩ = some (.int .i64 m1) := b1
      clear a0 a1 a2 b0 b1 b2
      by_cases hm : m1 = 0
      · have e1 : (m1 != 0) = false := by rw [hm]; rfl
        clear hm
        go_wp2_with fail
        go_ret
        exact ⟨rfl, HT7.out⟩
      have e1 : (m1 != 0) = true := by simpa using hm
      by_cases hn : n1 = -9223372036854775808
      · have e2 : (n1 == -9223372036854775808) = true := by simpa using hn
        by_cases hm2 : m1 = -1
        · have e3 : (m1 == -1) = true := by simpa using hm2
          clear hm hm2 hn
          go_wp2_with fail
          go_ret
          exact ⟨rfl, HT7.out⟩
        · have e3 : (m1 == -1) = false := by simpa using hm2
          obtain ⟨rfl, rfl⟩ := Hq.out n1 m1 rfl rfl hm (fun h => hm2 h.2)
          have e4 : ∀ W, (binOp .eql 29 (vV (inV n1)) (.agg #[.int .i64 1, .int .i64 n1, .string ⟨#[]⟩])).run Tryz.prog W = .ok (.bool true) W := fun W => by
            have h := eql_dec (inV n1) (inV n1) W
            rw [decide_eq_true rfl] at h
            exact h
          clear hm hm2 hn
          go_wp2_with fail
          go_quiet (fail)
          go_wp2_with fail
          go_ret
          exact ⟨rfl, HT7.out.drewN nq⟩
      · have e2 : (n1 == -9223372036854775808) = false := by simpa using hn
        obtain ⟨rfl, rfl⟩ := Hq.out n1 m1 rfl rfl hm (fun h => hn h.1)
        have e4 : ∀ W, (binOp .eql 29 (vV (inV n1)) (.agg #[.int .i64 1, .int .i64 n1, .string ⟨#[]⟩])).run Tryz.prog W = .ok (.bool true) W := fun W => by
          have h := eql_dec (inV n1) (inV n1) W
          rw [decide_eq_true rfl] at h
          exact h
        clear hm hn
        go_wp2_with fail
        go_quiet (fail)
        go_wp2_with fail
        go_ret
        exact ⟨rfl, HT7.out.drewN nq⟩
end Go.Proofs.YtmaekkhmiafnmaaGreatDoor
namespace Go.Proofs.YtmaekkhmiafnmaaGreatDoor
open Go.ChangeShapes Go.WideShapes Go.RowKit Go.Deep
set_option maxRecDepth 100000
theorem wd_of11 {W : World} {l : List (String × DataW Unit)} (h : laidMet Tryz.prog (("confluence/value.words", Rows.laid_confluence_value_words) :: l) W) : HWd W := by
  obtain ⟨ps, ⟨g, t, cs, f, p, q, hg, ht, hv, hd, _⟩, _⟩ := h
  obtain rfl := Option.some.inj (tr_ws.symm.trans hg)
  obtain rfl := Option.some.inj (tr_wt.symm.trans ht)
  obtain ⟨xs, m1, rfl, hx1, hlen, hn3, hel⟩ := DataW.trod_array Tryz.underlying147 hd
  obtain ⟨x0, x1, x2, rfl⟩ := list3 xs hn3
  simp only [Prod.mk.injEq] at hx1
  have k0 := hel 0 (by decide)
  have k1 := hel 1 (by decide)
  have k2 := hel 2 (by decide)
  simp only [c_word] at k0 k1 k2
  obtain ⟨t0, a0, b0, s0, e0, y0⟩ := word_of (show _ = some x0 from k0)
  obtain ⟨t1, a1, b1, s1, e1, y1⟩ := word_of (show _ = some x1 from k1)
  obtain ⟨t2, a2, b2, s2, e2, y2⟩ := word_of (show _ = some x2 from k2)
  have hx2 := hx1.1
  unfold Rows.laid_confluence_value_words at hx2
  simp only [List.map_cons, List.map_nil, y0, y1, y2, DataW.agg.injEq, List.cons.injEq, DataW.lit.injEq, Lit.string.injEq, Lit.int.injEq, true_and, and_true] at hx2
  obtain ⟨⟨q0, rfl, rfl, r0⟩, ⟨q1, rfl, rfl, r1⟩, q2, rfl, rfl, r2⟩ := hx2
  rw [bytes_of q0.symm, bytes_of r0.symm] at e0
  rw [bytes_of q1.symm, bytes_of r1.symm] at e1
  rw [bytes_of q2.symm, bytes_of r2.symm] at e2
  have hl : cs.toList.length = 12 := hlen
  have hcs : cs.toList = wordCells := by
    have h1 : cs.toList = cs.toList.take 4 ++ ((cs.toList.drop 4).take 4 ++ (cs.toList.drop 8).take 4) := by
      rw [List.take_of_length_le (l := cs.toList.drop 8) (by simp at hl ⊢; omega)]
      have h2 : cs.toList.drop 8 = (cs.toList.drop 4).drop 4 := by rw [List.drop_drop]
      rw [h2, List.take_append_drop, List.take_append_drop]
    rw [h1, show cs.toList.take 4 = _ from e0, show (cs.toList.drop 4).take 4 = _ from e1, show (cs.toList.drop 8).take 4 = _ from e2]
    rfl
  intro j u hu
  rw [World.var?_cell tr_ws hv j, ← Array.getElem?_toList, hcs]
  exact hu
theorem c_shape : Tryz.prog.cellsOf 72 = 4 := by kernel_rfl
theorem tr_sh : Tryz.prog.globalNamed "confluence/expr.shapes" = some 0 := by kernel_rfl
theorem tr_sht : (Tryz.prog.globals[0]?).map (·.type) = some 73 := by kernel_rfl
section
variable {H : Type} {enc : TypeId × Value → H} {W : World} {sp : Nat → Bool} {hd : Bool} {fuel : Nat} {x : DataW H × List MemPlace} {cs : List Value}
theorem shape_of (h : DataW.trod enc Tryz.prog W 0 sp hd fuel 72 cs = some x) :
    ∃ (t : ByteArray) (a b c : Int), cs = [.string t, .int .i64 a, .int .i64 b, .int .i64 c] ∧ x.1 = .agg [.lit (.string t.data.toList), .lit (.int .i64 a), .lit (.int .i64 b), .lit (.int .i64 c)] := by
  obtain ⟨xs, n', _, hx, hcl, hxl, hf⟩ := DataW.trod_struct Tryz.underlying72 h
  rw [c_shape] at hcl
  have hxs : xs.length = 4 := hxl
  obtain ⟨c0, c1, c2, c3, rfl⟩ := list4 cs hcl
  obtain ⟨y0, y1, y2, y3, rfl⟩ := list4 xs hxs
  have f0 : DataW.trod enc Tryz.prog W 0 sp hd n' 9 [c0] = some y0 := by have := hf 0 _ rfl; simpa [c_str] using this
  have f1 : DataW.trod enc Tryz.prog W 0 sp hd n' 3 [c1] = some y1 := by have := hf 1 _ rfl; simpa [c_int] using this
  have f2 : DataW.trod enc Tryz.prog W 0 sp hd n' 3 [c2] = some y2 := by have := hf 2 _ rfl; simpa [c_int] using this
  have f3 : DataW.trod enc Tryz.prog W 0 sp hd n' 3 [c3] = some y3 := by have := hf 3 _ rfl; simpa [c_int] using this
  obtain ⟨t, e0, g0, _⟩ := DataW.trod_string Tryz.underlying9 f0
  obtain ⟨a, e1, g1, _⟩ := DataW.trod_int Tryz.underlying3 f1
  obtain ⟨b, e2, g2, _⟩ := DataW.trod_int Tryz.underlying3 f2
  obtain ⟨c, e3, g3, _⟩ := DataW.trod_int Tryz.underlying3 f3
  simp at e0 e1 e2 e3
  subst e0 e1 e2 e3
  exact ⟨t, a, b, c, rfl, by rw [hx, g0, g1, g2, g3]; rfl⟩
end
def shD (x : ByteArray × Nat × Nat × Nat) : DataW Unit := .agg [.lit (.string x.1.data.toList), .lit (.int .i64 (x.2.1 : Nat)), .lit (.int .i64 (x.2.2.1 : Nat)), .lit (.int .i64 (x.2.2.2 : Nat))]
theorem shapes_eq : (Rows.laid_confluence_expr_shapes : DataW Unit) = .agg (shp.map shD) := by kernel_rfl
theorem list_by4 : ∀ (n : Nat) (l m : List Value), l.length = n * 4 → m.length = n * 4 → (∀ i, i < n → (l.drop (i * 4)).take 4 = (m.drop (i * 4)).take 4) → l = m
  | 0, l, m, hl, hm, _ => by rw [List.eq_nil_of_length_eq_zero (l := l) (by omega), List.eq_nil_of_length_eq_zero (l := m) (by omega)]
  | n + 1, l, m, hl, hm, h => by
    have h0 := h 0 (by omega)
    simp only [Nat.zero_mul, List.drop_zero] at h0
    have hd := list_by4 n (l.drop 4) (m.drop 4) (by simp; omega) (by simp; omega) (fun i hi => by
      have := h (i + 1) (by omega)
      rw [List.drop_drop, List.drop_drop, show 4 + i * 4 = (i + 1) * 4 by omega]
      exact this)
    rw [← List.take_append_drop 4 l, ← List.take_append_drop 4 m, h0, hd]
theorem sh_of11 {W : World} {l : List (String × DataW Unit)} (h : laidMet Tryz.prog (("confluence/expr.shapes", Rows.laid_confluence_expr_shapes) :: l) W) : HSh W := by
  obtain ⟨ps, ⟨g, t, cs, f, p, q, hg, ht, hv, hd, _⟩, _⟩ := h
  obtain rfl := Option.some.inj (tr_sh.symm.trans hg)
  obtain rfl := Option.some.inj (tr_sht.symm.trans ht)
  obtain ⟨xs, m1, rfl, hx1, hlen, hn3, hel⟩ := DataW.trod_array Tryz.underlying73 hd
  simp only [c_shape] at hel
  simp only [Prod.mk.injEq] at hx1
  have hx2 := hx1.1
  rw [shapes_eq] at hx2
  simp only [DataW.agg.injEq] at hx2
  have hl : cs.toList.length = 32 * 4 := hlen
  have hcl : shpC.toList.length = 32 * 4 := by decide +kernel
  have hcs : cs.toList = shpC.toList := by
    refine list_by4 32 _ _ hl hcl (fun i hi => ?_)
    have hxi : i < xs.length := by omega
    have k := hel i hi
    rw [List.getElem?_eq_getElem hxi] at k
    obtain ⟨t, a, b, c, e1, e2⟩ := shape_of k
    rw [e1]
    have h3 : (shp.map shD)[i]? = (xs.map (·.1))[i]? := by rw [hx2]
    rw [List.getElem?_map, List.getElem?_map, List.getElem?_eq_getElem hxi, shp_get hi] at h3
    simp only [Option.map_some, Option.some.injEq] at h3
    rw [e2] at h3
    simp only [shD, DataW.agg.injEq, List.cons.injEq, DataW.lit.injEq, Lit.string.injEq, Lit.int.injEq, true_and, and_true] at h3
    obtain ⟨q0, q1, q2, q3⟩ := h3
    have h4 : (shpC.toList.drop (i * 4)).take 4 = shpR (wd i, lvl i, few i, mst i) := by
      have : ∀ i, i < 32 → (shpC.toList.drop (i * 4)).take 4 = shpR (wd i, lvl i, few i, mst i) := fun i hi => by
        refine List.ext_getElem? fun j => ?_
        by_cases hj : j < 4
        · rw [List.getElem?_take_of_lt hj, List.getElem?_drop, show i * 4 + j = 4 * i + j by omega]
          show (shp.flatMap shpR)[4 * i + j]? = _
          rw [flat4 shpR (fun _ => rfl) shp i j hj, shp_get hi]
          rfl
        · rw [List.getElem?_eq_none (by rw [List.length_take]; omega), List.getElem?_eq_none (show (shpR (wd i, lvl i, few i, mst i)).length ≤ j from Nat.le_of_not_lt hj)]
      exact this i hi
    rw [h4]
    show _ = [Value.string (wd i), .int .i64 (lvl i : Nat), .int .i64 (few i : Nat), .int .i64 (mst i : Nat)]
    rw [← q1, ← q2, ← q3, bytes_of q0.symm]
  have hcA : cs = shpC := Array.ext' hcs
  subst hcA
  unfold World.var? at hv
  rw [tr_sh] at hv
  simp only [Option.bind_some] at hv
  split at hv
  · rename_i cs' t fr he
    injection hv with hv
    subst hv
    exact ⟨t, fr, he⟩
  · cases hv
end Go.Proofs.YtmaekkhmiafnmaaGreatDoor
