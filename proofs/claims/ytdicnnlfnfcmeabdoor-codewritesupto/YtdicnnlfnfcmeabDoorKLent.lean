/- lent and asLent of the law. -/
import Derived.Test.YtdicnnlfnfcmeabDoorKWriter3
import Derived.Deep.AppendLies
import Derived.Lib.BufferMore
namespace Go.Proofs.YtdicnnlfnfcmeabDoor
open Go.RowKit Go.Sort

def ics (l : List Int) : List Value := l.map (Value.int .i64)
theorem ics_length (l : List Int) : (ics l).length = l.length := by simp [ics]
theorem ics_append (a b : List Int) : ics (a ++ b) = ics a ++ ics b := by simp [ics]
theorem ics_one (l : List Int) : ∀ u ∈ ics l, u.oneCell' = true := by
  intro u hu
  simp only [ics, List.mem_map] at hu
  obtain ⟨x, _, rfl⟩ := hu
  rfl
theorem info_int : (Tryd.prog.info? 3).map (fun i => (i.zero, i.size, i.bytes)) = some (some (.int .i64 0), 1, 8) := by kernel_rfl
theorem info_int' : ∃ i0, Tryd.prog.info? 3 = some i0 ∧ i0.zero = some (.int .i64 0) ∧ i0.size = 1 ∧ i0.bytes = 8 := by
  obtain ⟨i0, hi, hz0, hz1, hz2⟩ := info_parts info_int
  exact ⟨i0, hi, hz0, hz1, hz2⟩

theorem eq_nil_no (ad : Addr) (n c : Nat) (w : World) : (binOp .eql 30 (.slice (some ad) n c) (.slice none 0 0)).run Tryd.prog w = .ok (.bool false) w := Lib.run_eql_slice_some_nil w ad n c Tryd.underlying30
theorem eq_nil_yes (w : World) : (binOp .eql 30 (.slice none 0 0) (.slice none 0 0)).run Tryd.prog w = .ok (.bool true) w := Lib.run_eql_slice_nil_nil w 0 0 Tryd.underlying30

theorem own_cap {w : World} {base : Nat} {t : TypeId} {g n cap : Nat} {xs : List Value} (h : w.ownsRow base t 1 (.slice (some ⟨g, 0, none⟩) n cap) n xs) : n ≤ cap ∧ ∃ cur, w.heap[g]? = some (.cells cur t (0, 0)) ∧ cur.size = cap ∧ cur.toList.take n = xs := by
  rcases h.2 with ⟨h1, _⟩ | ⟨g', cap', cur, h1, h2, h3, h4, h5, h6, h7⟩
  · cases h1
  · simp only [Value.slice.injEq, Option.some.injEq, Addr.mk.injEq] at h1
    obtain ⟨⟨rfl, _⟩, _, rfl⟩ := h1
    exact ⟨h4, cur, h3, by simpa using h6, by simpa using h7⟩

theorem alloc_new (w : World) (o : Obj) : (w.alloc o).heap[w.heap.size]? = some o := by show (w.heap.push o)[w.heap.size]? = _; simp

def lentL (l : List Int) : List Int := l ++ [-7, -7, -7, -7]

theorem lent_nil (w : World) : Calls Tryd.prog 24 #[.slice none 0 0] w fun x w' => x = .returned (.slice none 0 0) ∧ w' = w := by
  have he := eq_nil_yes
  go_enter Tryd.func24, Tryd.ntmps24
  go_wp2
  go_ret
  exact ⟨rfl, rfl⟩

set_option maxHeartbeats 1000000 in
set_option maxRecDepth 100000 in
theorem lent_any (l : List Int) (ad : Addr) (c : Nat) (w : World) (hcells : ∀ j u, (ics l)[j]? = some u → w.cell? (ad.add j) = some u) (hlen : l.length ≤ 1048576) :
    Calls Tryd.prog 24 #[.slice (some ad) l.length c] w fun x w' => ∃ g cap cur, x = .returned (.slice (some ⟨g, 0, none⟩) l.length cap) ∧ w.heap.size ≤ g ∧ l.length + 4 ≤ cap ∧
      w'.heap[g]? = some (.cells cur 3 (0, 0)) ∧ cur.size = cap ∧ cur.toList.take (l.length + 4) = ics (lentL l) ∧ Tch (fun _ => False) w w' := by
  obtain ⟨i0, hi, hz0, hz1, hz2⟩ := info_int'
  have he := eq_nil_no ad l.length c
  go_enter Tryd.func24, Tryd.ntmps24
  go_wp2_with (first
    | (at_builtin; refine wpList_append_own_at _ rfl _ _ 30 rfl w.heap.size 3 i0 (.int .i64 0) 1 8 Tryd.underlying30 hi hz0 hz1 hz2 rfl (by decide) (.slice none 0 0) 0 [] rfl (World.ownsRow_nil _ _ _ _) ad l.length c (ics l) rfl (by rw [ics_length]; omega) hcells (ics_one l) (by unfold maxLen; omega) (by omega) (by omega) ?_; intro v1 w1 hown1 hgr1 hnil hat1; clear hnil; rw [Nat.zero_add, List.nil_append] at hown1; obtain ⟨ao1, cp1, hv1⟩ := slice_of hown1; subst hv1)
    | (at_builtin; refine wpList_append_lies _ rfl _ _ 30 rfl w.heap.size 3 i0 (.int .i64 0) 1 8 Tryd.underlying30 hi hz0 hz1 hz2 rfl (by decide) (.slice ao1 l.length cp1) l.length (ics l) rfl (hown1.alloc _) ⟨w1.heap.size, 0, none⟩ 4 4 (ics [-7, -7, -7, -7]) rfl rfl (World.news_of_block (alloc_new _ _)) (ics_one _) (by omega) (by unfold maxLen; omega) (by omega) (by have h5 := hgr1.size; rw [World.size_alloc]; omega) _ rfl ?_; intro g cap w2 hown2 hgr2 hat2 hlt2; obtain ⟨hcap, cur, hh, hcs, hct⟩ := own_cap hown2; have hcap' : l.length ≤ cap := by omega))
  go_ret
  have hge : ∀ k, (Value.slice ao1 l.length cp1).ownBlock = some k → w.heap.size ≤ k := fun k hk => (hown1.lt k hk).1
  have T1 : Tch (fun _ => False) w w1 := ⟨hgr1.os, hgr1.tape, hgr1.output, hgr1.size, fun k hk _ => hgr1.block k hk (fun e => by cases e)⟩
  have T2 : Tch (fun i => w.heap.size ≤ i) (w1.alloc (Obj.cells #[Value.int IntKind.i64 (-7), Value.int IntKind.i64 (-7), Value.int IntKind.i64 (-7), Value.int IntKind.i64 (-7)] 3)) w2 := ⟨hgr2.os, hgr2.tape, hgr2.output, hgr2.size, fun k hk hn => hgr2.block k hk (fun e => hn (hge k e.symm))⟩
  refine ⟨g, cap, cur, rfl, ?_, hcap, hh, hcs, ?_, ?_⟩
  · rcases hat2 with h1 | h1
    · exact hge g h1
    · rw [h1]; have := T1.size; simp; omega
  · rw [hct, lentL, ics_append]
  · exact ge_new (((no_mono T1).allocR _).trans' T2)
end Go.Proofs.YtdicnnlfnfcmeabDoor
