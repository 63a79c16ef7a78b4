/- Create, Append, Remove. -/
import Derived.Test.YtngdgglgmmlmkaaWrite2
namespace Go.Proofs.Ytngdgglgmmlmkaa
open Go.RowKit Go.ChangeMaps

theorem enters (f : FuncId) (fn : Func) (c : Code) (hf : Try.prog.funcs[f]? = some fn) (hname : (fn.name == "runtime.NumGoroutine") = false) (hb : fn.body = some c) (args : Array Value) (w : World) : (callFunc f args).run Try.prog w = .ok (.enter f args) w := by
  have h1 : fn.name ≠ "runtime.NumGoroutine" := by simpa using hname
  simp [callFunc, hf, h1, hb, mark]

theorem box2_no (w : World) (o o' : Obj) : Tch (fun _ => False) w ((w.alloc o).alloc o') := (Tch.alloc _ w o).allocR o'
theorem box3_no (w : World) (o o' o'' : Obj) : Tch (fun _ => False) w (((w.alloc o).alloc o').alloc o'') := ((Tch.alloc _ w o).allocR o').allocR o''
theorem box_one (w : World) (o : Obj) : (w.alloc o).heap[w.heap.size]? = some o := heap_alloc_new w o

theorem mono_did {w w1 w2 : World} {b : Nat} {σ σ1 : Nat → Option Nat} (hb : σ b = some b) (hl : b < w.heap.size) (h : Stp w σ w1 σ1) (t : Tch (fun i => i = b) w1 w2) : Stp w σ w2 σ1 :=
  h.trans ⟨t.mono (fun i _ hi => by rw [hi, h.ext b hl, hb]; exact fun h => by cases h), fun _ _ => rfl⟩

set_option maxHeartbeats 1000000 in
set_option maxRecDepth 100000 in
theorem create_any (b : Nat) (d : Dsk) (σ : Nat → Option Nat) (s : ByteArray) (w : World) (h : DK w b d σ) (hn : d.m.length < maxLen) :
    Calls Try.prog 15 #[.pointer (some ⟨b, 0, none⟩), .string s] w fun x w' => x = .returned (.int .i64 (d.create s.data.toList).1) ∧ ∃ σ', DK w' b (d.create s.data.toList).2 σ' ∧ Stp w σ w' σ' := by
  have t1 := box2_no w (.cells #[.pointer (some ⟨b, 0, none⟩)] 23) (.cells #[.string s] 9)
  obtain ⟨w1, hw1⟩ : ∃ w1, w1 = (w.alloc (.cells #[.pointer (some ⟨b, 0, none⟩)] 23)).alloc (.cells #[.string s] 9) := ⟨_, rfl⟩
  rw [← hw1] at t1
  have h1 := h.no t1
  have hf := refuse_any b d σ s w1 h1
  have p1 : w1.cell? ⟨w.heap.size, 0, none⟩ = some (.pointer (some ⟨b, 0, none⟩)) := by
    rw [hw1, World.cell?_alloc_past _ _ _ (by simp)]
    rw [blk_cell (box_one w _)]; rfl
  have q1 : w1.cell? ⟨w.heap.size + 1, 0, none⟩ = some (.string s) := by
    rw [hw1]
    have := box_one (w.alloc (.cells #[.pointer (some ⟨b, 0, none⟩)] 23)) (.cells #[.string s] 9)
    simp only [World.size_alloc] at this
    rw [blk_cell this]; rfl
  by_cases hr : d.refuse s.data.toList = 0
  · rw [hr] at hf
    obtain ⟨ho, _⟩ := refuse_zero hr
    have hsz : s.size ≤ maxLen := by have := okN_size ho; unfold maxLen; omega
    have t2 : Tch (fun _ => False) w w1.drew := t1.drew
    have h2 := h.no t2
    have p2 : w1.drew.cell? ⟨w.heap.size, 0, none⟩ = some (.pointer (some ⟨b, 0, none⟩)) := p1
    have q2 : w1.drew.cell? ⟨w.heap.size + 1, 0, none⟩ = some (.string s) := q1
    obtain ⟨mb, gm, hW⟩ := h2
    have hl := hW.look hsz
    have c2 : w1.cell? ⟨b, 2, none⟩ = some (.map (some mb)) := hW.c2
    have hgd := hW.get s.data.toList
    cases hg : getL s.data.toList gm with
    | some a =>
      rw [hg] at hl hgd
      simp only [] at hl
      have HR : Hid (d.create s.data.toList = (22, d)) := by show _ = _; simp [Dsk.create, hr, hgd]
      clear hgd
      go_enter Try.func15, Try.ntmps15
      go_wp2_with fail
      rw [← hw1]
      refine hf.mono ?_
      rintro x w2 ⟨rfl, hw2⟩
      subst hw2
      clear hw1
      go_wp2
      go_region
      go_wp2
      go_ret
      rw [HR.out]
      exact ⟨rfl, σ, ⟨mb, gm, hW⟩, Stp.of_no t2⟩
    | none =>
      rw [hg] at hl hgd
      simp only [] at hl
      have hgd' : getL s.data.toList d.m = none := hgd
      by_cases hd : d.die = 1
      · have HR : Hid (d.create s.data.toList = (2, { d with dead := true, die := 0 })) := by show _ = _; simp [Dsk.create, hr, hgd', Dsk.act, hd]
        have ha := act_dies b d σ (.func (.func 47) #[] #[.pointer (some ⟨w.heap.size, 0, none⟩), .pointer (some ⟨w.heap.size + 1, 0, none⟩)]) w1.drew ⟨mb, gm, hW⟩ hd
        clear hgd hgd'
        go_enter Try.func15, Try.ntmps15
        go_wp2_with fail
        rw [← hw1]
        refine hf.mono ?_
        rintro x w2 ⟨rfl, hw2⟩
        subst hw2
        clear hw1
        go_wp2
        go_region
        go_wp2_with fail
        refine ha.mono ?_
        rintro x w3 ⟨rfl, h3, t3⟩
        go_wp2
        go_ret
        rw [HR.out]
        exact ⟨rfl, σ, h3, mono_did h.b h.bl (Stp.of_no t2) t3⟩
      · have HR : Hid (d.create s.data.toList = (0, { d with m := putL s.data.toList ⟨[], 0⟩ d.m, die := d.die - 1 })) := by show _ = _; simp [Dsk.create, hr, hgd', Dsk.act, hd]
        have hd1 := create1_any b d σ s w.heap.size (w.heap.size + 1) w1.drew ⟨mb, gm, hW⟩ hsz hn hgd' p2 q2
        have ha := act_does b d σ 47 #[.pointer (some ⟨w.heap.size, 0, none⟩), .pointer (some ⟨w.heap.size + 1, 0, none⟩)] w1.drew (fun w' d' σ' => d' = { d with m := putL s.data.toList ⟨[], 0⟩ d.m } ∧ Stp w1.drew σ w' σ') ⟨mb, gm, hW⟩ hd
          (enters _ _ _ Try.func47 (by kernel_rfl) rfl _ _) (hd1.mono fun x w' ⟨hx, σ', k1, k2⟩ => ⟨hx, _, σ', k1, rfl, k2⟩)
        clear hgd hgd' hd1
        go_enter Try.func15, Try.ntmps15
        go_wp2_with fail
        rw [← hw1]
        refine hf.mono ?_
        rintro x w2 ⟨rfl, hw2⟩
        subst hw2
        clear hw1
        go_wp2
        go_region
        go_wp2_with fail
        refine ha.mono ?_
        rintro x w3 ⟨rfl, w4, d4, σ4, ⟨rfl, h4⟩, h3, t3⟩
        go_wp2
        go_ret
        rw [HR.out]
        exact ⟨rfl, σ4, h3, mono_did h.b h.bl ((Stp.of_no t2).trans h4) t3⟩
  · have HR : Hid (d.create s.data.toList = (d.refuse s.data.toList, d)) := by show _ = _; simp [Dsk.create, hr]
    have hrb : (d.refuse s.data.toList != 0) = true := by simpa using hr
    go_enter Try.func15, Try.ntmps15
    go_wp2_with fail
    rw [← hw1]
    refine hf.mono ?_
    rintro x w2 ⟨rfl, hw2⟩
    subst hw2
    clear hw1
    go_wp2
    go_ret
    rw [HR.out]
    exact ⟨rfl, σ, h1, Stp.of_no t1⟩
end Go.Proofs.Ytngdgglgmmlmkaa
