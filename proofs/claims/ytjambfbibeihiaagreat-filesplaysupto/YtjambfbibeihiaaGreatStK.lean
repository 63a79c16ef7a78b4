import Derived.Test.YtjambfbibeihiaaGreatStC
import Derived.Test.YtjambfbibeihiaaGreatStJ
/- A step of any kind. -/
namespace Go.Proofs.YtjambfbibeihiaaGreat
set_option maxRecDepth 100000
open Go.RowKit Go.ChangeMaps Go.Sort

section
variable (bb T k db rb : Nat) (d : Dsk) (c kd N M : Int) (tw : Bool) (nm S : ByteArray) (lo : Option Addr) (ln lc : Nat) (nmL : Nat → ByteArray) (byL : Nat → Int) (hN wN hF wF : Value) (ω : Nat → Nat) (w : World)

theorem step_any (hb : BO w ω bb T hN wN hF wF) (hp : PR w ω k db rb d) (hk : 1 ≤ k ∧ k ≤ 3) (hl : d.m.length + 20 ≤ 1099511627776) (hT : T ≤ 4294967296) (hc : 1 ≤ c ∧ c ≤ 1000000000) (hn1 : -9223372036854775808 ≤ N ∧ N ≤ 9223372036854775807) (hm1 : -9223372036854775808 ≤ M ∧ M ≤ 9223372036854775807) (hs : nm.size ≤ maxLen) (hL : KLs w lo ln nmL byL) (hLω : ∀ a, 0 < ln → lo = some a → a.block < w.heap.size ∧ ω a.block = 0) (hnil : lo = none → ln = 0 ∧ lc = 0) (hn : (ln + 2) * 40 ≤ 140737488355328) :
    Calls Tryz.prog 6 #[pairV db rb c, .pointer (some ⟨bb, 0, none⟩), opV kd N M tw nm S lo ln lc] w fun x w' => ∃ db' rb' c', x = .returned (.tuple #[pairV db' rb' c', .bool true]) ∧ (1 ≤ c' ∧ c' ≤ 1000000000) ∧ Stepped w ω bb T k d w' db' rb' := by
  have key : (Calls Tryz.prog 6 #[pairV db rb c, .pointer (some ⟨bb, 0, none⟩), opV kd N M tw nm S lo ln lc] w fun x w' => x = .returned (.tuple #[pairV db rb c, .bool true]) ∧ Stepped w ω bb T k d w' db rb) → Calls Tryz.prog 6 #[pairV db rb c, .pointer (some ⟨bb, 0, none⟩), opV kd N M tw nm S lo ln lc] w fun x w' => ∃ db' rb' c', x = .returned (.tuple #[pairV db' rb' c', .bool true]) ∧ (1 ≤ c' ∧ c' ≤ 1000000000) ∧ Stepped w ω bb T k d w' db' rb' := fun h => by
    refine h.mono ?_
    rintro x w' ⟨h1, h2⟩
    exact ⟨db, rb, c, h1, hc, h2⟩
  by_cases h : 1 ≤ kd ∧ kd ≤ 19
  · have hcs : kd = 1 ∨ kd = 2 ∨ kd = 3 ∨ kd = 4 ∨ kd = 5 ∨ kd = 6 ∨ kd = 7 ∨ kd = 8 ∨ kd = 9 ∨ kd = 10 ∨ kd = 11 ∨ kd = 12 ∨ kd = 13 ∨ kd = 14 ∨ kd = 15 ∨ kd = 16 ∨ kd = 17 ∨ kd = 18 ∨ kd = 19 := by omega
    have hl2 : (d.m.length + 1) * 40 ≤ 140737488355328 := by omega
    rcases hcs with rfl | rfl | rfl | rfl | rfl | rfl | rfl | rfl | rfl | rfl | rfl | rfl | rfl | rfl | rfl | rfl | rfl | rfl | rfl
    · exact key (step_1 bb T k db rb d c N M tw nm S lo ln lc hN wN hF wF ω w hb hp hk hl2 hn1.2)
    · exact key (step_2 bb T k db rb d c N M tw nm S lo ln lc hN wN hF wF ω w hb hp hk hl2 hn1.2)
    · exact key (step_3 bb T k db rb d c N M tw nm S lo ln lc hN wN hF wF ω w hb hp hk hl2 hn1.2 hm1.2)
    · exact key (step_4 bb T k db rb d c N M tw nm S lo ln lc hN wN hF wF ω w hb hp hk hl2)
    · exact key (step_5 bb T k db rb d c N M tw nm S lo ln lc hN wN hF wF ω w hb hp hk hl2 hn1.2)
    · exact key (step_6 bb T k db rb d c N M tw nm S lo ln lc hN wN hF wF ω w hb hp hk hl2 hn1.2)
    · exact key (step_7 bb T k db rb d c N M tw nm S lo ln lc hN wN hF wF ω w hb hp hk hl2 hn1.2)
    · exact key (step_8 bb T k db rb d c N M tw nm S lo ln lc hN wN hF wF ω w hb hp hk hl2 hn1.2)
    · exact key (step_9 bb T k db rb d c N M tw nm S lo ln lc hN wN hF wF ω w hb hp hk hT hl)
    · exact key (step_10 bb T k db rb d c N M tw nm S lo ln lc hN wN hF wF ω w hb hp hk hl2)
    · exact key (step_11 bb T k db rb d c N M tw nm S lo ln lc hN wN hF wF ω w hb hp hk hl2 hn1.2)
    · exact key (step_12 bb T k db rb d c N M tw nm S lo ln lc hN wN hF wF ω w hb hp hk hl2 hn1.2)
    · exact key (step_13 bb T k db rb d c N M tw nm S lo ln lc hN wN hF wF ω w hb hp hk hl2)
    · exact key (step_14 bb T k db rb d c N M tw nm S lo ln lc hN wN hF wF ω w hb hp hk hl2 hs)
    · exact key (step_15 bb T k db rb d c N M tw nm S lo ln lc nmL byL hN wN hF wF ω w hb hp hk hl2 hL hLω hnil hn)
    · exact key (step_16 bb T k db rb d c N M tw nm S lo ln lc nmL byL hN wN hF wF ω w hb hp hk hl2 hL hnil hn)
    · exact key (step_17 bb T k db rb d c N M tw nm S lo ln lc hN wN hF wF ω w hb hp hk hT hl)
    · exact step_18 bb T k db rb d c N M tw nm S lo ln lc hN wN hF wF ω w hb hp hk hl hc
    · exact key (step_19 bb T k db rb d c N M tw nm S lo ln lc hN wN hF wF ω w hb hp hk hc hn1 hm1)
  · exact key (step_none bb T k db rb d c N M tw nm S lo ln lc hN wN hF wF ω w kd hb hp hk h)
end
end Go.Proofs.YtjambfbibeihiaaGreat
