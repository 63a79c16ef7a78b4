import Derived.Test.YtppokgdofgigfaaGreatMGet
import Derived.Test.YtppokgdofgigfaaGreatMPl3
import Derived.Deep.Cut
set_option maxHeartbeats 2000000
set_option maxRecDepth 100000
namespace Go.Proofs.YtppokgdofgigfaaGreat
open Go.RowKit Go Go.Sort Go.Maps
theorem pick9_any (c:Int) (n:Nat) (w:World) (h1: -9223372036854775808≤c) (h2:c≤9223372036854775807) (hn:0<n) (hn2:n≤9223372036854775807):Calls Tryz.prog 7 #[.int .i64 c,.int .i64 n] w fun x w'=>x= .returned (.int .i64 (pkN c n))∧w'=w:=by
 have hn0: ¬(n:Int)=0:=by omega
 have hnb:((n:Int)==0)=false:=by simp;omega
 by_cases hc:c<0
 ·obtain⟨d,hd⟩: ∃d:Nat, -(c+1)=d:=⟨(-(c+1)).toNat,by omega⟩
  obtain⟨rfl⟩:c= -(d:Int) - 1:=by omega
  have HE:Hid (((d:Int) % n)=(pkN (-(d:Int) - 1) n:Nat)):=by
   show _=_
   have e:(if (-(d:Int) - 1)<0 then -((-(d:Int) - 1)+1) else(-(d:Int) - 1))=(d:Int):=by rw[if_pos hc];omega
   simp only[pkN,e]
   have:=Int.emod_nonneg (d:Int) (show(n:Int)≠0 by omega)
   omega
  clear hd
  go_enter Tryz.func7,Tryz.ntmps7
  go_wp2
  go_ret
  exact⟨by rw[←HE.out];rfl,rfl⟩
 ·obtain⟨d,rfl⟩: ∃d:Nat,c=d:=⟨c.toNat,by omega⟩
  have HE:Hid (((d:Int) % n)=(pkN (d:Int) n:Nat)):=by
   show _=_
   have e:(if (d:Int)<0 then -((d:Int)+1) else(d:Int))=(d:Int):=if_neg (by omega)
   simp only[pkN,e]
   have:=Int.emod_nonneg (d:Int) (show(n:Int)≠0 by omega)
   omega
  go_enter Tryz.func7,Tryz.ntmps7
  go_wp2
  go_ret
  exact⟨by rw[←HE.out];rfl,rfl⟩
section
variable {w:World} {hb mb:Nat} {m:Mg} {L:HL} {F:Nat→Prop} {q:Nat}
theorem HS.fresh {w':World} (h:HS w hb mb m L F q) (t:Tch (fun _=>False) w w'):HS w' hb mb m L (fun i=>F i∨w.heap.size≤i∧i<w'.heap.size) q:=by
 obtain⟨tb,T,E,C,σ,h1,h2,h3,h4,h5⟩:=h
 refine⟨tb,T,E,C,σ,h1.no t,h2,h3,(h4.fresh t).mono (fun i hi=>?_),fun i hi=>?_⟩
 ·rcases hi with(hi|hi)|hi
  ·exact .inl (.inl hi)
  ·exact .inr hi
  ·exact .inl (.inr hi)
 ·rcases hi with hi|hi
  ·exact⟨(h5 i hi).1,Nat.lt_of_lt_of_le (h5 i hi).2 t.size⟩
  ·refine⟨?_,hi.2⟩
   cases hs:σ i with
   |none=>rfl
   |some a=>exact absurd (h1.dom i (by rw[hs];exact fun h=>by cases h)) (by omega)
theorem HS.tch {S:Nat→Prop} {w':World} (h:HS w hb mb m L F q) (t:Tch S w w') (hS: ∀i,i<w.heap.size→S i→F i):HS w' hb mb m L F q:=by
 obtain⟨tb,T,E,C,σ,h1,h2,h3,h4,h5⟩:=h
 exact⟨tb,T,E,C,σ,h1.tch t (fun i hi hs=>(h5 i (hS i hi hs)).1),h2,h3,h4.tch t (fun i hi hs=>.inl (hS i hi hs)),fun i hi=>⟨(h5 i hi).1,Nat.lt_of_lt_of_le (h5 i hi).2 t.size⟩⟩
theorem hs_turn {f:FuncId} {args:Array Value} {X:Ending→Prop} {m':Mg} (h:HS w hb mb m L F q) (hc: ∀F',MF w mb m F'→Calls Tryz.prog f args w fun x w'=>X x∧MF w' mb m' F'∧Kept F' w w'):Calls Tryz.prog f args w fun x w'=>X x∧HS w' hb mb m' L F q∧Kept F w w':=by
 obtain⟨tb,T,E,C,σ,h1,h2,h3,h4,h5⟩:=h
 refine(hc _ h4).mono ?_
 rintro x w' ⟨hx,hM,t⟩
 refine⟨hx,⟨tb,T,E,C,σ,h1.tch t (fun i _ hs=>?_),h2,h3,hM,fun i hi=>⟨(h5 i hi).1,Nat.lt_of_lt_of_le (h5 i hi).2 t.size⟩⟩,t.mono (fun i _ hs hf=>hs (.inl hf))⟩
 cases hs':σ i with
 |none=>rfl
 |some a=>exact absurd (Or.inr (by rw[hs'];exact fun h=>by cases h)) hs
theorem HS.mf (h:HS w hb mb m L F q): ∃F',MF w mb m F':=by
 obtain⟨tb,T,E,C,σ,h1,h2,h3,h4,h5⟩:=h
 exact⟨_,h4⟩
theorem begin_h (h:HS w hb mb m L F q) (hn:m.nx≤2147483647):Calls Tryz.prog 15 #[.pointer (some ⟨mb,0,none⟩)] w fun x w'=>x= .returned (.tuple #[.int .i64 m.nx,.int .i64 0])∧HS w' hb mb m.begin L F q∧Kept F w w':=hs_turn (X:=fun x=>x= .returned (.tuple #[.int .i64 m.nx,.int .i64 0])) h (fun F' hM=>begin_f mb m w F' hM hn)
theorem snapshot_h (h:HS w hb mb m L F q):Calls Tryz.prog 10 #[.pointer (some ⟨mb,0,none⟩)] w fun x w'=>SnapOut m w x w':=by
 obtain⟨F',hM⟩:=h.mf
 exact snapshot_f mb m w F' hM
theorem part_h (h:HS w hb mb m L F q) {k:Int} {t:Tx} {i:Int} (hf:fnd m.tx k=some (t,i)) (hp:partE m t i=0) (h1: -9223372036854775808≤k) (h2:k≤9223372036854775807):Calls Tryz.prog 44 #[.pointer (some ⟨mb,0,none⟩),.int .i64 k] w fun x w'=>x= .returned (.tuple #[.int .i64 m.nx,.int .i64 0])∧HS w' hb mb (m.part t i) L F q∧Kept F w w':=hs_turn (X:=fun x=>x= .returned (.tuple #[.int .i64 m.nx,.int .i64 0])) h (fun F' hM=>(part_f mb m w F' hM k h1 h2).mono (fun _ _ ⟨_,ho⟩=>(ho.2 t i hf).2 hp))
theorem back_h (h:HS w hb mb m L F q) {k:Int} {t:Tx} {i:Nat} (hf:fnd m.tx k=some (t,(i:Int))) (hp:may t i=true) (h1: -9223372036854775808≤k) (h2:k≤9223372036854775807):Calls Tryz.prog 45 #[.pointer (some ⟨mb,0,none⟩),.int .i64 k] w fun x w'=>x= .returned (.int .i64 0)∧HS w' hb mb (m.endp t.x i 2) L F q∧Kept F w w':=hs_turn (X:=fun x=>x= .returned (.int .i64 0)) h (fun F' hM=>(back_f mb m w F' hM k h1 h2).mono (fun _ _ ⟨_,ho⟩=>ho.2 t i hf hp))
theorem commit_h (h:HS w hb mb m L F q) {k:Int} {t:Tx} (hf:fnd m.tx k=some (t, -1)) (hp:t.st<3) (h1: -9223372036854775808≤k) (h2:k≤9223372036854775807):Calls Tryz.prog 18 #[.pointer (some ⟨mb,0,none⟩),.int .i64 k] w fun x w'=>x= .returned (.int .i64 0)∧HS w' hb mb (m.fin t.x 3) L F q∧Kept F w w':=hs_turn (X:=fun x=>x= .returned (.int .i64 0)) h (fun F' hM=>(commit_f mb m w F' hM k h1 h2).mono (fun _ _ ⟨_,ho⟩=>(ho.2 t hf).2 (by omega)))
theorem get_f (h:HS w hb mb m L F q) (hq:q≤2000) (k:Int) (h1: -9223372036854775808≤k) (h2:k≤9223372036854775807) (S:ByteArray) (hS:S.size≤maxLen) (mn mx:Int) (l:List Int) (so:Option Addr) (sc:Nat) (own:Int) (h3: -9223372036854775808≤own) (h4:own≤9223372036854775807) (hl:l.length≤9223372036854775807) (hi:IR w so l):
  Calls Tryz.prog 9 #[.pointer (some ⟨hb,0,none⟩),.agg #[.int .i64 mn,.int .i64 mx,.slice so l.length sc],.int .i64 own,.int .i64 k,.string S] w fun x w'=>GetOut w (getV m mn mx l own (chL L k S.data.toList)) x w':=by
 obtain⟨tb,T,E,C,σ,hw,rfl,_,hM,_⟩:=h
 exact get_w w hb mb tb T E C σ q hw hq m _ hM k h1 h2 S hS mn mx l so sc own h3 h4 hl hi
theorem versions_f (h:HS w hb mb m L F q) (hN:(L.map (fun p=>p.2.length)).sum≤1000000):
  Calls Tryz.prog 25 #[.pointer (some ⟨hb,0,none⟩)] w fun x w'=>x= .returned (.int .i64 ((L.map (fun p=>p.2.length)).sum:Nat))∧Tch (fun _=>False) w w':=by
 obtain⟨tb,T,E,C,σ,hw,rfl,_,hM,_⟩:=h
 rw[←cnt_all] at hN ⊢
 exact versions_w w hb mb tb T E C σ q hw hN
end
def keyB (k:Nat):ByteArray:=⟨#[107,UInt8.ofNat (97+k)]⟩
theorem cv_byte (n:Nat) (hn:n<256) (w:World):(convert 85 9 (.slice (some ⟨w.heap.size,0,none⟩) 1 1)).run Tryz.prog (w.alloc (.cells #[.int .u8 (n:Int)] 5))= .ok (.string ⟨#[UInt8.ofNat n]⟩) (w.alloc (.cells #[.int .u8 (n:Int)] 5)):=by
 have:=run_convert_bytes_back (P:=Tryz.prog) (w.alloc (.cells #[.int .u8 (n:Int)] 5)) 85 9 5 ⟨w.heap.size,0,none⟩ 1 [UInt8.ofNat n] Tryz.underlying85 Tryz.underlying5 Tryz.underlying9 (fun j hj=>by
  have e:j=0:=by simpa using hj
  subst e
  rw[add_plain,blk_cell (alloc_new _ _)]
  simp[Nat.mod_eq_of_lt hn])
 exact this
theorem keyOf_any (k:Nat) (hk:k<6) (w:World):Calls Tryz.prog 11 #[.int .i64 k] w fun x w'=>x= .returned (.string (keyB k))∧Tch (fun _=>False) w w':=by
 rcases(by omega:k=0∨k=1∨k=2∨k=3∨k=4∨k=5) with rfl|rfl|rfl|rfl|rfl|rfl
 ·have hcv:(convert 85 9 (.slice (some ⟨w.heap.size,0,none⟩) 1 1)).run Tryz.prog (w.alloc (.cells #[.int .u8 97] 5))= .ok (.string ⟨#[97]⟩) (w.alloc (.cells #[.int .u8 97] 5)):=cv_byte 97 (by decide) w
  go_enter Tryz.func11,Tryz.ntmps11
  go_wp2
  go_ret
  exact⟨rfl,Tch.alloc _ _ _⟩
 ·have hcv:(convert 85 9 (.slice (some ⟨w.heap.size,0,none⟩) 1 1)).run Tryz.prog (w.alloc (.cells #[.int .u8 98] 5))= .ok (.string ⟨#[98]⟩) (w.alloc (.cells #[.int .u8 98] 5)):=cv_byte 98 (by decide) w
  go_enter Tryz.func11,Tryz.ntmps11
  go_wp2
  go_ret
  exact⟨rfl,Tch.alloc _ _ _⟩
 ·have hcv:(convert 85 9 (.slice (some ⟨w.heap.size,0,none⟩) 1 1)).run Tryz.prog (w.alloc (.cells #[.int .u8 99] 5))= .ok (.string ⟨#[99]⟩) (w.alloc (.cells #[.int .u8 99] 5)):=cv_byte 99 (by decide) w
  go_enter Tryz.func11,Tryz.ntmps11
  go_wp2
  go_ret
  exact⟨rfl,Tch.alloc _ _ _⟩
 ·have hcv:(convert 85 9 (.slice (some ⟨w.heap.size,0,none⟩) 1 1)).run Tryz.prog (w.alloc (.cells #[.int .u8 100] 5))= .ok (.string ⟨#[100]⟩) (w.alloc (.cells #[.int .u8 100] 5)):=cv_byte 100 (by decide) w
  go_enter Tryz.func11,Tryz.ntmps11
  go_wp2
  go_ret
  exact⟨rfl,Tch.alloc _ _ _⟩
 ·have hcv:(convert 85 9 (.slice (some ⟨w.heap.size,0,none⟩) 1 1)).run Tryz.prog (w.alloc (.cells #[.int .u8 101] 5))= .ok (.string ⟨#[101]⟩) (w.alloc (.cells #[.int .u8 101] 5)):=cv_byte 101 (by decide) w
  go_enter Tryz.func11,Tryz.ntmps11
  go_wp2
  go_ret
  exact⟨rfl,Tch.alloc _ _ _⟩
 ·have hcv:(convert 85 9 (.slice (some ⟨w.heap.size,0,none⟩) 1 1)).run Tryz.prog (w.alloc (.cells #[.int .u8 102] 5))= .ok (.string ⟨#[102]⟩) (w.alloc (.cells #[.int .u8 102] 5)):=cv_byte 102 (by decide) w
  go_enter Tryz.func11,Tryz.ntmps11
  go_wp2
  go_ret
  exact⟨rfl,Tch.alloc _ _ _⟩
def rowC (c:Int):List Value:=[.int .i64 1,.int .i64 c,.string ⟨#[]⟩]
theorem row_any (c:Int) (w:World):Calls Tryz.prog 17 #[.int .i64 c] w fun x w'=>x= .returned (.slice (some ⟨w.heap.size,0,none⟩) 1 1)∧w'=w.alloc (.cells #[.int .i64 1,.int .i64 c,.string ⟨#[]⟩] 79):=by
 go_enter Tryz.func17,Tryz.ntmps17
 go_wp2
 go_ret
 exact⟨rfl,rfl⟩
theorem row_rd (c:Int) (w:World):RdR (w.alloc (.cells #[.int .i64 1,.int .i64 c,.string ⟨#[]⟩] 79)) (some ⟨w.heap.size,0,none⟩) 1 1 (rowC c):=by
 refine⟨rfl,by simp[rowC,Value.oneCell'],by omega,.inr ⟨_,_,rfl,by simp,fun j u hu=>?_⟩⟩
 rw[blk_cell (alloc_new _ _)]
 simpa[rowC] using hu
theorem number_any (ao:Option Addr) (c:Nat) (k:Nat) (w:World) (hk:k≤1000) (h:RdR w ao 1 c (rowC k)):Calls Tryz.prog 12 #[.slice ao 1 c,.int .i64 0] w fun x w'=>x= .returned (.int .i64 (k+1:Nat))∧w'=w:=by
 rcases h.at' with⟨_,h0,_⟩|⟨g,o,rfl,hg,hc⟩
 ·cases h0
 have c0:=hc 0 _ rfl
 have c1:=hc 1 _ rfl
 have c0':w.cell? ⟨g,o,none⟩=some (.int .i64 1):=c0
 have hwp:wrap64 ((k:Int)+1)=((k+1:Nat):Int):=by unfold wrap64;omega
 clear h hc c0
 go_enter Tryz.func12,Tryz.ntmps12
 go_wp2
 go_ret
 exact⟨rfl,rfl⟩
def St (w0 w:World) (hb mb:Nat) (m:Mg) (L:HL) (q:Nat) (bx:List (Nat×Obj)):Prop:=
 ∃F,HS w hb mb m L F q∧(∀i,i<w0.heap.size→F i)∧(∀p∈bx,w.heap[p.1]? =some p.2∧F p.1)∧Tch (fun _=>False) w0 w
section
variable {w0 w:World} {hb mb:Nat} {m:Mg} {L:HL} {q:Nat} {bx:List (Nat×Obj)}
theorem St.tch (h:St w0 w hb mb m L q bx):Tch (fun _=>False) w0 w:=by
 obtain⟨F,h1,h2,h3,h4⟩:=h
 exact h4
theorem St.box (h:St w0 w hb mb m L q bx) {b:Nat} {o:Obj} (hm:(b,o)∈bx):w.heap[b]? =some o:=by
 obtain⟨F,h1,h2,h3,h4⟩:=h
 exact(h3 _ hm).1
theorem St.no {w':World} (h:St w0 w hb mb m L q bx) (t:Tch (fun _=>False) w w'):St w0 w' hb mb m L q bx:=by
 obtain⟨F,h1,h2,h3,h4⟩:=h
 exact⟨F,h1.no t,h2,fun p hp=>⟨by rw[t.block _ (blk_lt (h3 p hp).1) (fun h=>h)];exact(h3 p hp).1,(h3 p hp).2⟩,h4.trans' t⟩
theorem St.add {w':World} (h:St w0 w hb mb m L q bx) (t:Tch (fun _=>False) w w') (nb:List (Nat×Obj)) (hn: ∀p∈nb,w.heap.size≤p.1∧w'.heap[p.1]? =some p.2):St w0 w' hb mb m L q (bx++nb):=by
 obtain⟨F,h1,h2,h3,h4⟩:=h
 refine⟨_,h1.fresh t,fun i hi=>.inl (h2 i hi),fun p hp=>?_,h4.trans' t⟩
 rcases List.mem_append.1 hp with hp|hp
 ·exact⟨by rw[t.block _ (blk_lt (h3 p hp).1) (fun h=>h)];exact(h3 p hp).1,.inl (h3 p hp).2⟩
 ·exact⟨(hn p hp).2,.inr ⟨(hn p hp).1,blk_lt (hn p hp).2⟩⟩
theorem St.alloc (h:St w0 w hb mb m L q bx) (o:Obj):St w0 (w.alloc o) hb mb m L q (bx++[(w.heap.size,o)]):=h.add (Tch.alloc _ _ _) _ (fun p hp=>by
 obtain rfl:=List.mem_singleton.1 hp
 exact⟨Nat.le_refl _,alloc_new _ _⟩)
theorem St.kept {f:FuncId} {args:Array Value} {X:Ending→Prop} {m':Mg} {L':HL} {q':Nat} (h:St w0 w hb mb m L q bx) (hc: ∀F,HS w hb mb m L F q→(∀p∈bx,F p.1)→(∀i,i<w0.heap.size→F i)→Calls Tryz.prog f args w fun x w'=>X x∧HS w' hb mb m' L' F q'∧Kept F w w'):Calls Tryz.prog f args w fun x w'=>X x∧St w0 w' hb mb m' L' q' bx:=by
 obtain⟨F,h1,h2,h3,h4⟩:=h
 refine(hc F h1 (fun p hp=>(h3 p hp).2) h2).mono ?_
 rintro x w' ⟨hx,hs,t⟩
 exact⟨hx,F,hs,h2,fun p hp=>⟨by rw[t.block _ (blk_lt (h3 p hp).1) (fun hn=>hn (h3 p hp).2)];exact(h3 p hp).1,(h3 p hp).2⟩,h4.trans t (fun i hi hn=>hn (h2 i hi))⟩
theorem St.hs (h:St w0 w hb mb m L q bx): ∃F,HS w hb mb m L F q:=by
 obtain⟨F,h1,_⟩:=h
 exact⟨F,h1⟩
end
theorem begin_s {w0 w:World} {hb mb:Nat} {m:Mg} {L:HL} {q:Nat} {bx:List (Nat×Obj)} (h:St w0 w hb mb m L q bx) (hn:m.nx≤2147483647):Calls Tryz.prog 15 #[.pointer (some ⟨mb,0,none⟩)] w fun x w'=>x= .returned (.tuple #[.int .i64 m.nx,.int .i64 0])∧St w0 w' hb mb m.begin L q bx:=h.kept (X:=fun x=>x= .returned (.tuple #[.int .i64 m.nx,.int .i64 0])) (fun _ hs _ _=>begin_h hs hn)
theorem insert_s {w0 w:World} {hb mb:Nat} {m:Mg} {L:HL} {q:Nat} {bx:List (Nat×Obj)} (h:St w0 w hb mb m L q bx) (hq:q≤1000) (k:Int) (h1: -9223372036854775808≤k) (h2:k≤9223372036854775807) (S:ByteArray) (hS:S.size≤maxLen) (mn mx:Int) (l:List Int) (so:Option Addr) (sc:Nat) (own:Int) (h3: -9223372036854775808≤own) (h4:own≤9223372036854775807) (hl:l.length≤9223372036854775807) (hi:IR w so l) (hso: ∀a,so=some a→ ∃o,(a.block,o)∈bx) (ao:Option Addr) (n c:Nat) (cs:List Value) (hr:RdR w ao n c cs):
  Calls Tryz.prog 16 #[.pointer (some ⟨hb,0,none⟩),.agg #[.int .i64 mn,.int .i64 mx,.slice so l.length sc],.int .i64 own,.int .i64 k,.string S,.slice ao n c] w fun x w'=>x= .returned (.int .i64 (insE m mn mx l own (chL L k S.data.toList):Nat))∧St w0 w' hb mb m (if insE m mn mx l own (chL L k S.data.toList)=0 then appL L k S.data.toList ⟨own,true,n,cs⟩ else L) (q+3) bx:=h.kept (X:=fun x=>x= .returned (.int .i64 (insE m mn mx l own (chL L k S.data.toList):Nat))) (fun F hs hb' _=>(insert_f w hb mb m L F q hs hq k h1 h2 S hS mn mx l so sc own h3 h4 hl hi (fun a ha=>by obtain⟨o,ho⟩:=hso a ha;exact hb' _ ho) ao n c cs hr).mono (fun _ _ ⟨hx,hy⟩=>⟨hx,hy⟩))
theorem St.first {w0 w:World} {hb mb:Nat} {m:Mg} {L:HL} {q:Nat} (hs:HS w hb mb m L (fun i=>i<w0.heap.size) q) (t:Tch (fun _=>False) w0 w):St w0 w hb mb m L q []:=⟨_,hs,fun _ h=>h,(fun p hp=>by cases hp),t⟩
def ints (l:List Nat):List Int:=l.map (fun x:Nat=>(x:Int))
theorem IR.of_own {w:World} {base:Nat} {ao:Option Addr} {n c:Nat} {l:List Nat} (h:w.ownsRow base 3 1 (.slice ao n c) n (icl l)):IR w ao (l.map (fun x:Nat=>(x:Int))):=fun k x hk=>by
 rw[List.getElem?_map] at hk
 cases hl:l[k]? with
 |none=>rw[hl] at hk;cases hk
 |some y=>
  rw[hl] at hk
  simp only[Option.map_some,Option.some.injEq] at hk
  subst hk
  rcases h.2 with⟨e,h0⟩|⟨g,cap,cur,e,_,hg,_,_,hs,ht⟩
  ·have h1:=h.1
   rw[icl_len,h0] at h1
   have:=(List.getElem?_eq_some_iff.1 hl).1
   omega
  ·injection e with e
   subst e
   have h9:=h.cells (g:=g) rfl k (.int .i64 (y:Nat)) (by simp[icl,hl])
   rw[add_plain] at h9
   exact⟨g,0,rfl,h9⟩
theorem snap_s {w0 w:World} {hb mb:Nat} {m:Mg} {L:HL} {q:Nat} {bx:List (Nat×Obj)} (h:St w0 w hb mb m L q bx):Calls Tryz.prog 10 #[.pointer (some ⟨mb,0,none⟩)] w fun x w'=> ∃ao c nb,x= .returned (.agg #[.int .i64 (m.on.headD m.nx:Nat),.int .i64 m.nx,.slice ao m.on.length c])∧St w0 w' hb mb m L q (bx++nb)∧Tch (fun _=>False) w w'∧(∀a,ao=some a→ ∃o,(a.block,o)∈nb)∧ ∀W:World,(∀p∈nb,W.heap[p.1]? =some p.2)→IR W ao (ints m.on):=by
 obtain⟨F,hs⟩:=h.hs
 refine(snapshot_h hs).mono ?_
 rintro x w' ⟨⟨v',rfl,ho⟩,t⟩
 obtain⟨ao,c,rfl⟩:=row_slice ho
 cases ao with
 |none=>exact⟨none,c,[],rfl,h.add t [] (fun p hp=>by cases hp),t,(fun a ha=>by cases ha),fun W _ k n hk=>by
   have hl:m.on.length=0:=by
    rcases ho.2 with⟨_,h0⟩|⟨g,cap,cur,e,_⟩
    ·exact h0
    ·cases e
   have:ints m.on=[]:=List.length_eq_zero_iff.1 (by simp[ints,hl])
   rw[this] at hk;simp at hk⟩
 |some a=>
  obtain⟨g,cap,cur,e,hg0,hg,r1,r2,r3,r4⟩:=ho.2.resolve_left (fun h=>by cases h.1)
  cases e
  refine⟨some ⟨g,0,none⟩,c,[(g,.cells cur 3 (0,0))],rfl,h.add t _ (fun p hp=>?_),t,fun a ha=>?_,fun W hW=>?_⟩
  ·obtain rfl:=List.mem_singleton.1 hp
   exact⟨hg0,hg⟩
  ·cases ha;exact⟨_,List.mem_singleton.2 rfl⟩
  ·exact IR.of_own (base:=w.heap.size) ⟨ho.1,.inr ⟨g,c,cur,rfl,hg0,hW _ (List.mem_singleton.2 rfl),r1,r2,r3,r4⟩⟩
theorem eq_row (c:Int) (w:World):(Op.equalIn 10000 79 (.agg #[.int .i64 1,.int .i64 c,.string ⟨#[]⟩]) (.agg #[.int .i64 1,.int .i64 c,.string ⟨#[]⟩])).run Tryz.prog w= .ok true w:=by
 have u3:=Tryz.underlying3
 have u9:=Tryz.underlying9
 have hS:Tryz.prog.underlying 79=some (.struct (Tryz.prog.fieldsOf 79)):=by kernel_rfl
 have hp:Tryz.prog.stoodInHeld 79=false:=by kernel_rfl
 rw[show(10000:Nat)=9999+1 from rfl,run_equalIn_agg w 9999 79 _ _ hS hp]
 simp only[Program.fieldsOf,Tryz.underlying79]
 go_simp
theorem ne_row (c:Int) (w:World):(binOp .neq 79 (.agg #[.int .i64 1,.int .i64 c,.string ⟨#[]⟩]) (.agg #[.int .i64 1,.int .i64 c,.string ⟨#[]⟩])).run Tryz.prog w= .ok (.bool false) w:=by
 rw[run_neq_struct,eq_row];rfl
theorem same_any (c:Int) (ao bo:Option Addr) (ac bc:Nat) (w:World) (ha:RdR w ao 1 ac (rowC c)) (hb:RdR w bo 1 bc (rowC c)):Calls Tryz.prog 19 #[.slice ao 1 ac,.slice bo 1 bc] w fun x w'=>x= .returned (.bool true)∧Tch (fun _=>False) w w':=by
 rcases ha.at' with⟨_,h0,_⟩|⟨g,o,rfl,hg,hc⟩
 ·cases h0
 rcases hb.at' with⟨_,h0,_⟩|⟨g2,o2,rfl,hg2,hc2⟩
 ·cases h0
 have a0:w.cell? ⟨g,o,none⟩=some (.int .i64 1):=hc 0 _ rfl
 have a1:w.cell? ⟨g,o+1,none⟩=some (.int .i64 c):=hc 1 _ rfl
 have a2:w.cell? ⟨g,o+2,none⟩=some (.string ⟨#[]⟩):=hc 2 _ rfl
 have b0:w.cell? ⟨g2,o2,none⟩=some (.int .i64 1):=hc2 0 _ rfl
 have b1:w.cell? ⟨g2,o2+1,none⟩=some (.int .i64 c):=hc2 1 _ rfl
 have b2:w.cell? ⟨g2,o2+2,none⟩=some (.string ⟨#[]⟩):=hc2 2 _ rfl
 have hne:=ne_row c
 clear ha hb hc hc2
 go_enter Tryz.func19,Tryz.ntmps19
 go_wp2
 refine wp_loop_rounds 2 ?_
 rw[rounds_succ]
 go_wp2
 go_region
 go_wp2
 rw[rounds_succ]
 go_wp2
 go_ret
 exact⟨rfl,(Tch.refl _ _).drew⟩
end Go.Proofs.YtppokgdofgigfaaGreat
namespace Go.Proofs.YtppokgdofgigfaaGreat.F
open Go.RowKit Go Go.Sort
set_option maxRecDepth 100000
structure Sx where
 so:Option Addr
 sc:Nat
 po:Option Addr
 pc:Nat
 wo:Option Addr
 wc:Nat
def seC (s:Se) (a:Sx):List Value:=[.bool s.op,.bool s.pp,.int .i64 s.x,.int .i64 s.mn,.int .i64 s.mx,.slice a.so s.on.length a.sc,.int .i64 (s.base.getD 0 0),.int .i64 (s.base.getD 1 0),.int .i64 (s.base.getD 2 0),.int .i64 (s.base.getD 3 0),.int .i64 (s.base.getD 4 0),.int .i64 (s.base.getD 5 0),.int .i64 s.wh,.slice a.po s.ps.length a.pc,.slice a.wo s.ws.length a.wc]
def prC (l:List Pr):List Value:=l.flatMap (fun p=>[.int .i64 p.x,.int .i64 p.par,.bool p.live,.bool p.bk])
def wtC (l:List Wt):List Value:=l.flatMap (fun w=>[.int .i64 w.pt,.int .i64 w.key,.bool w.gone,.int .i64 w.n])
theorem prC_get: ∀(l:List Pr) (i:Nat) (p:Pr),l[i]? =some p→(prC l)[i*4]? =some (.int .i64 p.x)∧(prC l)[i*4+1]? =some (.int .i64 p.par)∧(prC l)[i*4+2]? =some (.bool p.live)∧(prC l)[i*4+3]? =some (.bool p.bk)
 |[],_,_,h=>by cases h
 |q::l,0,p,h=>by
  injection h with h;subst h
  exact⟨rfl,rfl,rfl,rfl⟩
 |q::l,i+1,p,h=>by
  have:=prC_get l i p h
  have e:prC (q::l)=[.int .i64 q.x,.int .i64 q.par,.bool q.live,.bool q.bk]++prC l:=rfl
  rw[e,show(i+1)*4=4+i*4 by omega]
  refine⟨?_,?_,?_,?_⟩<;>rw[List.getElem?_append_right (by simp only[List.length_cons,List.length_nil];omega)]<;>simp only[List.length_cons,List.length_nil]
  ·rw[show 4+i*4 - (0+1+1+1+1)=i*4 by omega];exact this.1
  ·rw[show 4+i*4+1 - (0+1+1+1+1)=i*4+1 by omega];exact this.2.1
  ·rw[show 4+i*4+2 - (0+1+1+1+1)=i*4+2 by omega];exact this.2.2.1
  ·rw[show 4+i*4+3 - (0+1+1+1+1)=i*4+3 by omega];exact this.2.2.2
theorem wtC_get: ∀(l:List Wt) (i:Nat) (p:Wt),l[i]? =some p→(wtC l)[i*4]? =some (.int .i64 p.pt)∧(wtC l)[i*4+1]? =some (.int .i64 p.key)∧(wtC l)[i*4+2]? =some (.bool p.gone)∧(wtC l)[i*4+3]? =some (.int .i64 p.n)
 |[],_,_,h=>by cases h
 |q::l,0,p,h=>by
  injection h with h;subst h
  exact⟨rfl,rfl,rfl,rfl⟩
 |q::l,i+1,p,h=>by
  have:=wtC_get l i p h
  have e:wtC (q::l)=[.int .i64 q.pt,.int .i64 q.key,.bool q.gone,.int .i64 q.n]++wtC l:=rfl
  rw[e,show(i+1)*4=4+i*4 by omega]
  refine⟨?_,?_,?_,?_⟩<;>rw[List.getElem?_append_right (by simp only[List.length_cons,List.length_nil];omega)]<;>simp only[List.length_cons,List.length_nil]
  ·rw[show 4+i*4 - (0+1+1+1+1)=i*4 by omega];exact this.1
  ·rw[show 4+i*4+1 - (0+1+1+1+1)=i*4+1 by omega];exact this.2.1
  ·rw[show 4+i*4+2 - (0+1+1+1+1)=i*4+2 by omega];exact this.2.2.1
  ·rw[show 4+i*4+3 - (0+1+1+1+1)=i*4+3 by omega];exact this.2.2.2
def AtF (w:World) (b off:Nat) (cs:List Value):Prop:= ∀j u,cs[j]? =some u→w.cell? ⟨b,off+j,none⟩=some u
def SlF (w:World) (ao:Option Addr) (cs:List Value):Prop:=cs≠[]→ ∃g,ao=some ⟨g,0,none⟩∧g<w.heap.size∧AtF w g 0 cs
structure SR (w:World) (b off:Nat) (s:Se) (a:Sx):Prop where
 lt:b<w.heap.size
 c:AtF w b off (seC s a)
 p:SlF w a.po (prC s.ps)
 q:SlF w a.wo (wtC s.ws)
 pl:s.ps.length≤1000
 wl:s.ws.length≤1000
 pr: ∀(i:Nat) (v:Pr),s.ps[i]? =some v→ -1≤v.par∧v.par<i∧v.x≤1000000
 wr: ∀v∈s.ws, -1≤v.pt∧v.pt<s.ps.length∧v.key<6∧v.n<1000
theorem AtF.no {w w':World} {b off:Nat} {cs:List Value} (h:AtF w b off cs) (hb:b<w.heap.size) (t:Tch (fun _=>False) w w'):AtF w' b off cs:=fun j u hu=>by
 rw[t.cell (p:=⟨b,off+j,none⟩) hb (fun e=>e)];exact h j u hu
theorem SlF.no {w w':World} {ao:Option Addr} {cs:List Value} (h:SlF w ao cs) (t:Tch (fun _=>False) w w'):SlF w' ao cs:=fun hc=>by
 obtain⟨g,e,hg,ha⟩:=h hc
 exact⟨g,e,Nat.lt_of_lt_of_le hg t.size,ha.no hg t⟩
theorem SR.no {w w':World} {b off:Nat} {s:Se} {a:Sx} (h:SR w b off s a) (t:Tch (fun _=>False) w w'):SR w' b off s a:=
 ⟨Nat.lt_of_lt_of_le h.lt t.size,h.c.no h.lt t,h.p.no t,h.q.no t,h.pl,h.wl,h.pr,h.wr⟩
theorem prC_ne {l:List Pr} (h:l≠[]):prC l≠[]:=by
 cases l with
 |nil=>exact absurd rfl h
 |cons a l=>exact fun e=>by cases e
theorem wtC_ne {l:List Wt} (h:l≠[]):wtC l≠[]:=by
 cases l with
 |nil=>exact absurd rfl h
 |cons a l=>exact fun e=>by cases e
theorem SR.part {w:World} {b off:Nat} {s:Se} {a:Sx} (h:SR w b off s a) {i:Nat} {p:Pr} (hp:s.ps[i]? =some p): ∃g,a.po=some ⟨g,0,none⟩∧w.cell? ⟨g,i*4,none⟩=some (.int .i64 p.x)∧w.cell? ⟨g,i*4+1,none⟩=some (.int .i64 p.par)∧w.cell? ⟨g,i*4+2,none⟩=some (.bool p.live)∧w.cell? ⟨g,i*4+3,none⟩=some (.bool p.bk):=by
 obtain⟨g,e,_,ha⟩:=h.p (prC_ne (fun e=>by rw[e] at hp;cases hp))
 obtain⟨h0,h1,h2,h3⟩:=prC_get s.ps i p hp
 have k0:=ha _ _ h0
 have k1:=ha _ _ h1
 have k2:=ha _ _ h2
 have k3:=ha _ _ h3
 rw[Nat.zero_add] at k0 k1 k2 k3
 exact⟨g,e,k0,k1,k2,k3⟩
theorem SR.write {w:World} {b off:Nat} {s:Se} {a:Sx} (h:SR w b off s a) {i:Nat} {p:Wt} (hp:s.ws[i]? =some p): ∃g,a.wo=some ⟨g,0,none⟩∧w.cell? ⟨g,i*4,none⟩=some (.int .i64 p.pt)∧w.cell? ⟨g,i*4+1,none⟩=some (.int .i64 p.key)∧w.cell? ⟨g,i*4+2,none⟩=some (.bool p.gone)∧w.cell? ⟨g,i*4+3,none⟩=some (.int .i64 p.n):=by
 obtain⟨g,e,_,ha⟩:=h.q (wtC_ne (fun e=>by rw[e] at hp;cases hp))
 obtain⟨h0,h1,h2,h3⟩:=wtC_get s.ws i p hp
 have k0:=ha _ _ h0
 have k1:=ha _ _ h1
 have k2:=ha _ _ h2
 have k3:=ha _ _ h3
 rw[Nat.zero_add] at k0 k1 k2 k3
 exact⟨g,e,k0,k1,k2,k3⟩
theorem standing_any (w:World) (b off:Nat) (s:Se) (a:Sx) (h:SR w b off s a) (v:Wt) (h1: -1≤v.pt) (h2:v.pt<s.ps.length):
  Calls Tryz.prog 65 #[.pointer (some ⟨b,off,none⟩),.agg #[.int .i64 v.pt,.int .i64 v.key,.bool v.gone,.int .i64 v.n]] w fun x w'=>x= .returned (.bool (stdI s v.pt))∧Tch (fun _=>False) w w':=by
 obtain⟨pt,key,gone,n⟩:=v
 dsimp only at h1 h2 ⊢
 have c13:w.cell? ⟨b,off+13,none⟩=some (.slice a.po s.ps.length a.pc):=h.c 13 _ rfl
 have hb:=h.lt
 by_cases h0:0≤pt
 ·obtain⟨i,rfl⟩: ∃i:Nat,pt=i:=⟨pt.toNat,by omega⟩
  have hi:i<s.ps.length:=by omega
  obtain⟨g,e,_,_,_,k3⟩:=h.part (List.getElem?_eq_getElem hi)
  have hstd:stdI s (i:Int)= !(s.ps[i]).bk:=by
   unfold stdI
   rw[if_pos h0]
   simp only[Int.toNat_natCast,List.getElem?_eq_getElem hi]
  rw[hstd]
  generalize (s.ps[i]).bk=bk at k3 ⊢
  have hpl:=h.pl
  rw[e] at c13
  obtain⟨ln,hln⟩: ∃ln,ln=s.ps.length:=⟨_,rfl⟩
  rw[←hln] at c13 hi hpl
  have hlt:=h.p (prC_ne (fun e=>by rw[e] at hln;simp at hln;omega))
  have hgl:g<w.heap.size:=by
   obtain⟨g',e',hg',_⟩:=hlt
   rw[e] at e';injection e' with e';injection e' with e' _
   omega
  obtain⟨w0,hw0⟩: ∃w0,w0=w.alloc (.cells #[.int .i64 (i:Int),.int .i64 (key:Int),.bool gone,.int .i64 (n:Int)] 104):=⟨_,rfl⟩
  obtain⟨N,hN⟩: ∃N,N=w.heap.size:=⟨_,rfl⟩
  have t0:Tch (fun _=>False) w w0:=by rw[hw0];exact Tch.alloc _ _ _
  have d13:w0.cell? ⟨b,off+13,none⟩=some (.slice (some ⟨g,0,none⟩) ln a.pc):=by rw[t0.cell (p:=⟨b,off+13,none⟩) hb (fun e=>e)];exact c13
  have d3:w0.cell? ⟨g,i*4+3,none⟩=some (.bool bk):=by rw[t0.cell (p:=⟨g,i*4+3,none⟩) hgl (fun e=>e)];exact k3
  have x0:w0.cell? ⟨N,0,none⟩=some (.int .i64 (i:Int)):=by rw[hw0,hN,blk_cell (alloc_new _ _)];rfl
  have HT0:Hid _:=t0
  have HW0:Hid (w0=_):=hw0
  have HN:Hid (N=w.heap.size):=hN
  have hi0: ¬(i:Int)<0:=by omega
  clear h hstd hln h2 e k3 c13 t0 hw0 hN hb hgl hlt
  go_enter Tryz.func65,Tryz.ntmps65
  go_upto_region 1 with(fail)
  rw[←HW0.out, ←HN.out]
  go_quiet (fail)
  go_wp2_with fail
  go_ret
  exact⟨rfl,HT0.out.drewN nq⟩
 ·have e:pt= -1:=by omega
  subst e
  have hstd:stdI s (-1)=true:=rfl
  rw[hstd]
  obtain⟨w0,hw0⟩: ∃w0,w0=w.alloc (.cells #[.int .i64 (-1),.int .i64 (key:Int),.bool gone,.int .i64 (n:Int)] 104):=⟨_,rfl⟩
  obtain⟨N,hN⟩: ∃N,N=w.heap.size:=⟨_,rfl⟩
  have t0:Tch (fun _=>False) w w0:=by rw[hw0];exact Tch.alloc _ _ _
  have x0:w0.cell? ⟨N,0,none⟩=some (.int .i64 (-1)):=by rw[hw0,hN,blk_cell (alloc_new _ _)];rfl
  have HT0:Hid _:=t0
  have HW0:Hid (w0=_):=hw0
  have HN:Hid (N=w.heap.size):=hN
  clear h hstd h1 h2 h0 c13 hb t0 hw0 hN
  go_enter Tryz.func65,Tryz.ntmps65
  go_upto_region 1 with(fail)
  rw[←HW0.out, ←HN.out]
  go_quiet (fail)
  go_wp2_with fail
  go_ret
  exact⟨rfl,HT0.out.drewN nq⟩
end Go.Proofs.YtppokgdofgigfaaGreat.F
