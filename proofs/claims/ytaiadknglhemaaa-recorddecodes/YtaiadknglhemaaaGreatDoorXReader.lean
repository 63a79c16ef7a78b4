import Derived.Test.YtaiadknglhemaaaGreatDoorKeeps
import Derived.Lib.AtoiAll
import Derived.Lib.ItoaNum
import Derived.Lib.ItoaLen
import Derived.Lib.ItoaMem
import Derived.Test.YtaiadknglhemaaaGreatDoorCName2
import Derived.Test.YtaiadknglhemaaaGreatDoorWriter
set_option maxHeartbeats 2000000
set_option maxRecDepth 100000
namespace Go.Proofs.YtaiadknglhemaaaGreatDoor
open Go.RowKit
def wordCells:List Value:=[.string ⟨#[110,117,108,108]⟩,.int .i64 0,.int .i64 0,.string ⟨#[]⟩,.string ⟨#[102,97,108,115,101]⟩,.int .i64 3,.int .i64 0,.string ⟨#[]⟩,.string ⟨#[116,114,117,101]⟩,.int .i64 3,.int .i64 1,.string ⟨#[]⟩]
def HWd (w:World):Prop:= ∀j u,wordCells[j]? =some u→w.cell? ⟨3,j,none⟩=some u
theorem HWd.lt {w:World} (h:HWd w):3<w.heap.size:=cell_lt (h 0 _ rfl)
theorem HWd.tch {S:Nat→Prop} {w w':World} (h:HWd w) (t:Tch S w w') (h0: ¬S 3):HWd w':=fun j u hu=>(t.cell (p:=⟨_,_,none⟩) h.lt h0).trans (h j u hu)
theorem word_0 (W:World):(Instr.index 224 (.agg #[.string ⟨#[110,117,108,108]⟩,.int .i64 0,.int .i64 0,.string ⟨#[]⟩,.string ⟨#[102,97,108,115,101]⟩,.int .i64 3,.int .i64 0,.string ⟨#[]⟩,.string ⟨#[116,114,117,101]⟩,.int .i64 3,.int .i64 1,.string ⟨#[]⟩]) (.int .i64 0)).run Tryz.prog W= .ok (.agg #[.string ⟨#[110,117,108,108]⟩,.int .i64 0,.int .i64 0,.string ⟨#[]⟩]) W:=by kernel_rfl
theorem word_1 (W:World):(Instr.index 224 (.agg #[.string ⟨#[110,117,108,108]⟩,.int .i64 0,.int .i64 0,.string ⟨#[]⟩,.string ⟨#[102,97,108,115,101]⟩,.int .i64 3,.int .i64 0,.string ⟨#[]⟩,.string ⟨#[116,114,117,101]⟩,.int .i64 3,.int .i64 1,.string ⟨#[]⟩]) (.int .i64 1)).run Tryz.prog W= .ok (.agg #[.string ⟨#[102,97,108,115,101]⟩,.int .i64 3,.int .i64 0,.string ⟨#[]⟩]) W:=by kernel_rfl
theorem word_2 (W:World):(Instr.index 224 (.agg #[.string ⟨#[110,117,108,108]⟩,.int .i64 0,.int .i64 0,.string ⟨#[]⟩,.string ⟨#[102,97,108,115,101]⟩,.int .i64 3,.int .i64 0,.string ⟨#[]⟩,.string ⟨#[116,114,117,101]⟩,.int .i64 3,.int .i64 1,.string ⟨#[]⟩]) (.int .i64 2)).run Tryz.prog W= .ok (.agg #[.string ⟨#[116,114,117,101]⟩,.int .i64 3,.int .i64 1,.string ⟨#[]⟩]) W:=by kernel_rfl
theorem literal_text (s:ByteArray) (w:World) (hw:HWd w) (q:ByteArray) (hq: ∀W,Calls Tryz.prog 156 #[.string s] W fun x w'=>x= .returned (.string q)∧Tch (fun _=>False) W w'):
  Calls Tryz.prog 143 #[vA 2 0 s] w fun x w'=>x= .returned (.string q)∧Tch (fun _=>False) w w':=by
 have hl:=hw.lt
 have hw1:=hw.tch (Tch.alloc (fun _=>False) w (.cells #[.int .i64 2,.int .i64 0,.string s] 58)) (fun h=>h)
 have HC:Hid (∀W,Tch (fun _=>False) (w.alloc (.cells #[.int .i64 2,.int .i64 0,.string s] 58)) W→HWd W∧W.cell? ⟨w.heap.size,0,none⟩=some (.int .i64 2)∧W.cell? ⟨w.heap.size,1,none⟩=some (.int .i64 0)∧W.cell? ⟨w.heap.size,2,none⟩=some (.string s)):=fun W t=>
  ⟨hw1.tch t (fun h=>h),box_tch t⟩
 have w0:=hw 0 _ rfl;have w1:=hw 1 _ rfl;have w2:=hw 2 _ rfl;have w3:=hw 3 _ rfl;have w4:=hw 4 _ rfl;have w5:=hw 5 _ rfl
 have w6:=hw 6 _ rfl;have w7:=hw 7 _ rfl;have w8:=hw 8 _ rfl;have w9:=hw 9 _ rfl;have w10:=hw 10 _ rfl;have w11:=hw 11 _ rfl
 clear hw hw1
 go_enter Tryz.func143,Tryz.ntmps143
 go_wp2_with fail
 clear w0 w1 w2 w3 w4 w5 w6 w7 w8 w9 w10 w11
 go_loopw [6] (fun i wr=> ∃k:Nat,i= .int .i64 k∧k≤3∧Tch (fun _=>False) (w.alloc (.cells #[.int .i64 2,.int .i64 0,.string s] 58)) wr) (fun i _=>3 - (intOf i).toNat)
 case atStart=>exact⟨0,rfl,by omega,Tch.refl _ _⟩
 case round=>
  obtain⟨k,rfl,hk,hT⟩:=hrel
  obtain⟨-,c0,c1,c2⟩:=HC.out wr hT
  have hz:=hT.size
  have hwz:w.heap.size<wr.heap.size:=by simp at hz;omega
  clear hz
  have i0:=word_0;have i1:=word_1;have i2:=word_2
  rcases(by omega:k=0∨k=1∨k=2∨k=3) with rfl|rfl|rfl|rfl
  ·go_wp2_with fail
   go_roundw
   case rel=>exact⟨1,rfl,by omega,hT.allocR _⟩
   case measure=>simp[intOf]
  ·go_wp2_with fail
   go_roundw
   case rel=>exact⟨2,rfl,by omega,hT.allocR _⟩
   case measure=>simp[intOf]
  ·go_wp2_with fail
   go_roundw
   case rel=>exact⟨3,rfl,by omega,hT.allocR _⟩
   case measure=>simp[intOf]
  ·go_wp2_with fail
   refine(hq _).mono ?_
   rintro x w1 ⟨rfl,t1⟩
   go_wp2_with fail
   go_ret
   exact⟨rfl,((Tch.alloc _ _ _).trans' hT).trans' t1⟩
theorem print_text (s:ByteArray) (w:World) (hw:HWd w) (hs:s.size≤200) (q:ByteArray) (hq: ∀W,Calls Tryz.prog 156 #[.string s] W fun x w'=>x= .returned (.string q)∧Tch (fun _=>False) W w'):
  Calls Tryz.prog 115 #[vA 2 0 s] w fun x w'=>x= .returned (.string q)∧Tch (fun _=>False) w w':=by
 have hr:wrg ⟨2,0,s⟩=0:=by
  have hf:frm ⟨2,0,s⟩:=Or.inr (Or.inr (Or.inl ⟨rfl,rfl⟩))
  unfold wrg;rw[if_pos hf,if_pos hs]
 have HL:Hid (∀W,Tch (fun _=>False) w W→Calls Tryz.prog 143 #[vA 2 0 s] W fun x w'=>x= .returned (.string q)∧Tch (fun _=>False) W w'):=fun W t=>literal_text s W (hw.tch t (fun h=>h)) q hq
 clear hq hw
 go_enter Tryz.func115,Tryz.ntmps115
 go_wp2_with fail
 refine(wrong_any 2 0 s _).mono ?_
 rintro x w1 ⟨rfl,t1⟩
 obtain⟨c0,c1,c2⟩:=box_tch t1
 have T1:Tch (fun _=>False) w w1:=(Tch.alloc _ _ _).trans' t1
 rw[hr]
 go_wp2_with fail
 refine(HL.out _ T1).mono ?_
 rintro x w2 ⟨rfl,t2⟩
 go_wp2_with fail
 go_ret
 exact⟨rfl,T1.trans' t2⟩
def kRow:List Val:=[⟨1,5,⟨#[]⟩⟩,⟨0,0,⟨#[]⟩⟩,⟨2,0,⟨#[97]⟩⟩,⟨3,1,⟨#[]⟩⟩]
end Go.Proofs.YtaiadknglhemaaaGreatDoor
namespace Go.Proofs.YtaiadknglhemaaaGreatDoor
open Go.Lib
def acc (l:List UInt8):Int:=l.foldl (fun n c=>10*n - ((c.toNat:Int) - 48)) 0
open Go Go.RowKit
theorem HWd.no {w w':World} (h:HWd w) (t:Tch (fun _=>False) w w'):HWd w':=h.tch t (fun h=>h)
end Go.Proofs.YtaiadknglhemaaaGreatDoor
namespace Go.Proofs.YtaiadknglhemaaaGreatDoor.C
open Go.Lib
def bl (s:ByteArray):List UInt8:=s.data.toList
theorem bl_app (a b:ByteArray):bl (a++b)=bl a++bl b:=by unfold bl;rw[ByteArray.data_append];simp
theorem bl_eq {a b:ByteArray} (h:bl a=bl b):a=b:=by
 apply ByteArray.ext
 exact Array.toList_inj.1 h
theorem emp_eq {s:ByteArray} (h:s.size=0):s=⟨#[]⟩:=by
 apply ByteArray.ext
 exact Array.eq_empty_of_size_eq_zero h
theorem bl_size (a:ByteArray):(bl a).length=a.size:=by unfold bl;rw[Array.length_toList];rfl
theorem bl_mk (l:List UInt8):bl ⟨l.toArray⟩=l:=by simp[bl]
def bB (l:List UInt8):ByteArray:=⟨l.toArray⟩
theorem bB_of {b:ByteArray} {l:List UInt8} (h:bl b=l):b=bB l:=bl_eq (by rw[h];exact(bl_mk l).symm)
theorem bl_bB (l:List UInt8):bl (bB l)=l:=bl_mk l
theorem size_bB (l:List UInt8):(bB l).size=l.length:=by rw[←bl_size,bl_bB]
theorem size_app (a b:ByteArray):(a++b).size=a.size+b.size:=by rw[←bl_size,bl_app,List.length_append,bl_size,bl_size]
theorem textL_bl (s:ByteArray):textL s=dg s.size++bl s:=rfl
def wordC (c:Nat):ByteArray:=match c with
 |1=>⟨#[120]⟩
 |2=>⟨#[120,112]⟩
 |3=>⟨#[120,116,119]⟩
 |4=>⟨#[120,116,111,119]⟩
 |5=>⟨#[120,116,111]⟩
 |6=>⟨#[120,99]⟩
 |7=>⟨#[120,109]⟩
 |8=>⟨#[120,97]⟩
 |9=>⟨#[120,116]⟩
 |10=>⟨#[110,117,108]⟩
 |_=>⟨#[]⟩
structure Dg (n:Nat) (S:ByteArray) (m:Nat):Prop where
 sz:S.size≤9
 eq:bl S++dgf (10 - S.size) m=dg n
 lt:m<128 ^ (10 - S.size)
theorem Dg.start {n:Nat} (h:n≤9223372036854775807):Dg n ⟨#[]⟩ n:=by
 refine⟨Nat.zero_le _,rfl,?_⟩
 show n<128 ^ 10
 have:(128:Nat) ^ 10=1180591620717411303424:=by decide
 omega
theorem Dg.more {n m:Nat} {S:ByteArray} (h:Dg n S m) (hm: ¬m<128):Dg n (S++⟨#[UInt8.ofNat (m % 128+128)]⟩) (m / 128):=by
 have hs:=h.sz
 have hl:=h.lt
 obtain⟨f,hf⟩: ∃f,10 - S.size=f+1:=⟨9 - S.size,by omega⟩
 have hf0:f≠0:=by
  rintro rfl
  rw[hf] at hl
  omega
 have e1:(S++⟨#[UInt8.ofNat (m % 128+128)]⟩:ByteArray).size=S.size+1:=size_app _ _
 refine⟨by rw[e1];omega,?_,?_⟩
 ·rw[e1,show 10 - (S.size+1)=f by omega,bl_app, ←h.eq,hf,dgf_more hm]
  simp[bl]
 ·rw[e1,show 10 - (S.size+1)=f by omega]
  rw[hf,Nat.pow_succ] at hl
  exact Nat.div_lt_of_lt_mul (by omega)
theorem Dg.done {n m:Nat} {S:ByteArray} (h:Dg n S m) (hm:m<128):bl (S++⟨#[UInt8.ofNat m]⟩)=dg n:=by
 have hs:=h.sz
 obtain⟨f,hf⟩: ∃f,10 - S.size=f+1:=⟨9 - S.size,by omega⟩
 rw[bl_app, ←h.eq,hf,dgf_last hm]
 rfl
def dgI (n:Int):List UInt8:=if 0≤n then dg n.toNat else[UInt8.ofNat (n % 256).toNat]
theorem dgI_pos {n:Int} (h:0≤n):dgI n=dg n.toNat:=if_pos h
theorem dg_len (n:Nat):(dg n).length≤10:=dgf_len 10 n
theorem dgI_len (n:Int):(dgI n).length≤10:=by
 unfold dgI
 split
 ·exact dg_len _
 ·show(1:Nat)≤10;omega
end Go.Proofs.YtaiadknglhemaaaGreatDoor.C
namespace Go.Proofs.YtaiadknglhemaaaGreatDoor
open Go.RowKit
structure XS (w:World) (b:Nat) (S:ByteArray) (a:Nat) (e:Int):Prop where
 c0:w.cell? ⟨b,0,none⟩=some (.string S)
 c1:w.cell? ⟨b,1,none⟩=some (.int .i64 a)
 c2:w.cell? ⟨b,2,none⟩=some (.int .i64 e)
 f1:w.frozen? ⟨b,1,none⟩=false
 f2:w.frozen? ⟨b,2,none⟩=false
 le:a≤S.size
theorem XS.tch {T:Nat→Prop} {w w':World} {b:Nat} {S:ByteArray} {a:Nat} {e:Int} (h:XS w b S a e) (t:Tch T w w') (hb: ¬T b):XS w' b S a e:=by
 have hl:b<w.heap.size:=cell_lt h.c0
 exact⟨(t.cell (p:=⟨b,0,none⟩) hl hb).trans h.c0,(t.cell (p:=⟨b,1,none⟩) hl hb).trans h.c1,(t.cell (p:=⟨b,2,none⟩) hl hb).trans h.c2,
  (t.frozen (p:=⟨b,1,none⟩) hl hb).trans h.f1,(t.frozen (p:=⟨b,2,none⟩) hl hb).trans h.f2,h.le⟩
theorem XS.set2 {w:World} {b:Nat} {S:ByteArray} {a:Nat} {e:Int} (h:XS w b S a e) (c:Int):XS (w.setCell ⟨b,2,none⟩ (.int .i64 c)) b S a c:=by
 refine⟨?_,?_,?_,by simpa using h.f1,by simpa using h.f2,h.le⟩
 ·rw[World.cell?_setCell_other (h:=by simp)];exact h.c0
 ·rw[World.cell?_setCell_other (h:=by simp)];exact h.c1
 ·rw[World.cell?_setCell_same (h:=h.c2)]
theorem XS.set1 {w:World} {b:Nat} {S:ByteArray} {a:Nat} {e:Int} (h:XS w b S a e) (a':Nat) (hle:a'≤S.size):XS (w.setCell ⟨b,1,none⟩ (.int .i64 a')) b S a' e:=by
 refine⟨?_,?_,?_,by simpa using h.f1,by simpa using h.f2,hle⟩
 ·rw[World.cell?_setCell_other (h:=by simp)];exact h.c0
 ·rw[World.cell?_setCell_same (h:=h.c1)]
 ·rw[World.cell?_setCell_other (h:=by simp)];exact h.c2
theorem xwrong_any (b:Nat) (S:ByteArray) (a:Nat) (c:Int) (w:World) (h:XS w b S a 0):
  Calls Tryz.prog 146 #[.pointer (some ⟨b,0,none⟩),.int .i64 c] w fun x w'=>x= .returned (.tuple #[])∧XS w' b S a c∧Tch (fun i=>i=b) w w':=by
 have c2:=h.c2;have f2:=h.f2
 go_enter Tryz.func146,Tryz.ntmps146
 go_wp2
 go_end0
 exact⟨rfl,h.set2 c,Tch.setCell _ _ _ _ rfl⟩
theorem xdone_any (b:Nat) (S:ByteArray) (a:Nat) (e:Int) (w:World) (h:XS w b S a e):
  Calls Tryz.prog 125 #[.pointer (some ⟨b,0,none⟩)] w fun x w'=>x= .returned (.tuple #[.int .i64 (doneE e (S.size - a)),.int .i64 a])∧Tch (fun _=>False) w w':=by
 have c0:=h.c0;have c1:=h.c1;have c2:=h.c2;have hle:=h.le
 by_cases he:e=0
 ·subst he
  by_cases hr:a<S.size
  ·have hr':(a:Int)<S.size:=by omega
   have HE:Hid (doneE 0 (S.size - a)=13):=by show _=_;unfold doneE;rw[if_pos rfl,if_neg (by omega)]
   go_enter Tryz.func125,Tryz.ntmps125
   go_wp2
   go_quiet (fail)
   go_wp2
   go_quiet (fail)
   go_wp2
   go_ret2
   exact⟨by rw[HE.out];rfl,((Tch.refl _ _).drewN _).drewN _⟩
  ·have hr': ¬(a:Int)<S.size:=by omega
   have HE:Hid (doneE 0 (S.size - a)=0):=by show _=_;unfold doneE;rw[if_pos rfl,if_pos (by omega)]
   go_enter Tryz.func125,Tryz.ntmps125
   go_wp2
   go_quiet (fail)
   go_wp2
   go_quiet (fail)
   go_wp2
   go_ret2
   exact⟨by rw[HE.out];rfl,((Tch.refl _ _).drewN _).drewN _⟩
 ·have hn:(e !=0)=true:=by simpa using he
  have HE:Hid (doneE e (S.size - a)=e):=by show _=_;unfold doneE;rw[if_neg he]
  go_enter Tryz.func125,Tryz.ntmps125
  go_wp2
  go_quiet (fail)
  go_wp2
  go_ret2
  exact⟨by rw[HE.out];rfl,(Tch.refl _ _).drewN _⟩
theorem add_step {v b u k:Nat} (hu:u=128 ^ k) (hfit:v+(b % 128)*128 ^ k<18446744073709551616):
  IntKind.u64.wrap ((v:Int)+IntKind.u64.wrap ((b:Int) % 128*u))=((v+(b % 128)*128 ^ k:Nat):Int):=by
 have e1:((b:Int) % 128*u)=(((b % 128)*128 ^ k:Nat):Int):=by rw[hu];simp
 rw[e1,IntKind.wrap_u64,IntKind.wrap_u64]
 omega
theorem unit_step {u k:Nat} (hu:u=128 ^ k) (hk:k+1≤9):IntKind.u64.wrap ((u:Int)*128)=((128 ^ (k+1):Nat):Int):=by
 have h2:=pow_le_of hk
 have h3:(128:Nat) ^ 9=9223372036854775808:=by decide
 have e1:((u:Int)*128)=((128 ^ (k+1):Nat):Int):=by rw[hu,Nat.pow_succ];simp
 rw[e1,IntKind.wrap_u64]
 omega
theorem xindex (S:ByteArray) (a k:Nat) (h:a+k<S.size) (hS:S.size≤281474976710656) (w:World):
  (Instr.index 9 (.string S) (.int .i64 (IntKind.i64.wrap ((a:Int)+k)))).run Tryz.prog w= .ok (.int .u8 S[a+k].toNat) w:=by
 have e:IntKind.i64.wrap ((a:Int)+k)=((a+k:Nat):Int):=by rw[IntKind.wrap_i64];omega
 rw[e,run_index_string (h:=Tryz.underlying9),dif_pos (by omega)]
 simp only[Int.toNat_natCast]
theorem xnumber_any (b:Nat) (S:ByteArray) (a:Nat) (e:Int) (last top:Nat) (w:World) (h:XS w b S a e) (hS:S.size≤281474976710656) (hl:last≤10) (hl0:0<last) (ht:top≤127) (h10:last=10→top≤1):
  Calls Tryz.prog 147 #[.pointer (some ⟨b,0,none⟩),.int .i64 last,.int .i64 top] w fun x w'=>(∃n k:Nat, ∃c:Int,dgs last top (S.data.toList.drop a) 0 0=(n,k,c)∧x= .returned (.tuple #[.int .u64 n,.int .i64 k,.int .i64 c]))∧Tch (fun _=>False) w w':=by
 have hle:=h.le
 go_enter Tryz.func147,Tryz.ntmps147
 go_wp2
 go_loopw [9,10,11] (fun n t i wr=> ∃k v u:Nat,a+k≤S.size∧k<last∧i= .int .i64 k∧n= .int .u64 v∧t= .int .u64 u∧Hid (u=128 ^ k)∧v<128 ^ k∧Hid (dgs last top (S.data.toList.drop (a+k)) k v=dgs last top (S.data.toList.drop a) 0 0)∧Tch (fun _=>False) w wr) (fun _ _ i _=>S.size - (intOf i).toNat)
 case atStart=>exact⟨0,0,1,by omega,hl0,rfl,rfl,rfl,rfl,by decide,rfl,Tch.refl _ _⟩
 case round=>
  obtain⟨k,v,u,hk,hkl,rfl,rfl,rfl,HU,hv,HD,hT⟩:=hrel
  have h1:=h.tch hT (fun h=>h)
  have c0:=h1.c0;have c1:=h1.c1
  by_cases hlt:a+k<S.size
  ·have hlt':(a:Int)+k<S.size:=by omega
   obtain⟨B,hB0⟩: ∃B:UInt8,B=S[a+k]:=⟨_,rfl⟩
   have hix:=xindex S a k hlt hS
   rw[←hB0] at hix
   have HD2:=HD.out
   have hdc:S.data.toList.drop (a+k)=B::S.data.toList.drop (a+k+1):=by rw[hB0];exact drop_cons S (a+k) hlt
   rw[hdc] at HD2
   have HE2:Hid (dgs last top (B::List.drop (a+k+1) S.data.toList) k v=dgs last top (S.data.toList.drop a) 0 0):=HD2
   clear HD HD2 hdc hB0
   obtain⟨B1,hB1⟩: ∃B1:Nat,B1=B.toNat:=⟨_,rfl⟩
   have hb255:(B1:Int)≤255:=by have:=B.toNat_lt;omega
   have HB:Hid (B.toNat=B1):=hB1.symm
   rw[←hB1] at hix
   clear hB1
   by_cases hA:k+1=last∧top<B1
   ·obtain⟨hA1,hA2⟩:=hA
    have hA3:(last:Int) - 1=k:=by omega
    have hA4:(top:Int)<B1:=by omega
    have HA2:Hid (top<B.toNat):=by show _<_;rw[HB.out];exact hA2
    go_wp2
    go_quiet (fail)
    go_wp2
    go_quiet (fail)
    go_wp2
    go_ret3
    exact⟨⟨0,0,10,by rw[←HE2.out,dgs_range hA1 HA2.out],rfl⟩,hT.drewN _⟩
   ·have HA:Hid (¬(k+1=last∧top<B.toNat)):=by show¬_;rw[HB.out];exact hA
    have hfit:=digit_fits hv hl hkl ht h10 HA.out
    rw[HB.out] at hfit
    have HO:Hid (IntKind.u64.wrap ((v:Int)+IntKind.u64.wrap ((B1:Int) % 128*u))=((v+(B1 % 128)*128 ^ k:Nat):Int)):=add_step HU.out hfit
    by_cases hB:128≤B1
    ·have hB1:(128:Int)≤B1:=by omega
     have hB2: ¬((k:Int)=last - 1):=by omega
     have HS:Hid (v+(B1 % 128)*128 ^ k<128 ^ (k+1)):=step_lt hv
     have HN:Hid (dgs last top (List.drop (a+(k+1)) S.data.toList) (k+1) (v+B1 % 128*128 ^ k)=dgs last top (S.data.toList.drop a) 0 0):=by
      show _=_
      rw[←HE2.out,dgs_more HA.out (by rw[HB.out];exact hB),HB.out];rfl
     have HV:Hid (IntKind.u64.wrap ((u:Int)*128)=((128 ^ (k+1):Nat):Int)):=unit_step HU.out (by omega)
     clear hA hfit
     go_wp2
     go_quiet (fail)
     go_wp2
     go_quiet (fail)
     go_wp2
     go_roundw
     case rel=>
      exact⟨k+1,v+(B1 % 128)*128 ^ k,128 ^ (k+1),by omega,by omega,by go_num,by rw[HO.out],by rw[HV.out],rfl,HS.out,HN,hT.drewN _⟩
     case measure=>simp[intOf];omega
    ·have hB1:(B1:Int)<128:=by omega
     clear hA hfit
     by_cases hz:B1=0∧0<k
     ·obtain⟨rfl,hz2⟩:=hz
      have HR:Hid (dgs last top (S.data.toList.drop a) 0 0=(0,0,14)):=by
       show _=_
       rw[←HE2.out,dgs_form HA.out HB.out hz2]
      have hz4:(0:Int)<k:=by omega
      by_cases hA1:(last:Int) - 1=k
      ·have hA4: ¬(top:Int)<0:=by omega
       go_wp2
       go_quiet (fail)
       go_wp2
       go_quiet (fail)
       go_wp2
       go_ret3
       exact⟨⟨0,0,14,HR.out,rfl⟩,hT.drewN _⟩
      ·have hA5: ¬(k:Int)=last - 1:=by omega
       clear hA1
       go_wp2
       go_quiet (fail)
       go_wp2
       go_quiet (fail)
       go_wp2
       go_ret3
       exact⟨⟨0,0,14,HR.out,rfl⟩,hT.drewN _⟩
     ·have HZ:Hid (dgs last top (S.data.toList.drop a) 0 0=(v+(B1 % 128)*128 ^ k,k+1,0)):=by
       have:=HE2.out;rw[dgs_end HA.out (by rw[HB.out];omega) (by rw[HB.out];exact hz),HB.out] at this;exact this.symm
      have HA5:Hid ((last:Int) - 1=k→ ¬(top:Int)<B1):=by
       intro h1 h2;exact HA.out ⟨by omega,by rw[HB.out];omega⟩
      by_cases hzz:B1=0
      ·subst hzz
       obtain rfl:k=0:=by omega
       have HZ1:Hid (dgs last top (S.data.toList.drop a) 0 0=(v,1,0)):=by have h9:=HZ.out;show _=_;simpa using h9
       have hix0: ∀w:World,(Instr.index 9 (.string S) (.int .i64 (IntKind.i64.wrap (a:Int)))).run Tryz.prog w= .ok (.int .u8 0) w:=by
        intro w;have:=hix w;simpa using this
       clear hix
       by_cases hA1:(last:Int) - 1=0
       ·have hA4: ¬(top:Int)<0:=HA5.out hA1
        clear HA hz HO
        go_wp2
        go_quiet (fail)
        go_wp2
        go_quiet (fail)
        go_wp2
        go_ret3
        exact⟨⟨v,1,0,HZ1.out,rfl⟩,hT.drewN _⟩
       ·have hA6: ¬(0:Int)=last - 1:=by omega
        clear HA hz HO hA1
        go_wp2
        go_quiet (fail)
        go_wp2
        go_quiet (fail)
        go_wp2
        go_ret3
        exact⟨⟨v,1,0,HZ1.out,rfl⟩,hT.drewN _⟩
      ·have hz3: ¬(B1:Int)=0:=by omega
       by_cases hA1:(last:Int) - 1=k
       ·have hA4: ¬(top:Int)<B1:=HA5.out hA1
        clear HA hz
        go_wp2
        go_quiet (fail)
        go_wp2
        go_quiet (fail)
        go_wp2
        go_ret3
        exact⟨⟨_,_,_,HZ.out,by rw[HO.out];rfl⟩,hT.drewN _⟩
       ·have hA6: ¬(k:Int)=last - 1:=by omega
        clear HA hz hA1
        go_wp2
        go_quiet (fail)
        go_wp2
        go_quiet (fail)
        go_wp2
        go_ret3
        exact⟨⟨_,_,_,HZ.out,by rw[HO.out];rfl⟩,hT.drewN _⟩
  ·have hlt': ¬(a:Int)+k<S.size:=by omega
   have HR:Hid (dgs last top (S.data.toList.drop a) 0 0=(0,0,11)):=by
    show _=_
    rw[←HD.out,List.drop_of_length_le (by simp;omega)];rfl
   go_wp2
   go_quiet (fail)
   go_wp2
   go_ret3
   exact⟨⟨0,0,11,HR.out,rfl⟩,hT.drewN _⟩
end Go.Proofs.YtaiadknglhemaaaGreatDoor
