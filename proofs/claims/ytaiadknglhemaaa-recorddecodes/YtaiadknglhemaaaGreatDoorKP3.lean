import Derived.Shelf.Strings.OnBuilder
import Derived.Shelf.LaysM
import Derived.Shelf.Strconv.Itoa3
import Derived.Test.YtaiadknglhemaaaGreatDoorProg
import Derived.Test.YtaiadknglhemaaaGreatDoorXReader
import Derived.Test.YtaiadknglhemaaaGreatDoorRVd0
import Derived.Test.YtaiadknglhemaaaGreatDoorOrdv
set_option maxHeartbeats 8000000
set_option maxRecDepth 100000
namespace Go.Proofs
open Go.Shelf
def Tryz.laysIt_ren:Go.Shelf.Ren:=⟨fun|171=>114|243=>142|246=>155|283=>157|284=>158|285=>159|286=>160|129=>162|317=>161|318=>163|319=>164|320=>165|337=>166|338=>167|n=>n,fun|3=>3|9=>9|2=>2|4=>4|171=>225|0=>0|53=>172|37=>115|5=>5|173=>228|212=>232|51=>233|20=>20|213=>234|46=>235|232=>238|233=>239|n=>n,fun|17=>4|18=>5|19=>6|n=>n⟩
theorem Tryz.laysIt:Go.Proofs.LaysM.n171 Tryz.prog Tryz.laysIt_ren:= {
 mixed:=by kernel_rfl
 f129:=Tryz.func162.trans (congrArg some (by kernel_rfl))
 f171:=Tryz.func114.trans (congrArg some (by kernel_rfl))
 f243:=Tryz.func142.trans (congrArg some (by kernel_rfl))
 f246:=Tryz.func155.trans (congrArg some (by kernel_rfl))
 f283:=Tryz.func157.trans (congrArg some (by kernel_rfl))
 f284:=Tryz.func158.trans (congrArg some (by kernel_rfl))
 f285:=Tryz.func159.trans (congrArg some (by kernel_rfl))
 f286:=Tryz.func160.trans (congrArg some (by kernel_rfl))
 f317:=Tryz.func161.trans (congrArg some (by kernel_rfl))
 f318:=Tryz.func163.trans (congrArg some (by kernel_rfl))
 f319:=Tryz.func164.trans (congrArg some (by kernel_rfl))
 f320:=Tryz.func165.trans (congrArg some (by kernel_rfl))
 f337:=Tryz.func166.trans (congrArg some (by kernel_rfl))
 f338:=Tryz.func167.trans (congrArg some (by kernel_rfl))
 t0:=Tryz.underlying0
 a0:=Tryz.isAgg0
 z0:=Tryz.sizeOf0
 v0:=Tryz.zeroValue0
 t2:=Tryz.underlying2
 a2:=Tryz.isAgg2
 z2:=Tryz.sizeOf2
 v2:=Tryz.zeroValue2
 t3:=Tryz.underlying3
 a3:=Tryz.isAgg3
 z3:=Tryz.sizeOf3
 v3:=Tryz.zeroValue3
 t4:=Tryz.underlying4
 a4:=Tryz.isAgg4
 z4:=Tryz.sizeOf4
 v4:=Tryz.zeroValue4
 t5:=Tryz.underlying5
 a5:=Tryz.isAgg5
 z5:=Tryz.sizeOf5
 v5:=Tryz.zeroValue5
 t9:=Tryz.underlying9
 a9:=Tryz.isAgg9
 z9:=Tryz.sizeOf9
 v9:=Tryz.zeroValue9
 t20:=Tryz.underlying20
 a20:=Tryz.isAgg20
 z20:=Tryz.sizeOf20
 v20:=Tryz.zeroValue20
 t37:=Tryz.underlying115
 a37:=Tryz.isAgg115
 z37:=Tryz.sizeOf115
 v37:=Tryz.zeroValue115
 t46:=Tryz.underlying235
 a46:=Tryz.isAgg235
 z46:=Tryz.sizeOf235
 v46:=Tryz.zeroValue235
 t51:=Tryz.underlying233
 a51:=Tryz.isAgg233
 z51:=Tryz.sizeOf233
 v51:=Tryz.zeroValue233
 t53:=Tryz.underlying172
 a53:=Tryz.isAgg172
 z53:=Tryz.sizeOf172
 v53:=Tryz.zeroValue172
 t171:=Tryz.underlying225
 a171:=Tryz.isAgg225
 z171:=Tryz.sizeOf225
 v171:=Tryz.zeroValue225
 t173:=Tryz.underlying228
 a173:=Tryz.isAgg228
 z173:=Tryz.sizeOf228
 v173:=Tryz.zeroValue228
 t212:=Tryz.underlying232
 a212:=Tryz.isAgg232
 z212:=Tryz.sizeOf232
 v212:=Tryz.zeroValue232
 t213:=Tryz.underlying234
 a213:=Tryz.isAgg234
 z213:=Tryz.sizeOf234
 t232:=Tryz.underlying238
 a232:=Tryz.isAgg238
 z232:=Tryz.sizeOf238
 v232:=Tryz.zeroValue238
 t233:=Tryz.underlying239
 a233:=Tryz.isAgg239
 z233:=Tryz.sizeOf239
 v233:=Tryz.zeroValue239
 g17:=by kernel_rfl
 g18:=by kernel_rfl
 g19:=by kernel_rfl
 i0:=by kernel_rfl
 i2:=by kernel_rfl
 i3:=by kernel_rfl
 i4:=by kernel_rfl
 i5:=by kernel_rfl
 i9:=by kernel_rfl
 i20:=by kernel_rfl
 i37:=by kernel_rfl
 i46:=by kernel_rfl
 i51:=by kernel_rfl
 i53:=by kernel_rfl
 i171:=by kernel_rfl
 i173:=by kernel_rfl
 i212:=by kernel_rfl
 i232:=by kernel_rfl
 i233:=by kernel_rfl
 m17:=by kernel_rfl
 m18:=by kernel_rfl
 m19:=by kernel_rfl }
def Tryz.laysJn_ren:Go.Shelf.Ren:=⟨fun|156=>48|165=>85|166=>86|169=>87|240=>112|241=>113|276=>140|277=>141|n=>n,fun|31=>54|9=>9|3=>3|4=>4|0=>0|20=>20|72=>156|76=>157|70=>154|37=>115|75=>117|127=>175|164=>183|5=>5|80=>102|n=>n,fun|n=>n⟩
theorem Tryz.laysJn:Go.Proofs.Lays.n156 Tryz.prog Tryz.laysJn_ren:= {
 mixed:=by kernel_rfl
 f156:=Tryz.func48.trans (congrArg some (by kernel_rfl))
 f165:=Tryz.func85.trans (congrArg some (by kernel_rfl))
 f166:=Tryz.func86.trans (congrArg some (by kernel_rfl))
 f169:=Tryz.func87.trans (congrArg some (by kernel_rfl))
 f240:=Tryz.func112.trans (congrArg some (by kernel_rfl))
 f241:=Tryz.func113.trans (congrArg some (by kernel_rfl))
 f276:=Tryz.func140.trans (congrArg some (by kernel_rfl))
 f277:=Tryz.func141.trans (congrArg some (by kernel_rfl))
 t0:=Tryz.underlying0
 a0:=Tryz.isAgg0
 z0:=Tryz.sizeOf0
 v0:=Tryz.zeroValue0
 t3:=Tryz.underlying3
 a3:=Tryz.isAgg3
 z3:=Tryz.sizeOf3
 v3:=Tryz.zeroValue3
 t4:=Tryz.underlying4
 a4:=Tryz.isAgg4
 z4:=Tryz.sizeOf4
 v4:=Tryz.zeroValue4
 t9:=Tryz.underlying9
 a9:=Tryz.isAgg9
 z9:=Tryz.sizeOf9
 v9:=Tryz.zeroValue9
 t20:=Tryz.underlying20
 a20:=Tryz.isAgg20
 z20:=Tryz.sizeOf20
 v20:=Tryz.zeroValue20
 t31:=Tryz.underlying54
 a31:=Tryz.isAgg54
 z31:=Tryz.sizeOf54
 v31:=Tryz.zeroValue54
 t37:=Tryz.underlying115
 a37:=Tryz.isAgg115
 z37:=Tryz.sizeOf115
 v37:=Tryz.zeroValue115
 t70:=Tryz.underlying154
 a70:=Tryz.isAgg154
 z70:=Tryz.sizeOf154
 v70:=Tryz.zeroValue154
 t72:=Tryz.underlying156
 a72:=Tryz.isAgg156
 z72:=Tryz.sizeOf156
 v72:=Tryz.zeroValue156
 t75:=Tryz.underlying117
 a75:=Tryz.isAgg117
 z75:=Tryz.sizeOf117
 v75:=Tryz.zeroValue117
 t76:=Tryz.underlying157
 a76:=Tryz.isAgg157
 z76:=Tryz.sizeOf157
 v76:=Tryz.zeroValue157
 t127:=Tryz.underlying175
 a127:=Tryz.isAgg175
 z127:=Tryz.sizeOf175
 v127:=Tryz.zeroValue175
 t164:=Tryz.underlying183
 a164:=Tryz.isAgg183
 z164:=Tryz.sizeOf183
 v164:=Tryz.zeroValue183 }
end Go.Proofs
namespace Go.Proofs.YtaiadknglhemaaaGreatDoor.C
open Go.RowKit Go Go.Lib
def HP (w:World):Prop:=Lib.TabIs Tryz.prog w "internal/strconv.uint64pow10" .u64 Lib.pow10Tab
theorem var_no {P:Program} {w w':World} {name:String} {cs:Array Value} (h:w.var? P name=some cs) (t:Tch (fun _=>False) w w'):w'.var? P name=some cs:=by
 unfold World.var? at h ⊢
 cases hg:P.globalNamed name with
 |none=>rw[hg] at h;simp at h
 |some g=>
  rw[hg] at h
  simp only[Option.bind_some] at h ⊢
  cases hb:w.heap[g]? with
  |none=>rw[hb] at h;simp at h
  |some o=>
   rw[t.block g (Array.getElem?_eq_some_iff.1 hb).1 (fun h=>h)]
   exact h
theorem HP.no {w w':World} (h:HP w) (t:Tch (fun _=>False) w w'):HP w':=var_no h t
theorem tch_grow (w:World) (k:Nat) (os:Array Obj):Tch (fun _=>False) w (Sort.grow (w.drewN k) os):=by
 have t1:Tch (fun _=>False) w (w.drewN k):=(Tch.refl _ _).drewN k
 refine t1.trans' ⟨rfl,rfl,rfl,by show _≤(_++os).size;simp,fun i hi _=>?_⟩
 exact Sort.heap_grow_old _ _ hi
theorem itoa6 (n:Int) (hn: -9223372036854775808≤n∧n≤9223372036854775807) (w:World) (h:HP w):Calls Tryz.prog 114 #[.int .i64 n] w fun x w'=>x= .returned (.string ⟨(Lib.itoa n).toArray⟩)∧Tch (fun _=>False) w w':=
 (Any.strconv_Itoa Tryz.laysIt n hn.1 hn.2 w h).mono (fun e w' ⟨he,k,os,hw⟩=>⟨he,by rw[hw];exact tch_grow w k os⟩)
theorem xtra:Builder.Extra Tryz.prog Tryz.laysJn_ren where
 sizeBuilder:=by kernel_rfl
 liesBuilder:=by kernel_rfl
 t5:=Tryz.underlying5
 a5:=Tryz.isAgg5
 z5:=Tryz.sizeOf5
 v5:=Tryz.zeroValue5
 infoByte:=by kernel_rfl
 cellsByte:=by kernel_rfl
 sizeByte:=by kernel_rfl
 neB5:=by decide
theorem join6 (bk o c:Nat) (xs:List ByteArray) (sep:ByteArray) (w:World) (hcells: ∀(j:Nat) x,xs[j]? =some x→w.cell? ⟨bk,o+j,none⟩=some (.string x)) (hbk:bk<w.heap.size) (hN:xs.length≤140737488355328) (hcap:xs.length≤c)
  (hlen:(Lib.join (xs.map (·.data.toList)) sep.data.toList).length≤140737488355328):
  Calls Tryz.prog 48 #[.slice (some ⟨bk,o,none⟩) xs.length c,.string sep] w fun e w'=>e= .returned (.string ⟨(Lib.join (xs.map (·.data.toList)) sep.data.toList).toArray⟩)∧Tch (fun _=>False) w w':=
 (Any.strings_Join Tryz.laysJn xtra bk o c xs sep w hcells hbk hN hcap hlen).mono (fun _ _ ⟨he,hb⟩=>⟨he,Tch.of_below hb (Nat.le_refl _)⟩)
theorem literal_int6 (n:Int) (hn: -9223372036854775808≤n∧n≤9223372036854775807) (w:World) (hw:HWd w) (hv:HP w):
  Calls Tryz.prog 143 #[vA 1 n ⟨#[]⟩] w fun x w'=>x= .returned (.string ⟨(Lib.itoa n).toArray⟩)∧Tch (fun _=>False) w w':=by
 have hl:=hw.lt
 have hw1:=hw.tch (Tch.alloc (fun _=>False) w (.cells #[.int .i64 1,.int .i64 n,.string ⟨#[]⟩] 58)) (fun h=>h)
 have HC:Hid (∀W,Tch (fun _=>False) (w.alloc (.cells #[.int .i64 1,.int .i64 n,.string ⟨#[]⟩] 58)) W→HWd W∧W.cell? ⟨w.heap.size,0,none⟩=some (.int .i64 1)∧W.cell? ⟨w.heap.size,1,none⟩=some (.int .i64 n)∧W.cell? ⟨w.heap.size,2,none⟩=some (.string ⟨#[]⟩)):=fun W t=>
  ⟨hw1.tch t (fun h=>h),box_tch t⟩
 have w0:=hw 0 _ rfl;have w1:=hw 1 _ rfl;have w2:=hw 2 _ rfl;have w3:=hw 3 _ rfl;have w4:=hw 4 _ rfl;have w5:=hw 5 _ rfl
 have w6:=hw 6 _ rfl;have w7:=hw 7 _ rfl;have w8:=hw 8 _ rfl;have w9:=hw 9 _ rfl;have w10:=hw 10 _ rfl;have w11:=hw 11 _ rfl
 clear hw hw1
 go_enter Tryz.func143,Tryz.ntmps143
 go_wp2_with fail
 clear w0 w1 w2 w3 w4 w5 w6 w7 w8 w9 w10 w11
 go_loopw [6] (fun i wr=> ∃k:Nat,i= .int .i64 k∧k≤3∧Tch (fun _=>False) (w.alloc (.cells #[.int .i64 1,.int .i64 n,.string ⟨#[]⟩] 58)) wr) (fun i _=>3 - (RowKit.intOf i).toNat)
 case atStart=>exact⟨0,rfl,by omega,Tch.refl _ _⟩
 case round=>
  obtain⟨k,rfl,hk,hT⟩:=hrel
  obtain⟨-,c0,c1,c2⟩:=HC.out wr hT
  have hz:=hT.size
  have hwz:w.heap.size<wr.heap.size:=by simp at hz;omega
  clear hz
  have i0:=word_0;have i1:=word_1;have i2:=word_2
  rcases(by omega:k=0∨k=1∨k=2∨k=3) with rfl|rfl|rfl|rfl
  ·go_wp2_with fail
   go_roundw
   case rel=>exact⟨1,rfl,by omega,hT.allocR _⟩
   case measure=>simp[RowKit.intOf]
  ·go_wp2_with fail
   go_roundw
   case rel=>exact⟨2,rfl,by omega,hT.allocR _⟩
   case measure=>simp[RowKit.intOf]
  ·go_wp2_with fail
   go_roundw
   case rel=>exact⟨3,rfl,by omega,hT.allocR _⟩
   case measure=>simp[RowKit.intOf]
  ·have q:=itoa6 n hn wr (hv.no ((Tch.alloc _ _ _).trans' hT))
   go_wp2_with fail
   refine q.mono ?_
   rintro x w1 ⟨rfl,t1⟩
   clear q
   go_wp2_with fail
   go_ret
   exact⟨rfl,((Tch.alloc _ _ _).trans' hT).trans' t1⟩
theorem print_int6 (n:Int) (hn: -9223372036854775808≤n∧n≤9223372036854775807) (w:World) (hw:HWd w) (hv:HP w):
  Calls Tryz.prog 115 #[vA 1 n ⟨#[]⟩] w fun x w'=>x= .returned (.string ⟨(Lib.itoa n).toArray⟩)∧Tch (fun _=>False) w w':=by
 have hr:wrg ⟨1,n,⟨#[]⟩⟩=0:=by
  have hf:frm ⟨1,n,⟨#[]⟩⟩:=Or.inr (Or.inl ⟨rfl,rfl⟩)
  unfold wrg;rw[if_pos hf];rfl
 have HL:Hid (∀W,Tch (fun _=>False) w W→Calls Tryz.prog 143 #[vA 1 n ⟨#[]⟩] W fun x w'=>x= .returned (.string ⟨(Lib.itoa n).toArray⟩)∧Tch (fun _=>False) W w'):=fun W t=>literal_int6 n hn W (hw.tch t (fun h=>h)) (hv.no t)
 clear hw hv
 go_enter Tryz.func115,Tryz.ntmps115
 go_wp2_with fail
 refine(wrong_any 1 n ⟨#[]⟩ _).mono ?_
 rintro x w1 ⟨rfl,t1⟩
 obtain⟨c0,c1,c2⟩:=box_tch t1
 have T1:Tch (fun _=>False) w w1:=(Tch.alloc _ _ _).trans' t1
 rw[hr]
 go_wp2_with fail
 refine(HL.out _ T1).mono ?_
 rintro x w2 ⟨rfl,t2⟩
 go_wp2_with fail
 go_ret
 exact⟨rfl,T1.trans' t2⟩
theorem digits6 (n:Int) (hn: -9223372036854775808≤n∧n≤9223372036854775807) (w:World) (h:HP w):Calls Tryz.prog 88 #[.int .i64 n] w fun x w'=>x= .returned (.string ⟨(Lib.itoa n).toArray⟩)∧Tch (fun _=>False) w w':=by
 have q:=itoa6 n hn w h
 clear h
 go_enter Tryz.func88,Tryz.ntmps88
 go_wp2_with fail
 refine q.mono ?_
 rintro x w1 ⟨rfl,t1⟩
 go_wp2_with fail
 go_ret
 exact⟨rfl,t1⟩
end Go.Proofs.YtaiadknglhemaaaGreatDoor.C
namespace Go.Proofs.YtaiadknglhemaaaGreatDoor.C
open Go.RowKit Go
def sepC:ByteArray:=⟨#[44,32]⟩
def joinC (xs:List ByteArray):List UInt8:=Lib.join (xs.map (·.data.toList)) sepC.data.toList
def brk (xs:List ByteArray):ByteArray:=⟨#[40]⟩++⟨(joinC xs).toArray⟩++⟨#[41]⟩
theorem inBr (bk c:Nat) (xs:List ByteArray) (w:World) (hcells: ∀(j:Nat) x,xs[j]? =some x→w.cell? ⟨bk,0+j,none⟩=some (.string x)) (hbk:bk<w.heap.size) (hN:xs.length≤140737488355328) (hcap:xs.length≤c) (hlen:(joinC xs).length≤1000000):
  Calls Tryz.prog 116 #[.slice (some ⟨bk,0,none⟩) xs.length c] w fun e w'=>e= .returned (.string (brk xs))∧Tch (fun _=>False) w w':=by
 have q:=join6 bk 0 c xs sepC w hcells hbk hN hcap (by show(joinC xs).length≤_;omega)
 have q:Calls Tryz.prog 48 #[.slice (some ⟨bk,0,none⟩) xs.length c,.string ⟨#[44,32]⟩] w fun e w'=>e= .returned (.string ⟨(joinC xs).toArray⟩)∧Tch (fun _=>False) w w':=q
 have HB:Hid (brk xs=⟨#[40]⟩++⟨(joinC xs).toArray⟩++⟨#[41]⟩):=rfl
 have hsz:(⟨(joinC xs).toArray⟩:ByteArray).size≤1000000:=by show(joinC xs).toArray.size≤_;simpa using hlen
 obtain⟨J,hJ⟩: ∃J:ByteArray,J=⟨(joinC xs).toArray⟩:=⟨_,rfl⟩
 rw[←hJ] at q HB hsz
 obtain⟨n,hn⟩: ∃n,n=xs.length:=⟨_,rfl⟩
 rw[←hn] at q ⊢
 clear hJ hn hcells hlen hN hcap
 go_enter Tryz.func116,Tryz.ntmps116
 go_wp2_with fail
 refine q.mono ?_
 rintro x w1 ⟨rfl,t1⟩
 go_wp2_with fail
 go_ret
 exact⟨by rw[HB.out];rfl,t1⟩
theorem make_str (n:Nat) (w:World) (hn:16*n≤281474976710656):
  (Instr.makeSlice 54 (.int .i64 (n:Int)) (.int .i64 (n:Int))).run Tryz.prog w= .ok (.slice (some ⟨w.heap.size,0,none⟩) n n) (w.alloc (.cells (madeCells #[.string ⟨#[]⟩] (n*1)) 9)):=by
 have info:(Tryz.prog.info? 9).map (fun i=>(i.zero,i.size,i.bytes))=some (some (.string ⟨#[]⟩),1,16):=by kernel_rfl
 obtain⟨i0,hi,hz0,hz1,hz2⟩:=info_parts info
 have h:=run_make (P:=Tryz.prog) w 54 9 i0 (.string ⟨#[]⟩) Tryz.underlying54 hi hz0 .i64 .i64 n n (by omega) (Int.le_refl _) (by rw[hz2];omega) (by omega)
 simpa[hz1,Value.cells] using h
def SO (w:World) (R n:Nat) (l:List ByteArray):Prop:= ∃cur,w.heap[R]? =some (.cells cur 9 (0,0))∧cur.size=n∧ ∀j (hj:j<l.length),cur[j]? =some (.string l[j])
theorem SO.tch {S:Nat→Prop} {w w':World} {R n:Nat} {l:List ByteArray} (h:SO w R n l) (t:Tch S w w') (hs: ¬S R):SO w' R n l:=by
 obtain⟨cur,h1,h2,h3⟩:=h
 exact⟨cur,(t.block R (blk_lt h1) hs).trans h1,h2,h3⟩
theorem SO.step {w:World} {R n:Nat} {l:List ByteArray} (h:SO w R n l) (hk:l.length<n) (x:ByteArray):SO (w.setCell ⟨R,l.length,none⟩ (.string x)) R n (l++[x]):=by
 obtain⟨cur,h1,h2,h3⟩:=h
 refine⟨_,blk_set h1 _,by simp[h2],fun j hj=>?_⟩
 rw[List.length_append,List.length_singleton] at hj
 rcases Nat.lt_or_ge j l.length with hjk|hjk
 ·rw[List.getElem_append_left hjk,Array.getElem?_setIfInBounds_ne (by omega)];exact h3 j hjk
 ·obtain rfl:j=l.length:=by omega
  rw[List.getElem_append_right (Nat.le_refl _)]
  simp only[Nat.sub_self,List.getElem_cons_zero]
  rw[Array.getElem?_setIfInBounds_self_of_lt (by omega)]
theorem SO.room {w:World} {R n:Nat} {l:List ByteArray} (h:SO w R n l) (hk:l.length<n):(∃y,w.cell? ⟨R,l.length,none⟩=some y)∧w.frozen? ⟨R,l.length,none⟩=false:=by
 obtain⟨cur,h1,h2,_⟩:=h
 exact⟨⟨cur[l.length]'(by omega),by rw[blk_cell h1];exact Array.getElem?_eq_getElem _⟩,blk_frozen h1 _⟩
theorem printRow_any (vs:List Val) (ao:Option Addr) (c:Nat) (w:World) (f:Val→ByteArray) (hP: ∀v∈vs, ∀W,Tch (fun _=>False) w W→Calls Tryz.prog 115 #[vA v.k v.n v.s] W fun x w'=>x= .returned (.string (f v))∧Tch (fun _=>False) W w') (hr:SL w ao (vcl vs)) (hl:vs.length≤8) (hj:(joinC (vs.map f)).length≤1000000):
  Calls Tryz.prog 89 #[.slice ao vs.length c] w fun x w'=>x= .returned (.string (brk (vs.map f)))∧Tch (fun _=>False) w w':=by
 obtain⟨n,hn⟩: ∃n,n=vs.length:=⟨_,rfl⟩
 rw[←hn] at hl ⊢
 have hmk:=make_str n w (by omega)
 obtain⟨w0,hw0⟩: ∃w0,w0=w.alloc (.cells (madeCells #[.string ⟨#[]⟩] (n*1)) 9):=⟨_,rfl⟩
 rw[←hw0] at hmk
 have t0:Tch (fun _=>False) w w0:=by rw[hw0];exact Tch.alloc _ _ _
 have F0:SO w0 w.heap.size n []:=⟨_,by rw[hw0];exact heap_new w _,by rw[size_madeCells];omega,fun j hj=>by simp at hj⟩
 have HN:Hid (n=vs.length):=hn
 have HP:Hid _:=hP
 have HR:Hid (∀W,Tch (fun i=>i=w.heap.size) w0 W→SL W ao (vcl vs)∧Tch (fun _=>False) w W):=fun W t=>by
  have t1:Tch (fun _=>False) w W:=(t0.mono (fun _ _ h=>h.elim)).trans t (fun i hi h=>by omega)
  exact⟨hr.no t1,t1⟩
 have HIB:Hid (∀W,SO W w.heap.size n (vs.map f)→Calls Tryz.prog 116 #[.slice (some ⟨w.heap.size,0,none⟩) n n] W fun e w'=>e= .returned (.string (brk (vs.map f)))∧Tch (fun _=>False) W w'):=fun W h=>by
  obtain⟨cur,h1,h2,h3⟩:=h
  have:=inBr w.heap.size n (vs.map f) W (fun j x hx=>by
   rw[Nat.zero_add,blk_cell h1]
   obtain⟨hlt,e⟩:=List.getElem?_eq_some_iff.1 hx
   rw[h3 j hlt,e]) (blk_lt h1) (by simp;omega) (by simp;omega) hj
  rw[List.length_map, ←hn] at this
  exact this
 clear hn hP hr t0 hj hw0
 go_enter Tryz.func89,Tryz.ntmps89
 go_wp2_with fail
 go_loopw [11] (fun i wr=> ∃(k:Nat),i= .int .i64 k∧k≤n∧SO wr w.heap.size n ((vs.take k).map f)∧Hid (Tch (fun i=>i=w.heap.size) w0 wr)) (fun i _=>n - (intOf i).toNat)
 case atStart=>exact⟨0,rfl,by omega,by simpa using F0,Tch.refl _ _⟩
 case round=>
  obtain⟨k,rfl,hk,hO,HT⟩:=hrel
  clear F0 hmk
  obtain⟨hS,hTw⟩:=HR.out wr HT.out
  have HTw:Hid (Tch (fun _=>False) w wr):=hTw
  have hlen:((vs.take k).map f).length=k:=by rw[List.length_map,List.length_take];have:=HN.out;omega
  have hRl:w.heap.size<wr.heap.size:=by obtain⟨cur,h1,_⟩:=hO;exact blk_lt h1
  clear hTw
  by_cases hlt:(k:Int)<n
  ·have hkv:k<vs.length:=by have:=HN.out;omega
   obtain⟨g,o,rfl,ha⟩:=hS.val hkv
   obtain⟨c0,c1,c2⟩:=ha.val k hkv
   obtain⟨v,hv⟩: ∃v,v=vs[k]:=⟨_,rfl⟩
   rw[←hv] at c0 c1 c2
   have HS:Hid ((vs.take (k+1)).map f=(vs.take k).map f++[f v]):=by
    show _=_
    rw[(List.take_append_getElem hkv).symm,List.map_append,hv];rfl
   have q:=HP.out v (by rw[hv];exact List.getElem_mem hkv) (wr.alloc (.cells #[.int .i64 v.k,.int .i64 v.n,.string v.s] 58)) (HTw.out.allocR _)
   clear ha hv hS
   go_wp2_with fail
   refine q.mono ?_
   rintro x w1 ⟨rfl,t1⟩
   have T1:Tch (fun _=>False) wr w1:=(Tch.alloc _ _ _).trans' t1
   have hO1:=hO.tch T1 (fun h=>h)
   obtain⟨⟨y,hy⟩,hfz⟩:=hO1.room (by omega)
   have hO2:=hO1.step (by omega) (f v)
   rw[hlen] at hy hfz hO2
   rw[←HS.out] at hO2
   have HT2:Hid (Tch (fun i=>i=w.heap.size) w0 (w1.setCell ⟨w.heap.size,k,none⟩ (.string (f v)))):=(HT.out.trans' (T1.mono (fun _ _ h=>h.elim))).setCellR _ _ rfl
   clear q c0 c1 c2 t1 T1 hO hO1
   go_wp2_with fail
   go_roundw
   case rel=>exact⟨k+1,by go_num,by omega,hO2,HT2⟩
   case measure=>simp[intOf];omega
  ·have hke:k=n:=by omega
   have HTk:Hid (vs.take k=vs):=by
    show _=_
    rw[List.take_of_length_le];have:=HN.out;omega
   rw[HTk.out] at hO
   have q:=HIB.out wr hO
   clear hS hO
   go_wp2_with fail
   refine q.mono ?_
   rintro x w1 ⟨rfl,t1⟩
   go_wp2_with fail
   go_ret
   exact⟨rfl,HTw.out.trans' t1⟩
open Go.Sort
def verbCells:List Value:=[.string ⟨#[]⟩,.string ⟨#[98,101,103,105,110]⟩,.string ⟨#[112,97,114,116]⟩,.string ⟨#[105,110,115,101,114,116]⟩,.string ⟨#[117,112,100,97,116,101]⟩,.string ⟨#[100,101,108,101,116,101]⟩,.string ⟨#[114,101,108,101,97,115,101]⟩,.string ⟨#[98,97,99,107]⟩,.string ⟨#[99,111,109,109,105,116]⟩,.string ⟨#[97,98,111,114,116]⟩,.string ⟨#[112,114,101,112,97,114,101]⟩,.string ⟨#[99,114,101,97,116,101]⟩,.string ⟨#[100,114,111,112]⟩,.string ⟨#[119,105,100,101,110]⟩,.string ⟨#[101,109,112,116,121]⟩,.string ⟨#[99,104,101,99,107,112,111,105,110,116]⟩]
def HVB (w:World):Prop:= ∀j u,verbCells[j]? =some u→w.cell? ⟨0,j,none⟩=some u
theorem HVB.no {w w':World} (h:HVB w) (t:Tch (fun _=>False) w w'):HVB w':=fun j u hu=>(t.cell (p:=⟨_,_,none⟩) (cell_lt (h j u hu)) (fun h=>h)).trans (h j u hu)
def tableB:ByteArray:=⟨#[116,97,98,108,101]⟩
def itoB (n:Int):ByteArray:=⟨(Lib.itoa n).toArray⟩
theorem words_3 (r:Rc) (s:Sk) (w:World) (f:Val→ByteArray) (hv:HP w) (hx:0≤r.x∧r.x≤2147483648) (ht:0≤r.t∧r.t≤2147483648) (hP: ∀v∈r.n, ∀W,Tch (fun _=>False) w W→Calls Tryz.prog 115 #[vA v.k v.n v.s] W fun x w'=>x= .returned (.string (f v))∧Tch (fun _=>False) W w') (hr:SL w s.no (vcl r.n)) (hl:r.n.length≤8) (hj:(joinC (r.n.map f)).length≤1000000):
  Calls Tryz.prog 49 #[bV 3 r s] w fun x w'=>(∃g,x= .returned (.slice (some ⟨g,0,none⟩) 4 4)∧ ∀j y,[itoB r.x,tableB,itoB r.t,brk (r.n.map f)][j]? =some y→w'.cell? ⟨g,0+j,none⟩=some (.string y))∧Tch (fun _=>False) w w':=by
 have a1: ∀v W,(Instr.typeAssert (.iface 132 v) 71 128 true).run Tryz.prog W= .ok (.tuple #[.agg #[.int .i64 0],.bool false]) W:=fun v W=>by kernel_rfl
 have a2: ∀v W,(Instr.typeAssert (.iface 132 v) 71 130 true).run Tryz.prog W= .ok (.tuple #[.agg #[.int .i64 0,.int .i64 0],.bool false]) W:=fun v W=>by kernel_rfl
 have a3: ∀v W,(Instr.typeAssert (.iface 132 v) 71 132 true).run Tryz.prog W= .ok (.tuple #[v,.bool true]) W:=fun v W=>by kernel_rfl
 obtain⟨w0,hw0⟩: ∃w0,w0=w.alloc (.cells #[.int .i64 r.x,.int .i64 r.t,.slice s.no r.n.length s.nc] 132):=⟨_,rfl⟩
 have t0:Tch (fun _=>False) w w0:=by rw[hw0];exact Tch.alloc _ _ _
 have b0:w0.heap[w.heap.size]? =some (.cells #[.int .i64 r.x,.int .i64 r.t,.slice s.no r.n.length s.nc] 132 (0,0)):=by rw[hw0];exact heap_new w _
 have c1: ∀d os,Calls Tryz.prog 88 #[.int .i64 r.x] (grow (redrawn w0 d) os) fun e w''=>e= .returned (.string (itoB r.x))∧ ∃p:Regrown,w''=grow (redrawn w0 p.d) p.os:=regrown_calls (fun W t=>digits6 r.x (by omega) W (hv.no (t0.trans' t)))
 have c2: ∀d os,Calls Tryz.prog 88 #[.int .i64 r.t] (grow (redrawn w0 d) os) fun e w''=>e= .returned (.string (itoB r.t))∧ ∃p:Regrown,w''=grow (redrawn w0 p.d) p.os:=regrown_calls (fun W t=>digits6 r.t (by omega) W (hv.no (t0.trans' t)))
 have c3: ∀d os,Calls Tryz.prog 89 #[.slice s.no r.n.length s.nc] (grow (redrawn w0 d) os) fun e w''=>e= .returned (.string (brk (r.n.map f)))∧ ∃p:Regrown,w''=grow (redrawn w0 p.d) p.os:=regrown_calls (fun W t=>printRow_any r.n s.no s.nc W f (fun v hv W' t'=>hP v hv W' ((t0.trans' t).trans' t')) (hr.no (t0.trans' t)) hl hj)
 have y0:w0.cell? ⟨w.heap.size,0,none⟩=some (.int .i64 r.x):=blk_cell b0 0
 have y1:w0.cell? ⟨w.heap.size,1,none⟩=some (.int .i64 r.t):=blk_cell b0 1
 have y2:w0.cell? ⟨w.heap.size,2,none⟩=some (.slice s.no r.n.length s.nc):=blk_cell b0 2
 have k0:=cell_regrown y0
 have k1:=cell_regrown y1
 have k2:=cell_regrown y2
 have HT0:Hid (Tch (fun _=>False) w w0):=t0
 have HW0:Hid (w0=w.alloc (.cells #[.int .i64 r.x,.int .i64 r.t,.slice s.no r.n.length s.nc] 132)):=hw0
 obtain⟨X,hX⟩: ∃X,X=itoB r.x:=⟨_,rfl⟩
 obtain⟨T,hT⟩: ∃T,T=itoB r.t:=⟨_,rfl⟩
 obtain⟨B,hB⟩: ∃B,B=brk (r.n.map f):=⟨_,rfl⟩
 rw[←hX] at c1 ⊢
 rw[←hT] at c2 ⊢
 rw[←hB] at c3 ⊢
 clear hw0 t0 b0 hP hr hl hj hv hX hT hB
 unfold bV
 go_enter Tryz.func49,Tryz.ntmps49
 go_wp2_with fail
 rw[←HW0.out]
 refine wp_region_below_tail 9 (by kernel_rfl) (by kernel_rfl) ?_
 simp only[List.take_succ_cons,List.take_zero,List.drop_succ_cons,List.drop_zero]
 quiet_step (fail)
 quiet_step (fail)
 quiet_step ((go_at_call 88;exact c1 _ _))
 quiet_step (fail)
 quiet_step (fail)
 quiet_step ((go_at_call 88;exact c2 _ _))
 quiet_step (fail)
 quiet_step (fail)
 quiet_step ((go_at_call 89;exact c3 _ _))
 refine wpQuiet_nil ?_
 rintro w1 ⟨p,rfl⟩
 have HE:Hid (Tch (fun _=>False) w (grow (redrawn w0 p.d) p.os)):=HT0.out.trans' (Tch.regrown w0 p.d p.os)
 obtain⟨W1,hW1⟩: ∃W1,W1=grow (redrawn w0 p.d) p.os:=⟨_,rfl⟩
 rw[←hW1] at HE ⊢
 clear hW1 k0 k1 k2 c1 c2 c3 y0 y1 y2
 go_wp2_with fail
 go_ret
 refine⟨⟨W1.heap.size,rfl,fun j y hy=>?_⟩,HE.out.allocR _⟩
 have hb:=heap_new W1 (.cells #[.string X,.string ⟨#[116,97,98,108,101]⟩,.string T,.string B] 9)
 rw[Nat.zero_add,blk_cell hb]
 match j,hy with
 |0,hy=>injection hy with hy;subst hy;rfl
 |1,hy=>injection hy with hy;subst hy;rfl
 |2,hy=>injection hy with hy;subst hy;rfl
 |3,hy=>injection hy with hy;subst hy;rfl
 |(j+4),hy=>simp at hy
def insB:ByteArray:=⟨#[105,110,115,101,114,116]⟩
def spB:ByteArray:=⟨#[32]⟩
def joinS (xs:List ByteArray):ByteArray:=⟨(Lib.join (xs.map (·.data.toList)) spB.data.toList).toArray⟩
theorem print_3 (r:Rc) (s:Sk) (F:Nat→Prop) (w:World) (f:Val→ByteArray) (hg:HE w) (hvb:HVB w) (hv:HP w) (h:RW w F r s) (hk:r.k=3) (hr:rightC 3 r) (hc:cutC 3 r=r) (hP: ∀v∈r.n, ∀W,Tch (fun _=>False) w W→Calls Tryz.prog 115 #[vA v.k v.n v.s] W fun x w'=>x= .returned (.string (f v))∧Tch (fun _=>False) W w') (hl:r.n.length≤8) (hj:(joinC (r.n.map f)).length≤1000000) (hj2:(joinS [itoB r.x,tableB,itoB r.t,brk (r.n.map f)]).size≤10000000):
  Calls Tryz.prog 19 #[rV r s] w fun x w'=>x= .returned (.string (insB++spB++joinS [itoB r.x,tableB,itoB r.t,brk (r.n.map f)]))∧Tch (fun _=>False) w w':=by
 have g0:rtN r.x∧rtN r.t∧rtRow r.n:=hr
 obtain⟨g1,g2, -⟩:=g0
 unfold rtN at g1 g2
 obtain⟨w0,hw0⟩: ∃w0,w0=w.alloc (.cells #[.int .i64 r.k,.int .i64 r.x,.int .i64 r.p,.int .i64 r.t,.slice s.oo r.o.length s.oc,.slice s.no r.n.length s.nc,.string r.nm,.int .i64 r.org,.int .i64 r.tb.id,.int .i64 r.tb.ver,.string r.tb.nm,.slice s.co r.tb.cols.length s.cc,.int .i64 r.tb.key,.slice s.to s.P.length s.tc] 37):=⟨_,rfl⟩
 have t0:Tch (fun _=>False) w w0:=by rw[hw0];exact Tch.alloc _ _ _
 have b0:w0.heap[w.heap.size]? =some (.cells #[.int .i64 r.k,.int .i64 r.x,.int .i64 r.p,.int .i64 r.t,.slice s.oo r.o.length s.oc,.slice s.no r.n.length s.nc,.string r.nm,.int .i64 r.org,.int .i64 r.tb.id,.int .i64 r.tb.ver,.string r.tb.nm,.slice s.co r.tb.cols.length s.cc,.int .i64 r.tb.key,.slice s.to s.P.length s.tc] 37 (0,0)):=by rw[hw0];exact heap_new w _
 have q1:=rightBody_3 r s F w0 (hg.tch t0 (fun h=>h)) (h.no t0) (by rw[hk];rfl) hr hc
 rw[hw0] at q1
 have HW0:Hid (w0=w.alloc (.cells #[.int .i64 r.k,.int .i64 r.x,.int .i64 r.p,.int .i64 r.t,.slice s.oo r.o.length s.oc,.slice s.no r.n.length s.nc,.string r.nm,.int .i64 r.org,.int .i64 r.tb.id,.int .i64 r.tb.ver,.string r.tb.nm,.slice s.co r.tb.cols.length s.cc,.int .i64 r.tb.key,.slice s.to s.P.length s.tc] 37)):=hw0
 have HWO:Hid (∀W,Tch (fun _=>False) w W→Calls Tryz.prog 49 #[bV 3 r s] W fun x w'=>(∃g,x= .returned (.slice (some ⟨g,0,none⟩) 4 4)∧ ∀j y,[itoB r.x,tableB,itoB r.t,brk (r.n.map f)][j]? =some y→w'.cell? ⟨g,0+j,none⟩=some (.string y))∧Tch (fun _=>False) W w'):=fun W t=>words_3 r s W f (hv.no t) (by omega) (by omega) (fun v h W' t'=>hP v h W' (t.trans' t')) (h.no t).n hl hj
 obtain⟨xs,hxs⟩: ∃xs,xs=[itoB r.x,tableB,itoB r.t,brk (r.n.map f)]:=⟨_,rfl⟩
 have hxl:xs.length=4:=by rw[hxs];rfl
 have HJ:Hid (∀W g,(∀j y,xs[j]? =some y→W.cell? ⟨g,0+j,none⟩=some (.string y))→g<W.heap.size→Calls Tryz.prog 48 #[.slice (some ⟨g,0,none⟩) 4 4,.string ⟨#[32]⟩] W fun e w'=>e= .returned (.string (joinS xs))∧Tch (fun _=>False) W w'):=fun W g hc hg=>by
  have:=join6 g 0 4 xs spB W hc hg (by omega) (by omega) (by
   rw[←hxs] at hj2
   have e:(joinS xs).size=(Lib.join (xs.map (·.data.toList)) spB.data.toList).length:=by show(_:Array UInt8).size=_;simp
   omega)
  rw[hxl] at this
  exact this
 rw[←hxs] at HWO hj2 ⊢
 have HVW:Hid (∀W,Tch (fun _=>False) w W→W.cell? ⟨0,3,none⟩=some (.string ⟨#[105,110,115,101,114,116]⟩)):=fun W t=>hvb.no t 3 _ rfl
 have HX:Hid (∃y,xs[0]? =some y):=⟨_,by rw[hxs];rfl⟩
 generalize hBV:bV 3 r s=BV at q1 HWO
 have hBI: ∃T v,BV= .iface T v:=⟨_,_,hBV.symm⟩
 obtain⟨BT,BX,rfl⟩:=hBI
 have HK3:Hid (r.k=3):=hk
 have hsz:(joinS xs).size≤10000000:=hj2
 clear h hg hvb hv hr hc hP hl hj hw0 hxs hxl hBV hj2 hk
 go_enter Tryz.func19,Tryz.ntmps19
 go_wp2_with fail
 refine q1.mono ?_
 rintro x w1 ⟨rfl,t1⟩
 rw[←HW0.out] at t1
 have T1:Tch (fun _=>False) w w1:=t0.trans' t1
 have b1:w1.heap[w.heap.size]? =some (.cells #[.int .i64 r.k,.int .i64 r.x,.int .i64 r.p,.int .i64 r.t,.slice s.oo r.o.length s.oc,.slice s.no r.n.length s.nc,.string r.nm,.int .i64 r.org,.int .i64 r.tb.id,.int .i64 r.tb.ver,.string r.tb.nm,.slice s.co r.tb.cols.length s.cc,.int .i64 r.tb.key,.slice s.to s.P.length s.tc] 37 (0,0)):=(t1.block _ (blk_lt b0) (fun h=>h)).trans b0
 have z1:w1.cell? ⟨w.heap.size,0,none⟩=some (.int .i64 3):=by rw[←HK3.out];exact blk_cell b1 0
 have hlt:=blk_lt b1
 obtain⟨C,hC⟩: ∃C:List Value→World→Prop,C=fun st W=>match st with
  |[]=>Tch (fun _=>False) w1 W
  |[y]=>(∃g,y= .slice (some ⟨g,0,none⟩) 4 4∧(∀j y,xs[j]? =some y→W.cell? ⟨g,0+j,none⟩=some (.string y))∧g<W.heap.size)∧Tch (fun _=>False) w1 W
  |[_,z]=>z= .string (joinS xs)∧Tch (fun _=>False) w1 W
  |_=>False:=⟨_,rfl⟩
 have h0':C [] w1.drew:=by rw[hC];exact(Tch.refl _ _).drew
 have hT: ∀s W,C s W→Tch (fun _=>False) w1 W:=fun s W h=>by
  rw[hC] at h
  match s,h with
  |[],h=>exact h
  |[y],h=>exact h.2
  |[_,z],h=>exact h.2
 have hK: ∀s W,C s W→W.cell? ⟨w.heap.size,0,none⟩=some (.int .i64 3)∧W.cell? ⟨0,3,none⟩=some (.string ⟨#[105,110,115,101,114,116]⟩):=fun s W h=>
  ⟨((hT s W h).cell (p:=⟨_,_,none⟩) hlt (fun h=>h)).trans z1,HVW.out W (T1.trans' (hT s W h))⟩
 have h6: ∀W,C [] W→Calls Tryz.prog 49 #[.iface BT BX] W fun x w'=> ∃g,x= .returned (.slice (some ⟨g,0,none⟩) 4 4)∧C [.slice (some ⟨g,0,none⟩) 4 4] w':=fun W h=>by
  have tW:=hT _ _ h
  refine(HWO.out W (T1.trans' tW)).mono ?_
  rintro x w' ⟨⟨g,rfl,hc⟩,t⟩
  obtain⟨y,hy⟩:=HX.out
  refine⟨g,rfl,?_⟩
  rw[hC]
  exact⟨⟨g,rfl,hc,cell_lt (hc 0 y hy)⟩,tW.trans' t⟩
 have h7: ∀g W,C [.slice (some ⟨g,0,none⟩) 4 4] W→Calls Tryz.prog 48 #[.slice (some ⟨g,0,none⟩) 4 4,.string ⟨#[32]⟩] W fun x w'=>x= .returned (.string (joinS xs))∧C [.slice (some ⟨g,0,none⟩) 4 4,.string (joinS xs)] w':=fun g W h=>by
  have tW:=hT _ _ h
  rw[hC] at h
  obtain⟨⟨g',e,hc,hg⟩,_⟩:=h
  have e':g=g':=by simpa using e
  subst e'
  refine(HJ.out W g hc hg).mono ?_
  rintro x w' ⟨rfl,t⟩
  refine⟨rfl,?_⟩
  rw[hC]
  exact⟨rfl,tW.trans' t⟩
 have hs6: ∀y W,C [y] W→ ∃g,y= .slice (some ⟨g,0,none⟩) 4 4:=fun y W h=>by rw[hC] at h;obtain⟨⟨g,e,_⟩,_⟩:=h;exact⟨g,e⟩
 have hs7: ∀y z W,C [y,z] W→z= .string (joinS xs):=fun y z W h=>by rw[hC] at h;exact h.1
 have HTT:Hid _:=hT
 obtain⟨JS,hJS⟩: ∃JS,JS=joinS xs:=⟨_,rfl⟩
 have HJS:Hid (JS=joinS xs):=hJS
 rw[←hJS] at h7 hs7 hsz
 clear hJS
 have HT1:Hid (Tch (fun _=>False) w w1):=T1
 clear hC hT q1 t1 T1 b0 b1 z1 t0 hlt HWO HJ HVW HX
 go_wp2_with fail
 refine wp_region_ordv [6,7] C 8 [0,1,2,3,4,5,6,7] (by kernel_rfl) (by kernel_rfl) h0' ?_
 clear h0'
 refine ordv_read rfl (by go_simp) (by rfl) ?_
 apply Exists.intro
 refine⟨fun s' W hW b K Q hK'=>?_,fun K hK'=>?_⟩
 ·obtain⟨y0,y1⟩:=hK _ W hW
  go_simp
  exact hK' W hW
 go_simp
 refine hK' _ ?_
 clear hK' K
 refine ordv_read rfl (by go_simp) (by rfl) ?_
 apply Exists.intro
 refine⟨fun s' W hW b K Q hK'=>?_,fun K hK'=>?_⟩
 ·obtain⟨y0,y1⟩:=hK _ W hW
  go_simp
  exact hK' W hW
 go_simp
 refine hK' _ ?_
 clear hK' K
 refine ordv_read rfl (by go_simp) (by rfl) ?_
 apply Exists.intro
 refine⟨fun s' W hW b K Q hK'=>?_,fun K hK'=>?_⟩
 ·obtain⟨y0,y1⟩:=hK _ W hW
  go_simp
  exact hK' W hW
 go_simp
 refine hK' _ ?_
 clear hK' K
 refine ordv_read rfl (by go_simp) (by rfl) ?_
 apply Exists.intro
 refine⟨fun s' W hW b K Q hK'=>?_,fun K hK'=>?_⟩
 ·obtain⟨y0,y1⟩:=hK _ W hW
  go_simp
  exact hK' W hW
 go_simp
 refine hK' _ ?_
 clear hK' K
 refine ordv_read rfl (by go_simp) (by rfl) ?_
 apply Exists.intro
 refine⟨fun s' W hW b K Q hK'=>?_,fun K hK'=>?_⟩
 ·obtain⟨y0,y1⟩:=hK _ W hW
  go_simp
  exact hK' W hW
 go_simp
 refine hK' _ ?_
 clear hK' K
 refine ordv_read rfl (by go_simp) (by rfl) ?_
 apply Exists.intro
 refine⟨fun s' W hW b K Q hK'=>?_,fun K hK'=>?_⟩
 ·obtain⟨y0,y1⟩:=hK _ W hW
  go_simp
  exact hK' W hW
 go_simp
 refine hK' _ ?_
 clear hK' K
 refine ordv_turn rfl (by go_simp) (by rfl) (fun W hW b K Q hK'=>?_) (fun u hu K hK'=>?_)
 ·go_simp
  refine(h6 W hW).mono ?_
  rintro x w' ⟨g,rfl,h1⟩
  exact hK' _ _ h1
 obtain⟨g,rfl⟩: ∃g,u= .slice (some ⟨g,0,none⟩) 4 4:=by
  obtain⟨W',hW'⟩:=hu
  exact hs6 _ W' hW'
 clear hu
 go_simp
 refine hK' _ ?_
 clear hK' K
 refine ordv_turn rfl (by go_simp) (by rfl) (fun W hW b K Q hK'=>?_) (fun u hu K hK'=>?_)
 ·go_simp
  refine(h7 g W hW).mono ?_
  rintro x w' ⟨rfl,h1⟩
  exact hK' _ _ h1
 obtain⟨W',hW'⟩:=hu
 have hu:=hs7 _ u W' hW'
 subst hu
 clear hW' W'
 go_simp
 refine hK' _ ?_
 clear hK' K
 refine ordv_nil ?_
 intro w6 hw6
 have T6:=HT1.out.trans' (HTT.out _ _ hw6)
 clear hw6 h6 h7 hs6 hs7 hK HTT
 go_wp2_with fail
 go_ret
 exact⟨by rw[←HJS.out];rfl,T6⟩
end Go.Proofs.YtaiadknglhemaaaGreatDoor.C
