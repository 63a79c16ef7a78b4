import Derived.Test.YtaiadknglhemaaaGreatDoorWRef
import Derived.Test.YtaiadknglhemaaaGreatDoorVDec2
import Derived.Test.YtaiadknglhemaaaGreatDoorCName
import Derived.Test.YtaiadknglhemaaaGreatDoorKeeps
set_option maxHeartbeats 4000000
set_option maxRecDepth 100000
namespace Go.Proofs.YtaiadknglhemaaaGreatDoor
open Go.RowKit Go.Sort
theorem tch_regrown (w:World) (p:Regrown):Tch (fun _=>False) w (grow (redrawn w p.d) p.os):=Tch.of_below (below_regrown w p.d p.os) (Nat.le_refl _)
theorem Calls.tch_regrown_of {P:Program} {f:FuncId} {args:Array Value} {w:World} {d:Nat} {os:Array Obj} {v:Value}
  (h:Calls P f args (grow (redrawn w d) os) fun e w'=>e= .returned v∧Tch (fun _=>False) (grow (redrawn w d) os) w'):Calls P f args (grow (redrawn w d) os) fun e w''=>e= .returned v∧ ∃p:Regrown,w''=grow (redrawn w p.d) p.os:=
 Calls.regrown_of (h.mono fun _ _ ⟨he,t⟩=>⟨he,t.below (Nat.le_refl _) (fun _ _ h=>h)⟩)
def xs (s:ByteArray) (L:List UInt8) (C:Int):ByteArray:=if C=0 then s++⟨L.toArray⟩ else s
theorem xs_ok (s:ByteArray) (L:List UInt8):xs s L 0=s++⟨L.toArray⟩:=if_pos rfl
theorem xs_bad (s:ByteArray) (L:List UInt8) {C:Int} (h:C≠0):xs s L C=s:=if_neg h
theorem failE_zero (e:Int):failE e 0=e:=by unfold failE;split<;>simp_all
theorem XW.stored {W w:World} {b:Nat} {s:ByteArray} {e:Int} (h:XW W b s e) (t:Tch (fun _=>False) w W) (s':ByteArray):XW (W.setCell ⟨b,0,none⟩ (.string s')) b s' e∧Tch (fun i=>i=b) w (W.setCell ⟨b,0,none⟩ (.string s')):=
 ⟨h.set0 s',(t.mono (fun _ _ h=>h.elim)).setCellR _ _ rfl⟩
theorem xwint_any (b:Nat) (s:ByteArray) (e n:Int) (w:World) (h:XW w b s e) (h1: -9223372036854775808≤n) (h2:n≤9223372036854775807) (hsz:s.size+10≤140737488355328):
  Calls Tryz.prog 134 #[.pointer (some ⟨b,0,none⟩),.int .i64 n] w fun x w'=>x= .returned (.tuple #[])∧XW w' b (s++⟨(dg (fol n)).toArray⟩) e∧Tch (fun i=>i=b) w w':=by
 have hd:=fun(W:World)=>xdigits_any (fol n) W (fol_lt n h1 h2)
 obtain⟨D,hD⟩: ∃D:ByteArray,D=⟨(dg (fol n)).toArray⟩:=⟨_,rfl⟩
 rw[←hD] at hd ⊢
 have hds:D.size≤10:=by rw[hD,size_list];exact dgf_len 10 (fol n)
 clear hD
 have n1: ¬9223372036854775807<s.size+D.size:=by omega
 have k0:=cell_regrown h.c0
 have cD: ∀d os,Calls Tryz.prog 153 #[.int .u64 (fol n)] (grow (redrawn w d) os) fun e w''=>e= .returned (.string D)∧ ∃p:Regrown,w''=grow (redrawn w p.d) p.os:=fun d os=>Calls.tch_regrown_of (hd _)
 have HX:Hid (∀p:Regrown,XW (grow (redrawn w p.d) p.os) b s e):=fun p=>h.tch (tch_regrown w p) (fun h=>h)
 clear h hds hsz hd
 by_cases h0:0≤n
 ·have HU:Hid (2*n=(fol n:Nat)):=by show _=_;unfold fol;rw[if_pos h0];omega
  have hw1:IntKind.u64.wrap n=n:=by rw[IntKind.wrap_u64];omega
  have hw2:IntKind.u64.wrap (2*n)=(fol n:Nat):=by rw[IntKind.wrap_u64, ←HU.out];omega
  go_enter Tryz.func134,Tryz.ntmps134
  go_wp2
  refine wp_region_below_tail 12 (by kernel_rfl) (by kernel_rfl) ?_
  simp only[List.take_succ_cons,List.take_zero,List.drop_succ_cons,List.drop_zero]
  repeat (quiet_step ((go_at_call 153;exact cD _ _)))
  refine wpQuiet_nil ?_
  rintro w1 ⟨p,rfl⟩
  have hX1:=HX.out p
  have T1:=tch_regrown w p
  obtain⟨W,hW⟩: ∃W,W=grow (redrawn w p.d) p.os:=⟨_,rfl⟩
  rw[←hW] at hX1 T1 ⊢
  clear hW cD HX k0
  have d0:=hX1.c0;have g0:=hX1.f0
  go_wp2
  first|refine bodyPost_ret (results_none rfl _ _ _) rfl ?_|go_end0
  exact⟨rfl,hX1.stored T1 _⟩
 ·have HU:Hid (2*(-(n+1))+1=(fol n:Nat)):=by show _=_;unfold fol;rw[if_neg h0];omega
  have hw0:IntKind.i64.wrap (n+1)=n+1:=by rw[IntKind.wrap_i64];omega
  have hw9:IntKind.i64.wrap (-(n+1))= -(n+1):=by rw[IntKind.wrap_i64];omega
  have hw1:IntKind.u64.wrap (-(n+1))= -(n+1):=by rw[IntKind.wrap_u64];omega
  have hw2:IntKind.u64.wrap (2* -(n+1))=2* -(n+1):=by rw[IntKind.wrap_u64];omega
  have hw3:IntKind.u64.wrap (2* -(n+1)+1)=(fol n:Nat):=by rw[IntKind.wrap_u64, ←HU.out];omega
  go_enter Tryz.func134,Tryz.ntmps134
  go_wp2
  refine wp_region_below_tail 15 (by kernel_rfl) (by kernel_rfl) ?_
  simp only[List.take_succ_cons,List.take_zero,List.drop_succ_cons,List.drop_zero]
  repeat (quiet_step ((go_at_call 153;exact cD _ _)))
  refine wpQuiet_nil ?_
  rintro w1 ⟨p,rfl⟩
  have hX1:=HX.out p
  have T1:=tch_regrown w p
  obtain⟨W,hW⟩: ∃W,W=grow (redrawn w p.d) p.os:=⟨_,rfl⟩
  rw[←hW] at hX1 T1 ⊢
  clear hW cD HX k0
  have d0:=hX1.c0;have g0:=hX1.f0
  go_wp2
  first|refine bodyPost_ret (results_none rfl _ _ _) rfl ?_|go_end0
  exact⟨rfl,hX1.stored T1 _⟩
theorem xwtext_any (b:Nat) (s:ByteArray) (e:Int) (t:ByteArray) (most:Int) (w:World) (h:XW w b s e) (hsz:s.size+10+t.size≤140737488355328):
  Calls Tryz.prog 135 #[.pointer (some ⟨b,0,none⟩),.string t,.int .i64 most] w fun x w'=>x= .returned (.tuple #[])∧XW w' b (xs s (textL t) (textC t most)) (failE e (textC t most))∧Tch (fun i=>i=b) w w':=by
 by_cases h0:most<0
 ·have hw:=xwwrong_any b s e 1 w h
  have HV:Hid (textC t most=1):=by show _=_;unfold textC;rw[if_pos h0]
  rw[HV.out,xs_bad _ _ (by omega)]
  go_enter Tryz.func135,Tryz.ntmps135
  go_wp2_with fail
  refine hw.mono ?_
  rintro x w1 ⟨rfl,h1,t1⟩
  go_wp2
  first|refine bodyPost_ret (results_none rfl _ _ _) rfl ?_|go_end0
  exact⟨rfl,h1,t1⟩
 ·by_cases h12:most<t.size
  ·have hw:=xwwrong_any b s e 12 w h
   have HV:Hid (textC t most=12):=by show _=_;unfold textC;rw[if_neg h0,if_pos h12]
   rw[HV.out,xs_bad _ _ (by omega)]
   go_enter Tryz.func135,Tryz.ntmps135
   go_wp2_with fail
   refine hw.mono ?_
   rintro x w1 ⟨rfl,h1,t1⟩
   go_wp2
   first|refine bodyPost_ret (results_none rfl _ _ _) rfl ?_|go_end0
   exact⟨rfl,h1,t1⟩
  ·have hd:=fun(W:World)=>xdigits_any t.size W (by omega)
   have HV:Hid (textC t most=0):=by show _=_;unfold textC;rw[if_neg h0,if_neg h12]
   rw[HV.out,xs_ok,failE_zero]
   obtain⟨D,hD⟩: ∃D:ByteArray,D=⟨(dg t.size).toArray⟩:=⟨_,rfl⟩
   have HE2:Hid (s++⟨(textL t).toArray⟩=s++D++t):=by
    show _=_
    rw[hD,ByteArray.append_assoc]
    congr 1
   rw[HE2.out]
   rw[←hD] at hd
   have hds:D.size≤10:=by rw[hD,size_list];exact dgf_len 10 t.size
   clear hD HE2
   have n1: ¬9223372036854775807<s.size+D.size:=by omega
   have n2: ¬9223372036854775807<s.size+D.size+t.size:=by omega
   have hwr:IntKind.u64.wrap (t.size:Int)=t.size:=by rw[IntKind.wrap_u64];omega
   have k0:=cell_regrown h.c0
   have cD: ∀d os,Calls Tryz.prog 153 #[.int .u64 t.size] (grow (redrawn w d) os) fun e w''=>e= .returned (.string D)∧ ∃p:Regrown,w''=grow (redrawn w p.d) p.os:=fun d os=>Calls.tch_regrown_of (hd _)
   have HX:Hid (∀p:Regrown,XW (grow (redrawn w p.d) p.os) b s e):=fun p=>h.tch (tch_regrown w p) (fun h=>h)
   clear h hds hsz hd
   go_enter Tryz.func135,Tryz.ntmps135
   go_wp2
   refine wp_region_below_tail 14 (by kernel_rfl) (by kernel_rfl) ?_
   simp only[List.take_succ_cons,List.take_zero,List.drop_succ_cons,List.drop_zero]
   repeat (quiet_step ((go_at_call 153;exact cD _ _)))
   refine wpQuiet_nil ?_
   rintro w1 ⟨p,rfl⟩
   have hX1:=HX.out p
   have T1:=tch_regrown w p
   obtain⟨W,hW⟩: ∃W,W=grow (redrawn w p.d) p.os:=⟨_,rfl⟩
   rw[←hW] at hX1 T1 ⊢
   clear hW cD HX k0
   have d0:=hX1.c0;have g0:=hX1.f0
   go_wp2
   first|refine bodyPost_ret (results_none rfl _ _ _) rfl ?_|go_end0
   exact⟨rfl,hX1.stored T1 _⟩
theorem xwbyte_any (b:Nat) (s:ByteArray) (e:Int) (l:List Int) (ad:Addr) (g o c:Nat) (w:World) (h:XW w b s e) (had:l≠[]→ad=⟨g,o,none⟩) (hgb:l≠[]→g≠b) (hlen:s.size+l.length≤140737488355328)
  (hcells: ∀j (hj:j<l.length),w.cell? ⟨g,o+j,none⟩=some (.int .i64 l[j])):
  Calls Tryz.prog 133 #[.pointer (some ⟨b,0,none⟩),.slice (some ad) l.length c] w fun x w'=>x= .returned (.tuple #[])∧XW w' b (xs s (bytesL l) (bytesC l)) (failE e (bytesC l))∧Tch (fun i=>i=b) w w':=by
 have HG:Hid (∀W,Tch (fun i=>i=b) w W→ ∀j (hj:j<l.length),W.cell? ⟨g,o+j,none⟩=some (.int .i64 l[j])):=fun W t j hj=>(t.cell (p:=⟨g,o+j,none⟩) (cell_lt (hcells j hj)) (hgb (by rintro rfl;simp at hj))).trans (hcells j hj)
 have HD:Hid (l≠[]→ad=⟨g,o,none⟩):=had
 clear hcells hgb had
 have HW:Hid (XW w b s e):=h
 clear h
 go_enter Tryz.func133,Tryz.ntmps133
 go_wp2
 go_loopw [4] (fun i wr=> ∃k:Nat,i= .int .i64 k∧k≤l.length∧Hid ((l.take k).all byteOk=true)∧w=wr) (fun i _=>l.length - (intOf i).toNat)
 case atStart=>exact⟨0,rfl,Nat.zero_le _,rfl,rfl⟩
 case round=>
  obtain⟨k,rfl,hk,HA,rfl⟩:=hrel
  by_cases hkl:k<l.length
  ·have hkl':(k:Int)<l.length:=by omega
   have hda:=HD.out (by rintro rfl;simp at hkl)
   clear HD
   subst hda
   have hc:=HG.out w (Tch.refl _ _) k hkl
   obtain⟨x,hx⟩: ∃x,x=l[k]:=⟨_,rfl⟩
   rw[←hx] at hc
   have HX:Hid (x=l[k]):=hx
   clear hx
   by_cases hb:byteOk x=true
   ·have hb':0≤x∧x≤255:=by simpa[byteOk] using hb
    obtain⟨hb0,hb1⟩:=hb'
    clear hb
    have HTK:Hid (l.take (k+1)=l.take k++[x]):=by show _=_;rw[List.take_succ_eq_append_getElem hkl,HX.out]
    have HA2:Hid ((l.take (k+1)).all byteOk=true):=by
     show _=_
     rw[HTK.out,List.all_append,HA.out];simp[byteOk];omega
    go_wp2
    go_roundw
    case rel=>exact⟨k+1,by go_num,by omega,HA2,by first|rfl|trivial⟩
    case measure=>simp[intOf];omega
   ·have HC:Hid (bytesC l=10):=by
     show _=_
     unfold bytesC
     rw[if_neg]
     intro hall
     rw[List.all_eq_true] at hall
     exact hb (hall x (by rw[HX.out];exact List.getElem_mem hkl))
    have hf:=xwwrong_any b s e 10 w HW.out
    have hb': ¬(0≤x∧x≤255):=by simpa[byteOk] using hb
    clear hb
    by_cases hx0:x<0
    ·go_wp2_with (go_at_call 151;refine hf.mono ?_;rintro x w1 ⟨rfl,h1,t1⟩)
     refine bodyPost_ret (results_none rfl _ _ _) rfl ?_
     rw[HC.out,xs_bad _ _ (by omega)]
     exact⟨rfl,h1,t1⟩
    ·have hx1:255<x:=by omega
     go_wp2_with (go_at_call 151;refine hf.mono ?_;rintro x w1 ⟨rfl,h1,t1⟩)
     refine bodyPost_ret (results_none rfl _ _ _) rfl ?_
     rw[HC.out,xs_bad _ _ (by omega)]
     exact⟨rfl,h1,t1⟩
  ·have hkl': ¬(k:Int)<l.length:=by omega
   have HA3:Hid (l.all byteOk=true):=by
    have h1:=HA.out
    rwa [List.take_of_length_le (by omega)] at h1
   have HC:Hid (bytesC l=0):=by show _=_;unfold bytesC;rw[if_pos HA3.out]
   have HF:Hid (xs s (bytesL l) (bytesC l)=s++⟨(bytesL l).toArray⟩∧failE e (bytesC l)=e):=by
    refine⟨?_,?_⟩
    ·rw[HC.out,xs_ok]
    ·rw[HC.out,failE_zero]
   clear hk HA HC
   go_wp2
   go_loopw [5] (fun i wr'=> ∃k:Nat,i= .int .i64 k∧k≤l.length∧Hid (XW wr' b (s++⟨(bytesL (l.take k)).toArray⟩) e)∧Tch (fun i=>i=b) w wr') (fun i _=>l.length - (intOf i).toNat)
   case atStart=>
    refine⟨0,rfl,Nat.zero_le _,?_,Tch.refl _ _⟩
    have e0:s++(⟨(bytesL (l.take 0)).toArray⟩:ByteArray)=s:=by apply ByteArray.ext;simp[bytesL]
    show XW _ _ _ _
    rw[e0];exact HW.out
   case round=>
    obtain⟨k,rfl,hk,HX,hT⟩:=hrel
    obtain⟨P,hP⟩: ∃P:ByteArray,P=s++⟨(bytesL (l.take k)).toArray⟩:=⟨_,rfl⟩
    have hps:P.size≤s.size+l.length:=by rw[hP,ByteArray.size_append,size_list (bytesL (l.take k)),show(bytesL (l.take k)).length=min k l.length by simp[bytesL]];omega
    rw[←hP] at HX
    by_cases hkl2:k<l.length
    ·have hkl':(k:Int)<l.length:=by omega
     have hda:=HD.out (by rintro rfl;simp at hkl2)
     clear HD
     subst hda
     have hc:=HG.out wr hT k hkl2
     obtain⟨x,hx⟩: ∃x,x=l[k]:=⟨_,rfl⟩
     rw[←hx] at hc
     have hb:byteOk x=true:=List.all_eq_true.1 HA3.out x (by rw[hx];exact List.getElem_mem hkl2)
     have hb':0≤x∧x≤255:=by simpa[byteOk] using hb
     have HTK:Hid (P++⟨#[UInt8.ofNat x.toNat]⟩=s++⟨(bytesL (l.take (k+1))).toArray⟩):=by
      show _=_
      rw[hP,ByteArray.append_assoc]
      congr 1
      rw[List.take_succ_eq_append_getElem hkl2, ←hx]
      apply ByteArray.ext
      simp[bytesL]
     have ho:=fun(W:World)=>xone_any x.toNat W (by omega)
     obtain⟨B,hB⟩: ∃B:ByteArray,B=⟨#[UInt8.ofNat x.toNat]⟩:=⟨_,rfl⟩
     have hbs:B.size=1:=by rw[hB];rfl
     rw[←hB] at HTK ho
     rw[show((x.toNat:Nat):Int)=x by omega] at ho
     clear hB hP hx hb hb'
     have n1: ¬9223372036854775807<P.size+B.size:=by omega
     have k0:=cell_regrown HX.out.c0
     have kc:=cell_regrown hc
     have cO: ∀d os,Calls Tryz.prog 152 #[.int .i64 x] (grow (redrawn wr d) os) fun e w''=>e= .returned (.string B)∧ ∃p:Regrown,w''=grow (redrawn wr p.d) p.os:=fun d os=>Calls.tch_regrown_of (ho _)
     have HX2:Hid (∀p:Regrown,XW (grow (redrawn wr p.d) p.os) b P e):=fun p=>HX.out.tch (tch_regrown wr p) (fun h=>h)
     have hl63:l.length≤140737488355328:=by omega
     clear ho hbs hps hlen hc
     go_wp2
     refine wp_region_below_tail 13 (by kernel_rfl) (by kernel_rfl) ?_
     simp only[List.take_succ_cons,List.take_zero,List.drop_succ_cons,List.drop_zero]
     repeat (quiet_step ((go_at_call 152;exact cO _ _)))
     refine wpQuiet_nil ?_
     rintro w1 ⟨p,rfl⟩
     have hX1:=HX2.out p
     have T1:=tch_regrown wr p
     obtain⟨W,hW⟩: ∃W,W=grow (redrawn wr p.d) p.os:=⟨_,rfl⟩
     rw[←hW] at hX1 T1 ⊢
     clear hW cO HX2 k0 kc
     have d0:=hX1.c0;have g0:=hX1.f0
     go_wp2
     go_roundw
     case rel=>
      refine⟨k+1,by go_num,by omega,?_,hT.trans' (hX1.stored T1 _).2⟩
      show XW _ _ _ _
      rw[←HTK.out]
      exact(hX1.stored T1 _).1
     case measure=>simp[intOf];omega
    ·have hkl': ¬(k:Int)<l.length:=by omega
     have HP:Hid (P=s++⟨(bytesL l).toArray⟩):=by show _=_;rw[hP,List.take_of_length_le (by omega)]
     clear hP
     go_wp2
     go_end0
     rw[HF.out.1,HF.out.2, ←HP.out]
     exact⟨rfl,HX.out,hT⟩
theorem xnewReader_any (s:ByteArray) (w:World):
  Calls Tryz.prog 121 #[.string s] w fun x w'=>x= .returned (.pointer (some ⟨w.heap.size,0,none⟩))∧XS w' w.heap.size s 0 0∧Tch (fun _=>False) w w'∧w'.heap.size=w.heap.size+1:=by
 go_enter Tryz.func121,Tryz.ntmps121
 go_wp2
 go_ret
 exact⟨rfl,⟨by simp,by simp,by simp,by simp,by simp,Nat.zero_le _⟩,Tch.alloc _ _ _,by simp⟩
def bsA (l:List UInt8):ByteArray:=⟨l.toArray⟩
theorem bsA_size (l:List UInt8):(bsA l).size=l.length:=size_list l
theorem bsA_app (a b:List UInt8):bsA a++bsA b=bsA (a++b):=app_list a b
theorem bytesL_one (n:Int) (h0:0≤n) (h1:n≤255):bytesL [n]=[UInt8.ofNat n.toNat]∧bytesC [n]=0:=by
 have hb:byteOk n=true:=by simp[byteOk];omega
 refine⟨by simp[bytesL],?_⟩
 unfold bytesC;simp[hb]
theorem xwbyte1 (b:Nat) (bs:List UInt8) (n:Int) (z:Nat) (w:World) (h:XW w b (bsA bs) 0) (hz:w.heap.size=z) (h0:0≤n) (h1:n≤255) (hlen:bs.length+1≤140737488355328):
  Calls Tryz.prog 133 #[.pointer (some ⟨b,0,none⟩),.slice (some ⟨z,0,none⟩) 1 1] (w.alloc (.cells #[.int .i64 n] 3)) fun x w'=>x= .returned (.tuple #[])∧XW w' b (bsA (bs++[UInt8.ofNat n.toNat])) 0∧Tch (fun i=>i=b) (w.alloc (.cells #[.int .i64 n] 3)) w':=by
 subst hz
 have hb:b<w.heap.size:=cell_lt h.c0
 have:=xwbyte_any b (bsA bs) 0 [n] ⟨w.heap.size,0,none⟩ w.heap.size 0 1 _ (h.tch (Tch.alloc (fun _=>False) w (.cells #[.int .i64 n] 3)) (fun h=>h)) (fun _=>rfl) (fun _=>by omega) (by rw[bsA_size];simpa using hlen) (fun j hj=>by
  obtain rfl:j=0:=by simp at hj;omega
  simp)
 refine this.mono ?_
 rintro x w' ⟨rfl,h2,t⟩
 obtain⟨e1,e2⟩:=bytesL_one n h0 h1
 rw[e1,e2,xs_ok,failE_zero] at h2
 refine⟨rfl,?_,t⟩
 rw[←bsA_app];exact h2
theorem xwint1 (b:Nat) (bs:List UInt8) (n:Int) (w:World) (h:XW w b (bsA bs) 0) (h1: -9223372036854775808≤n) (h2:n≤9223372036854775807) (hlen:bs.length+10≤140737488355328):
  Calls Tryz.prog 134 #[.pointer (some ⟨b,0,none⟩),.int .i64 n] w fun x w'=>x= .returned (.tuple #[])∧XW w' b (bsA (bs++dg (fol n))) 0∧Tch (fun i=>i=b) w w':=by
 refine(xwint_any b (bsA bs) 0 n w h h1 h2 (by rw[bsA_size];exact hlen)).mono ?_
 rintro x w' ⟨rfl,h3,t⟩
 refine⟨rfl,?_,t⟩
 rw[←bsA_app];exact h3
theorem xwtext1 (b:Nat) (bs:List UInt8) (s:ByteArray) (w:World) (h:XW w b (bsA bs) 0) (hs:s.size≤200) (hlen:bs.length+10+s.size≤140737488355328):
  Calls Tryz.prog 135 #[.pointer (some ⟨b,0,none⟩),.string s,.int .i64 200] w fun x w'=>x= .returned (.tuple #[])∧XW w' b (bsA (bs++textL s)) 0∧Tch (fun i=>i=b) w w':=by
 refine(xwtext_any b (bsA bs) 0 s 200 w h (by rw[bsA_size];exact hlen)).mono ?_
 rintro x w' ⟨rfl,h3,t⟩
 have e:textC s 200=0:=by unfold textC;rw[if_neg (by omega),if_neg (by omega)]
 rw[e,xs_ok,failE_zero] at h3
 refine⟨rfl,?_,t⟩
 rw[←bsA_app];exact h3
theorem rowAt_get {w:World} {g o:Nat} {vs:List Val} (h:RowAt w g o vs) (k:Nat) (hk:k<vs.length) {v:Val} (e:v=vs[k]):w.cell? ⟨g,o+k*3,none⟩=some (.int .i64 v.k)∧w.cell? ⟨g,o+k*3+1,none⟩=some (.int .i64 v.n)∧w.cell? ⟨g,o+k*3+2,none⟩=some (.string v.s):=by
 subst e;exact h k hk
theorem rencode_any (vs:List Val) (ao:Option Addr) (g o c:Nat) (w:World) (hao:vs≠[]→ao=some ⟨g,o,none⟩) (hrow:RowAt w g o vs) (hi: ∀v∈vs,v.i64) (hlen:vs.length≤9223372036854775807):
  Calls Tryz.prog 110 #[.slice ao vs.length c] w fun x w'=>x= .returned (.tuple #[.string ⟨(encR vs).1.toArray⟩,.int .i64 (encR vs).2])∧Tch (fun _=>False) w w':=by
 by_cases h8:8<vs.length
 ·have h8':(8:Int)<vs.length:=by omega
  have e:encR vs=([],44):=by unfold encR;rw[if_pos h8]
  rw[e]
  clear hao hrow hi e
  go_enter Tryz.func110,Tryz.ntmps110
  go_wp2
  go_ret2
  exact⟨rfl,Tch.refl _ _⟩
 ·have h8': ¬(8:Int)<vs.length:=by omega
  have HR:Hid (encR vs=encGo vs [UInt8.ofNat vs.length]):=by show _=_;unfold encR;rw[if_neg h8]
  have HG:Hid (∀W,Tch (fun i=>w.heap.size≤i) w W→RowAt W g o vs):=fun W t=>hrow.tch t (fun hv=>by have:=hrow.lt hv;omega)
  have HI:Hid (∀v∈vs,v.i64):=hi
  have HAO:Hid (vs≠[]→ao=some ⟨g,o,none⟩):=hao
  clear hrow hi hao
  go_enter Tryz.func110,Tryz.ntmps110
  go_wp2_with (go_at_call 132;refine(xnewWriter_any _).mono ?_;rintro x w1 ⟨rfl,h1,t1,z1⟩;have T1:=no_mono (S:=fun i=>w.heap.size≤i) t1)
  refine(xwbyte1 _ [] vs.length _ _ h1 z1 (by omega) (by omega) (by simp)).mono ?_
  rintro x w2 ⟨rfl,h2,t2⟩
  have T2:=(T1.allocR _).trans' (eq_mono t2 (Nat.le_refl _))
  clear T1 t1 t2 h1 z1
  simp only[List.nil_append,Int.toNat_natCast] at h2
  go_wp2_with fail
  go_loopw [5] (fun i wr=> ∃(k:Nat) (bs:List UInt8),i= .int .i64 k∧k≤vs.length∧Hid (encR vs=encGo (vs.drop k) bs)∧bs.length≤1+211*k∧XW wr w.heap.size (bsA bs) 0∧Tch (fun i=>w.heap.size≤i) w wr) (fun i _=>vs.length - (intOf i).toNat)
  case atStart=>exact⟨0,_,rfl,Nat.zero_le _,by show _=_;rw[HR.out];rfl,by simp,h2,T2⟩
  case round=>
   obtain⟨k,bs,rfl,hk,HA,hbl,hW,hT⟩:=hrel
   clear h2 T2
   by_cases hkl:k<vs.length
   ·have hkl':(k:Int)<vs.length:=by omega
    obtain rfl:=HAO.out (by intro e;rw[e] at hkl;simp at hkl)
    obtain⟨v,hv⟩: ∃v,v=vs[k]:=⟨_,rfl⟩
    obtain⟨c0,c1,c2⟩:=rowAt_get (HG.out wr hT) k hkl hv
    have HV:Hid (encGo (vs.drop k) bs=if wrg v=0 then encGo (vs.drop (k+1)) (bs++encV v) else([],wrg v)):=by
     show _=_
     rw[List.drop_eq_getElem_cons hkl, ←hv];rfl
    have hvi:=HI.out v (by rw[hv];exact List.getElem_mem hkl)
    have HC:Hid (∀W,Tch (fun i=>w.heap.size≤i) w W→W.cell? ⟨g,o+k*3,none⟩=some (.int .i64 v.k)∧W.cell? ⟨g,o+k*3+1,none⟩=some (.int .i64 v.n)∧W.cell? ⟨g,o+k*3+2,none⟩=some (.string v.s)):=fun W t=>rowAt_get (HG.out W t) k hkl hv
    obtain⟨vk,vn,vs'⟩:=v
    simp only at c0 c1 c2
    simp only at HC
    unfold Val.i64 at hvi
    simp only at hvi
    clear hv
    obtain⟨⟨-, -⟩,hv1,hv2⟩:=hvi
    go_wp2_with fail
    refine(rwrong_any vk vn vs' _).mono ?_
    rintro x w3 ⟨rfl,t3⟩
    have T3:Tch (fun i=>w.heap.size≤i) w w3:=hT.trans' (no_mono t3)
    have W3:=hW.tch t3 (fun h=>h)
    clear c0 c1 c2 hT t3 hW
    by_cases hw:wrg ⟨vk,vn,vs'⟩=0
    ·obtain⟨hf,hs⟩:=wrg_zero hw
     rw[hw]
     have hel:=encV_len (v:=⟨vk,vn,vs'⟩) hs
     have HA4:Hid (encR vs=encGo (vs.drop (k+1)) (bs++encV ⟨vk,vn,vs'⟩)):=by
      show _=_
      rw[HA.out,HV.out,if_pos hw]
     clear hw HV HA
     obtain⟨d0,d1,d2⟩:=HC.out w3 T3
     unfold frm at hf
     simp only at hf hs
     rcases hf with⟨rfl,rfl,hz⟩|⟨rfl,hz⟩|⟨rfl,rfl⟩|⟨rfl,hz,hn⟩
     ·go_wp2_with fail
      refine(xwbyte1 _ bs 0 _ _ W3 rfl (by omega) (by omega) (by omega)).mono ?_
      rintro x w4 ⟨rfl,W4,t4⟩
      have T4:=(T3.allocR _).trans' (eq_mono t4 (Nat.le_refl _))
      clear d0 d1 d2 T3 W3 t4
      have W5:XW w4 w.heap.size (bsA (bs++encV ⟨0,0,vs'⟩)) 0:=W4
      clear W4
      go_wp2_with fail
      go_roundw
      case rel=>exact⟨k+1,_,by go_num,by omega,HA4,by rw[List.length_append];omega,W5,T4⟩
      case measure=>simp[intOf];omega
     ·go_wp2_with fail
      refine(xwbyte1 _ bs 1 _ _ W3 rfl (by omega) (by omega) (by omega)).mono ?_
      rintro x w4 ⟨rfl,W4,t4⟩
      have T4:=(T3.allocR _).trans' (eq_mono t4 (Nat.le_refl _))
      clear d0 d1 d2 T3 W3 t4
      obtain⟨d0,d1,d2⟩:=HC.out w4 T4
      go_wp2_with fail
      refine(xwint1 _ _ vn _ W4 hv1 hv2 (by rw[List.length_append];simp;omega)).mono ?_
      rintro x w5 ⟨rfl,W5,t5⟩
      have T5:=T4.trans' (eq_mono t5 (Nat.le_refl _))
      clear d0 d1 d2 T4 W4 t5
      have W6:XW w5 w.heap.size (bsA (bs++encV ⟨1,vn,vs'⟩)) 0:=by
       have e:encV ⟨1,vn,vs'⟩=[1]++dg (fol vn):=rfl
       rw[e, ←List.append_assoc];exact W5
      clear W5
      go_wp2_with fail
      go_roundw
      case rel=>exact⟨k+1,_,by go_num,by omega,HA4,by rw[List.length_append];omega,W6,T5⟩
      case measure=>simp[intOf];omega
     ·go_wp2_with fail
      refine(xwbyte1 _ bs 2 _ _ W3 rfl (by omega) (by omega) (by omega)).mono ?_
      rintro x w4 ⟨rfl,W4,t4⟩
      have T4:=(T3.allocR _).trans' (eq_mono t4 (Nat.le_refl _))
      clear d0 d1 d2 T3 W3 t4
      obtain⟨d0,d1,d2⟩:=HC.out w4 T4
      go_wp2_with fail
      refine(xwtext1 _ _ vs' _ W4 hs (by rw[List.length_append];simp;omega)).mono ?_
      rintro x w5 ⟨rfl,W5,t5⟩
      have T5:=T4.trans' (eq_mono t5 (Nat.le_refl _))
      clear d0 d1 d2 T4 W4 t5
      have W6:XW w5 w.heap.size (bsA (bs++encV ⟨2,0,vs'⟩)) 0:=by
       have e:encV ⟨2,0,vs'⟩=[2]++textL vs':=rfl
       rw[e, ←List.append_assoc];exact W5
      clear W5
      go_wp2_with fail
      go_roundw
      case rel=>exact⟨k+1,_,by go_num,by omega,HA4,by rw[List.length_append];omega,W6,T5⟩
      case measure=>simp[intOf];omega
     ·have hn3:(0:Int)≤3+vn∧3+vn≤255:=by omega
      go_wp2_with fail
      refine(xwbyte1 _ bs (3+vn) _ _ W3 rfl hn3.1 hn3.2 (by omega)).mono ?_
      rintro x w4 ⟨rfl,W4,t4⟩
      have T4:=(T3.allocR _).trans' (eq_mono t4 (Nat.le_refl _))
      clear d0 d1 d2 T3 W3 t4
      have W5:XW w4 w.heap.size (bsA (bs++encV ⟨3,vn,vs'⟩)) 0:=W4
      clear W4
      go_wp2_with fail
      go_roundw
      case rel=>exact⟨k+1,_,by go_num,by omega,HA4,by rw[List.length_append];omega,W5,T4⟩
      case measure=>simp[intOf];omega
    ·have HE2:Hid (encR vs=([],wrg ⟨vk,vn,vs'⟩)):=by
      show _=_
      rw[HA.out,HV.out,if_neg hw]
     have T4:=ge_new T3
     clear T3 HV HA
     have hw':(wrg ⟨vk,vn,vs'⟩ !=0)=true:=by simpa using hw
     obtain⟨e,he⟩: ∃e,e=wrg ⟨vk,vn,vs'⟩:=⟨_,rfl⟩
     rw[←he] at hw' HE2 ⊢
     clear he hw
     go_wp2_with fail
     go_ret2
     rw[HE2.out]
     exact⟨rfl,T4⟩
   ·have hkl': ¬(k:Int)<vs.length:=by omega
    have HE2:Hid (encR vs=(bs,0)):=by
     show _=_
     rw[HA.out,List.drop_eq_nil_of_le (by omega)];rfl
    go_wp2_with fail
    refine(xwdone_any _ (bsA bs) 0 _ hW).mono ?_
    rintro x w3 ⟨rfl,t3⟩
    have T4:=ge_new (hT.trans' (no_mono t3))
    go_wp2_with fail
    go_ret2
    rw[HE2.out]
    exact⟨rfl,T4⟩
def RDecOut (S:ByteArray) (w:World) (x:Ending) (w':World):Prop:=match decR S with
 |none=>x= .returned (.tuple #[.slice none 0 0,.int .i64 43])
 |some vs=> ∃ro c,x= .returned (.tuple #[.slice ro vs.length c,.int .i64 0])∧RowOf w' ro vs∧ ∀g o,ro=some ⟨g,o,none⟩→w.heap.size≤g
theorem RDecOut.none {S:ByteArray} {w w':World} {x:Ending} (h:decR S= .none) (hx:x= .returned (.tuple #[.slice .none 0 0,.int .i64 43])):RDecOut S w x w':=by
 unfold RDecOut;rw[h];exact hx
theorem rdV_of {S:ByteArray} {a a1 m:Nat} {e e1:Int} (h:byteR S a e=(m,a1,e1)):rdV S a e=if m=0 then((⟨0,0,⟨#[]⟩⟩,true),(a1,e1)) else if m=1 then((⟨1,unf (numR 10 1 S a1 e1).1,⟨#[]⟩⟩,true),(numR 10 1 S a1 e1).2) else if m=2 then((⟨2,0,(textR 200 S a1 e1).1⟩,true),(textR 200 S a1 e1).2) else if m=3∨m=4 then((⟨3,(m:Int) - 3,⟨#[]⟩⟩,true),(a1,e1)) else((⟨0,0,⟨#[]⟩⟩,false),(a1,e1)):=by
 unfold rdV;rw[h]
theorem decGo_step {S:ByteArray} {n k a a':Nat} {e e':Int} {l:List Val} {v:Val} (hk:k<n) (h:rdV S a e=((v,true),a',e')):decGo S (n - k) a e l=decGo S (n - (k+1)) a' e' (l++[v]):=by
 rw[show n - k=(n - (k+1))+1 by omega]
 show(if (rdV S a e).1.2=true then _ else _)=_
 rw[h];rfl
theorem decGo_stop {S:ByteArray} {n k a a':Nat} {e e':Int} {l:List Val} {v:Val} (hk:k<n) (h:rdV S a e=((v,false),a',e')):decGo S (n - k) a e l= .none:=by
 rw[show n - k=(n - (k+1))+1 by omega]
 show(if (rdV S a e).1.2=true then _ else _)=_
 rw[h];rfl
theorem bs_back (S:ByteArray):(⟨S.data.toList.toArray⟩:ByteArray)=S:=by apply ByteArray.ext;simp
theorem bx_cells {W:World} {B:Nat} {x y z:Value} {t:TypeId} (h:W.heap[B]? =some (.cells #[x,y,z] t (0,0))):W.cell? ⟨B,0,none⟩=some x∧W.cell? ⟨B,1,none⟩=some y∧W.cell? ⟨B,2,none⟩=some z∧ ∀j,W.frozen? ⟨B,j,none⟩=false:=
 ⟨by rw[blk_cell h];rfl,by rw[blk_cell h];rfl,by rw[blk_cell h];rfl,fun j=>blk_frozen h j⟩
theorem box_set0 {W:World} {B:Nat} {x y z:Value} {t:TypeId} (h:W.heap[B]? =some (.cells #[x,y,z] t (0,0))) (v:Value):(W.setCell ⟨B,0,none⟩ v).heap[B]? =some (.cells #[v,y,z] t (0,0)):=by rw[blk_set h];rfl
theorem box_set1 {W:World} {B:Nat} {x y z:Value} {t:TypeId} (h:W.heap[B]? =some (.cells #[x,y,z] t (0,0))) (v:Value):(W.setCell ⟨B,1,none⟩ v).heap[B]? =some (.cells #[x,v,z] t (0,0)):=by rw[blk_set h];rfl
theorem box_set2 {W:World} {B:Nat} {x y z:Value} {t:TypeId} (h:W.heap[B]? =some (.cells #[x,y,z] t (0,0))) (v:Value):(W.setCell ⟨B,2,none⟩ v).heap[B]? =some (.cells #[x,y,v] t (0,0)):=by rw[blk_set h];rfl
theorem new_cells (W:World) (v:Val) (M:Nat) (hM:M=W.heap.size): ∀j u,(rcl [v])[j]? =some u→(W.alloc (.cells #[.int .i64 v.k,.int .i64 v.n,.string v.s] 58)).cell? ((⟨M,0,none⟩:Addr).add j)=some u:=by
 subst hM;exact rcl_cells (by simp) (by simp) (by simp)
theorem rdecode_any (S:ByteArray) (w:World) (hS:S.size≤281474976710656):
  Calls Tryz.prog 95 #[.string S] w fun x w'=>RDecOut S w x w'∧Tch (fun _=>False) w w':=by
 obtain⟨i0,hii,hz0,hz1,hz2⟩:=info_parts info_val
 obtain⟨N,hN⟩: ∃N,N=w.heap.size:=⟨_,rfl⟩
 have hm:=byteR_lt S 0 0
 have hxn:=xnewReader_any S w
 rw[←hN] at hxn
 have HN:Hid (N=w.heap.size):=hN
 clear hN
 go_enter Tryz.func95,Tryz.ntmps95
 go_wp2_with fail
 refine hxn.mono ?_
 rintro x w1 ⟨rfl,h1,t1,z1⟩
 have T1:=no_mono (S:=fun i=>N≤i) t1
 clear hxn t1
 go_wp2_with fail
 refine(xbyte_any _ S 0 0 _ h1 hS).mono ?_
 rintro x w2 ⟨rfl,h2,t2⟩
 have T2:=T1.trans' (eq_mono t2 (Nat.le_refl _))
 clear T1 t2 h1
 obtain⟨n,a1,e1,hE⟩: ∃n a1 e1,byteR S 0 0=(n,a1,e1):=⟨_,_,_,rfl⟩
 obtain⟨D,hD⟩: ∃D,D=decGo S n a1 e1 []:=⟨_,rfl⟩
 have HD:Hid (decR S=if 8<n then none else D):=by show _=_;unfold decR;rw[hE,hD]
 have HD0:Hid (D=decGo S (n - 0) a1 e1 []):=by show _=_;rw[hD];rfl
 rw[hE] at h2 hm ⊢
 simp only at h2 hm ⊢
 have hz2':N+1≤w2.heap.size:=cell_lt h2.c0
 clear hE hD z1
 go_wp2_with fail
 go_loopw [6,7] (fun v i wr=> ∃(k a:Nat) (e:Int) (l:List Val),i= .int .i64 k∧(k≤n∧k≤9)∧(l.length≤k∧Hid (l.length=k))∧Hid (D=decGo S (n - k) a e l)∧wr.ownsRow (N+1) 58 3 v l.length (rcl l)∧XS wr N S a e∧N+1≤wr.heap.size∧Tch (fun i=>N≤i) w wr) (fun _ i _=>9 - (intOf i).toNat)
 case atStart=>exact⟨0,a1,e1,[],rfl,by omega,⟨Nat.le_refl _,rfl⟩,HD0,⟨rfl,Or.inl ⟨rfl,rfl⟩⟩,h2,hz2',T2⟩
 case round=>
  obtain⟨k,a,e,l,rfl,⟨hkn,hk9⟩,⟨hll,HLL⟩,HA,hown,hX,hsz,hT⟩:=hrel
  clear h2 T2 hz2' HD0
  obtain⟨ao,cp,hv⟩:=row_slice hown
  subst hv
  have HGr:Hid (∀b,(Value.slice ao l.length cp).ownBlock=some b→N+1≤b):=fun b hk=>row_ge hown hk
  have HO:Hid (∀W,Tch (fun i=>i=N∨wr.heap.size≤i) wr W→W.ownsRow (N+1) 58 3 (.slice ao l.length cp) l.length (rcl l)):=fun W t=>row_tch hown t (fun i h1 h2 h3=>by omega)
  by_cases hlt:k<n∧k<9
  ·have hk1:(k:Int)<n:=by omega
   have hk2:(k:Int)<9:=by omega
   have HK:Hid (k<n):=hlt.1
   obtain⟨wA,hwA⟩: ∃wA,wA=wr.alloc (.cells #[.int .i64 0,.int .i64 0,.string ⟨#[]⟩] 58):=⟨_,rfl⟩
   obtain⟨B,hB⟩: ∃B,B=wr.heap.size:=⟨_,rfl⟩
   have bA:wA.heap[B]? =some (.cells #[.int .i64 0,.int .i64 0,.string ⟨#[]⟩] 58 (0,0)):=by rw[hwA,hB];exact heap_new wr _
   have tA:Tch (fun i=>i=N∨B≤i) wr wA:=by rw[hwA];exact Tch.alloc _ _ _
   have XA:XS wA N S a e:=hX.tch (T:=fun _=>False) (by rw[hwA];exact Tch.alloc _ _ _) (fun h=>h)
   rw[←hB] at HO
   have hNB:N<B:=by omega
   have HB:Hid (B=wr.heap.size):=hB
   have HWA:Hid (wA=wr.alloc (.cells #[.int .i64 0,.int .i64 0,.string ⟨#[]⟩] 58)):=hwA
   clear hX hwA hB hown hlt
   go_wp2_with fail
   rw[←HWA.out, ←HB.out]
   refine(xbyte_any _ S a e _ XA hS).mono ?_
   rintro x w3 ⟨rfl,X3,t3⟩
   have T3:Tch (fun i=>i=N∨B≤i) wr w3:=tA.trans' (t3.mono (fun i _ h=>Or.inl h))
   have b3:w3.heap[B]? =some (.cells #[.int .i64 0,.int .i64 0,.string ⟨#[]⟩] 58 (0,0)):=(t3.block B (blk_lt bA) (by omega)).trans bA
   clear XA t3 bA tA HWA
   have hm3:=byteR_lt S a e
   obtain⟨m,a3,e3,hE⟩: ∃m a3 e3,byteR S a e=(m,a3,e3):=⟨_,_,_,rfl⟩
   have HRd:Hid _:=rdV_of hE
   rw[hE] at X3 hm3 ⊢
   simp only at X3 hm3 ⊢
   clear hE
   obtain⟨q0,q1,q2,q3⟩:=bx_cells b3
   have f0:=q3 0;have f1:=q3 1;have f2:=q3 2
   clear q3
   by_cases m0:m=0
   ·subst m0
    have HV:Hid (D=decGo S (n - (k+1)) (a3) (e3) (l++[⟨0,0,⟨#[]⟩⟩])):=by show _=_;rw[HA.out];exact decGo_step HK.out (by rw[HRd.out];rfl)
    have hszW:N+1≤(w3).heap.size:=cell_lt (X3).c0
    obtain⟨p0,p1,p2,_⟩:=bx_cells (b3)
    go_wp2_with (at_builtin;refine wpList_append_own _ rfl _ _ 24 rfl (N+1) 58 i0 (.agg #[.int .i64 0,.int .i64 0,.string ⟨#[]⟩]) 3 32 Tryz.underlying24 hii hz0 hz1 hz2 rfl (by decide) (.slice ao l.length cp) _ _ rfl (HO.out _ (T3.allocR _)) ⟨w3.heap.size,0,none⟩ 1 1 (rcl [⟨0,0,⟨#[]⟩⟩]) rfl rfl (rcl_cells (by simp) (by simp) (by simp)) (rcl_one _) (by unfold maxLen;omega) (by omega) (by simp;omega) ?_;intro v' w9 hown' hgr hnil;obtain⟨ao',cp',hv'⟩:=row_slice hown';subst hv';clear hnil)
    have tG:=grown_tch (N:=N+1) hgr HGr.out
    have X9:XS w9 N S (a3) (e3):=((X3).tch (T:=fun _=>False) (Tch.alloc _ _ _) (fun h=>h)).tch tG (by omega)
    have T9:Tch (fun i=>N≤i) w w9:=(hT.trans' (((T3).allocR _).mono (fun i _ h=>by omega))).trans' (tG.mono (fun i _ h=>by omega))
    have hs9:N+1≤w9.heap.size:=cell_lt X9.c0
    refine⟨⟨k+1,_,_,l++[⟨0,0,⟨#[]⟩⟩],by go_num,by omega,⟨by simp;omega,by show _=_;rw[List.length_append,HLL.out];rfl⟩,HV,?_,X9,hs9,T9⟩,by simp[intOf];omega⟩
    rw[rcl_snoc,List.length_append];exact hown'
   by_cases m1:m=1
   ·subst m1
    clear m0
    have X4:XS (w3.setCell ⟨B,0,none⟩ (.int .i64 1)) N S a3 e3:=X3.tch (Tch.setCell (fun i=>i=B) w3 ⟨B,0,none⟩ _ rfl) (by omega)
    have T4:Tch (fun i=>i=N∨B≤i) wr (w3.setCell ⟨B,0,none⟩ (.int .i64 1)):=T3.setCellR _ _ (by show B=N∨B≤B;omega)
    have b4:=box_set0 b3 (.int .i64 1)
    go_wp2_with fail
    refine(xint_any _ S a3 e3 _ X4 hS).mono ?_
    rintro x w5 ⟨rfl,X5,t5⟩
    have T5:Tch (fun i=>i=N∨B≤i) wr w5:=T4.trans' (t5.mono (fun i _ h=>Or.inl h))
    have b5:=(t5.block B (blk_lt b4) (by omega)).trans b4
    clear X4 T4 b4 t5 X3 T3 b3 q0 q1 q2 f0 f1 f2
    obtain⟨q0,q1,q2,q3⟩:=bx_cells b5
    have f0:=q3 0;have f1:=q3 1;have f2:=q3 2
    clear q3
    obtain⟨x5,a5,e5,hE5⟩: ∃x5 a5 e5,numR 10 1 S a3 e3=(x5,a5,e5):=⟨_,_,_,rfl⟩
    rw[hE5] at X5 HRd ⊢
    simp only at X5 HRd ⊢
    clear hE5
    have HV:Hid (D=decGo S (n - (k+1)) (a5) (e5) (l++[⟨1,unf x5,⟨#[]⟩⟩])):=by show _=_;rw[HA.out];exact decGo_step HK.out (by rw[HRd.out];rfl)
    have hszW:N+1≤(w5.setCell ⟨B,1,none⟩ (.int .i64 (unf x5))).heap.size:=cell_lt (X5.tch (Tch.setCell (fun i=>i=B) w5 ⟨B,1,none⟩ _ rfl) (by omega)).c0
    obtain⟨p0,p1,p2,_⟩:=bx_cells (box_set1 b5 (.int .i64 (unf x5)))
    have XW':XS (w5.setCell ⟨B,1,none⟩ (.int .i64 (unf x5))) N S (a5) (e5):=X5.tch (Tch.setCell (fun i=>i=B) w5 ⟨B,1,none⟩ _ rfl) (by omega)
    have TW:Tch (fun i=>i=N∨B≤i) wr (w5.setCell ⟨B,1,none⟩ (.int .i64 (unf x5))):=T5.setCellR _ _ (by show B=N∨B≤B;omega)
    go_wp2_with (at_builtin;refine wpList_append_own _ rfl _ _ 24 rfl (N+1) 58 i0 (.agg #[.int .i64 0,.int .i64 0,.string ⟨#[]⟩]) 3 32 Tryz.underlying24 hii hz0 hz1 hz2 rfl (by decide) (.slice ao l.length cp) _ _ rfl (HO.out _ (TW.allocR _)) _ 1 1 (rcl [⟨1,unf x5,⟨#[]⟩⟩]) rfl rfl (new_cells _ _ _ (by simp)) (rcl_one _) (by unfold maxLen;omega) (by omega) (by have h9:=hszW;simp only[World.size_setCell] at h9;simp;omega) ?_;intro v' w9 hown' hgr hnil;obtain⟨ao',cp',hv'⟩:=row_slice hown';subst hv';clear hnil)
    have tG:=grown_tch (N:=N+1) hgr HGr.out
    have X9:XS w9 N S (a5) (e5):=((XW').tch (T:=fun _=>False) (Tch.alloc _ _ _) (fun h=>h)).tch tG (by omega)
    have T9:Tch (fun i=>N≤i) w w9:=(hT.trans' (((TW).allocR _).mono (fun i _ h=>by omega))).trans' (tG.mono (fun i _ h=>by omega))
    have hs9:N+1≤w9.heap.size:=cell_lt X9.c0
    refine⟨⟨k+1,_,_,l++[⟨1,unf x5,⟨#[]⟩⟩],by go_num,by omega,⟨by simp;omega,by show _=_;rw[List.length_append,HLL.out];rfl⟩,HV,?_,X9,hs9,T9⟩,by simp[intOf];omega⟩
    rw[rcl_snoc,List.length_append];exact hown'
   by_cases m2:m=2
   ·subst m2
    clear m0 m1
    have X4:XS (w3.setCell ⟨B,0,none⟩ (.int .i64 2)) N S a3 e3:=X3.tch (Tch.setCell (fun i=>i=B) w3 ⟨B,0,none⟩ _ rfl) (by omega)
    have T4:Tch (fun i=>i=N∨B≤i) wr (w3.setCell ⟨B,0,none⟩ (.int .i64 2)):=T3.setCellR _ _ (by show B=N∨B≤B;omega)
    have b4:=box_set0 b3 (.int .i64 2)
    go_wp2_with fail
    refine(xtext_any _ S a3 e3 200 _ X4 hS).mono ?_
    rintro x w5 ⟨rfl,X5,t5⟩
    have T5:Tch (fun i=>i=N∨B≤i) wr w5:=T4.trans' (t5.mono (fun i _ h=>Or.inl h))
    have b5:=(t5.block B (blk_lt b4) (by omega)).trans b4
    clear X4 T4 b4 t5 X3 T3 b3 q0 q1 q2 f0 f1 f2
    obtain⟨q0,q1,q2,q3⟩:=bx_cells b5
    have f0:=q3 0;have f1:=q3 1;have f2:=q3 2
    clear q3
    obtain⟨x5,a5,e5,hE5⟩: ∃x5 a5 e5,textR 200 S a3 e3=(x5,a5,e5):=⟨_,_,_,rfl⟩
    rw[hE5] at X5 HRd ⊢
    simp only at X5 HRd ⊢
    clear hE5
    have HV:Hid (D=decGo S (n - (k+1)) (a5) (e5) (l++[⟨2,0,x5⟩])):=by show _=_;rw[HA.out];exact decGo_step HK.out (by rw[HRd.out];rfl)
    have hszW:N+1≤(w5.setCell ⟨B,2,none⟩ (.string x5)).heap.size:=cell_lt (X5.tch (Tch.setCell (fun i=>i=B) w5 ⟨B,2,none⟩ _ rfl) (by omega)).c0
    obtain⟨p0,p1,p2,_⟩:=bx_cells (box_set2 b5 (.string x5))
    have XW':XS (w5.setCell ⟨B,2,none⟩ (.string x5)) N S (a5) (e5):=X5.tch (Tch.setCell (fun i=>i=B) w5 ⟨B,2,none⟩ _ rfl) (by omega)
    have TW:Tch (fun i=>i=N∨B≤i) wr (w5.setCell ⟨B,2,none⟩ (.string x5)):=T5.setCellR _ _ (by show B=N∨B≤B;omega)
    go_wp2_with (at_builtin;refine wpList_append_own _ rfl _ _ 24 rfl (N+1) 58 i0 (.agg #[.int .i64 0,.int .i64 0,.string ⟨#[]⟩]) 3 32 Tryz.underlying24 hii hz0 hz1 hz2 rfl (by decide) (.slice ao l.length cp) _ _ rfl (HO.out _ (TW.allocR _)) _ 1 1 (rcl [⟨2,0,x5⟩]) rfl rfl (new_cells _ _ _ (by simp)) (rcl_one _) (by unfold maxLen;omega) (by omega) (by have h9:=hszW;simp only[World.size_setCell] at h9;simp;omega) ?_;intro v' w9 hown' hgr hnil;obtain⟨ao',cp',hv'⟩:=row_slice hown';subst hv';clear hnil)
    have tG:=grown_tch (N:=N+1) hgr HGr.out
    have X9:XS w9 N S (a5) (e5):=((XW').tch (T:=fun _=>False) (Tch.alloc _ _ _) (fun h=>h)).tch tG (by omega)
    have T9:Tch (fun i=>N≤i) w w9:=(hT.trans' (((TW).allocR _).mono (fun i _ h=>by omega))).trans' (tG.mono (fun i _ h=>by omega))
    have hs9:N+1≤w9.heap.size:=cell_lt X9.c0
    refine⟨⟨k+1,_,_,l++[⟨2,0,x5⟩],by go_num,by omega,⟨by simp;omega,by show _=_;rw[List.length_append,HLL.out];rfl⟩,HV,?_,X9,hs9,T9⟩,by simp[intOf];omega⟩
    rw[rcl_snoc,List.length_append];exact hown'
   by_cases m3:m=3
   ·subst m3
    clear m0 m1 m2
    have HV:Hid (D=decGo S (n - (k+1)) (a3) (e3) (l++[⟨3,0,⟨#[]⟩⟩])):=by show _=_;rw[HA.out];exact decGo_step HK.out (by rw[HRd.out];rfl)
    have hszW:N+1≤((w3.setCell ⟨B,0,none⟩ (.int .i64 3)).setCell ⟨B,1,none⟩ (.int .i64 0)).heap.size:=cell_lt ((X3.tch (Tch.setCell (fun i=>i=B) w3 ⟨B,0,none⟩ _ rfl) (by omega)).tch (Tch.setCell (fun i=>i=B) _ ⟨B,1,none⟩ _ rfl) (by omega)).c0
    obtain⟨p0,p1,p2,_⟩:=bx_cells (box_set1 (box_set0 b3 (.int .i64 3)) (.int .i64 0))
    have XW':XS ((w3.setCell ⟨B,0,none⟩ (.int .i64 3)).setCell ⟨B,1,none⟩ (.int .i64 0)) N S (a3) (e3):=(X3.tch (Tch.setCell (fun i=>i=B) w3 ⟨B,0,none⟩ _ rfl) (by omega)).tch (Tch.setCell (fun i=>i=B) _ ⟨B,1,none⟩ _ rfl) (by omega)
    have TW:Tch (fun i=>i=N∨B≤i) wr ((w3.setCell ⟨B,0,none⟩ (.int .i64 3)).setCell ⟨B,1,none⟩ (.int .i64 0)):=(T3.setCellR _ _ (by show B=N∨B≤B;omega)).setCellR _ _ (by show B=N∨B≤B;omega)
    go_wp2_with (at_builtin;refine wpList_append_own _ rfl _ _ 24 rfl (N+1) 58 i0 (.agg #[.int .i64 0,.int .i64 0,.string ⟨#[]⟩]) 3 32 Tryz.underlying24 hii hz0 hz1 hz2 rfl (by decide) (.slice ao l.length cp) _ _ rfl (HO.out _ (TW.allocR _)) _ 1 1 (rcl [⟨3,0,⟨#[]⟩⟩]) rfl rfl (new_cells _ _ _ (by simp)) (rcl_one _) (by unfold maxLen;omega) (by omega) (by have h9:=hszW;simp only[World.size_setCell] at h9;simp;omega) ?_;intro v' w9 hown' hgr hnil;obtain⟨ao',cp',hv'⟩:=row_slice hown';subst hv';clear hnil)
    have tG:=grown_tch (N:=N+1) hgr HGr.out
    have X9:XS w9 N S (a3) (e3):=((XW').tch (T:=fun _=>False) (Tch.alloc _ _ _) (fun h=>h)).tch tG (by omega)
    have T9:Tch (fun i=>N≤i) w w9:=(hT.trans' (((TW).allocR _).mono (fun i _ h=>by omega))).trans' (tG.mono (fun i _ h=>by omega))
    have hs9:N+1≤w9.heap.size:=cell_lt X9.c0
    refine⟨⟨k+1,_,_,l++[⟨3,0,⟨#[]⟩⟩],by go_num,by omega,⟨by simp;omega,by show _=_;rw[List.length_append,HLL.out];rfl⟩,HV,?_,X9,hs9,T9⟩,by simp[intOf];omega⟩
    rw[rcl_snoc,List.length_append];exact hown'
   by_cases m4:m=4
   ·subst m4
    clear m0 m1 m2 m3
    have HV:Hid (D=decGo S (n - (k+1)) (a3) (e3) (l++[⟨3,1,⟨#[]⟩⟩])):=by show _=_;rw[HA.out];exact decGo_step HK.out (by rw[HRd.out];rfl)
    have hszW:N+1≤((w3.setCell ⟨B,0,none⟩ (.int .i64 3)).setCell ⟨B,1,none⟩ (.int .i64 1)).heap.size:=cell_lt ((X3.tch (Tch.setCell (fun i=>i=B) w3 ⟨B,0,none⟩ _ rfl) (by omega)).tch (Tch.setCell (fun i=>i=B) _ ⟨B,1,none⟩ _ rfl) (by omega)).c0
    obtain⟨p0,p1,p2,_⟩:=bx_cells (box_set1 (box_set0 b3 (.int .i64 3)) (.int .i64 1))
    have XW':XS ((w3.setCell ⟨B,0,none⟩ (.int .i64 3)).setCell ⟨B,1,none⟩ (.int .i64 1)) N S (a3) (e3):=(X3.tch (Tch.setCell (fun i=>i=B) w3 ⟨B,0,none⟩ _ rfl) (by omega)).tch (Tch.setCell (fun i=>i=B) _ ⟨B,1,none⟩ _ rfl) (by omega)
    have TW:Tch (fun i=>i=N∨B≤i) wr ((w3.setCell ⟨B,0,none⟩ (.int .i64 3)).setCell ⟨B,1,none⟩ (.int .i64 1)):=(T3.setCellR _ _ (by show B=N∨B≤B;omega)).setCellR _ _ (by show B=N∨B≤B;omega)
    go_wp2_with (at_builtin;refine wpList_append_own _ rfl _ _ 24 rfl (N+1) 58 i0 (.agg #[.int .i64 0,.int .i64 0,.string ⟨#[]⟩]) 3 32 Tryz.underlying24 hii hz0 hz1 hz2 rfl (by decide) (.slice ao l.length cp) _ _ rfl (HO.out _ (TW.allocR _)) _ 1 1 (rcl [⟨3,1,⟨#[]⟩⟩]) rfl rfl (new_cells _ _ _ (by simp)) (rcl_one _) (by unfold maxLen;omega) (by omega) (by have h9:=hszW;simp only[World.size_setCell] at h9;simp;omega) ?_;intro v' w9 hown' hgr hnil;obtain⟨ao',cp',hv'⟩:=row_slice hown';subst hv';clear hnil)
    have tG:=grown_tch (N:=N+1) hgr HGr.out
    have X9:XS w9 N S (a3) (e3):=((XW').tch (T:=fun _=>False) (Tch.alloc _ _ _) (fun h=>h)).tch tG (by omega)
    have T9:Tch (fun i=>N≤i) w w9:=(hT.trans' (((TW).allocR _).mono (fun i _ h=>by omega))).trans' (tG.mono (fun i _ h=>by omega))
    have hs9:N+1≤w9.heap.size:=cell_lt X9.c0
    refine⟨⟨k+1,_,_,l++[⟨3,1,⟨#[]⟩⟩],by go_num,by omega,⟨by simp;omega,by show _=_;rw[List.length_append,HLL.out];rfl⟩,HV,?_,X9,hs9,T9⟩,by simp[intOf];omega⟩
    rw[rcl_snoc,List.length_append];exact hown'
   have n0: ¬(m:Int)=0:=by omega
   have n1: ¬(m:Int)=1:=by omega
   have n2: ¬(m:Int)=2:=by omega
   have n3: ¬(m:Int)=3:=by omega
   have n4: ¬(m:Int)=4:=by omega
   have HV:Hid (D=none):=by show _=_;rw[HA.out];exact decGo_stop HK.out (by rw[HRd.out,if_neg m0,if_neg m1,if_neg m2,if_neg (by omega)])
   have HV2:Hid (decR S=none):=by show _=_;rw[HD.out,HV.out];simp
   have T9:Tch (fun i=>N≤i) w w3:=hT.trans' (T3.mono (fun i _ h=>by omega))
   clear m0 m1 m2 m3 m4 T3 hT
   go_wp2_with fail
   go_ret2
   exact⟨RDecOut.none HV2.out rfl,T9.mono (fun i hi h=>by have:=HN.out;omega)⟩
  ·have HX:Hid (8<n∨k=n):=by show _∨_;omega
   by_cases hk1:(k:Int)<n
   ·have hk2: ¬(k:Int)<9:=by omega
    clear hlt
    go_wp2_with fail
    refine(xdone_any _ S a e _ hX).mono ?_
    rintro x w3 ⟨rfl,t3⟩
    have T3:=hT.trans' (no_mono t3)
    have hO3:=HO.out w3 (no_mono t3)
    clear hT t3 HO hX hown
    obtain⟨q,hq⟩: ∃q,q=doneE e (S.size - a):=⟨_,rfl⟩
    rw[←hq]
    have HQ:Hid (q=doneE e (S.size - a)):=hq
    clear hq
    by_cases hq0:q=0
    ·subst hq0
     by_cases h8:8<n
     ·have h8':(8:Int)<n:=by omega
      have HV2:Hid (decR S=none):=by show _=_;rw[HD.out,if_pos h8]
      clear hO3
      go_wp2_with fail
      go_ret2
      exact⟨RDecOut.none HV2.out rfl,T3.mono (fun i hi h=>by have:=HN.out;omega)⟩
     ·exact absurd h8 (by omega)
    ·have hq1:(q !=0)=true:=by simpa using hq0
     have HV2:Hid (decR S=none):=by
      show _=_
      rw[HD.out]
      by_cases h8:8<n
      ·rw[if_pos h8]
      ·have hkn:k=n:=by have:=HX.out;omega
       rw[if_neg h8,HA.out,hkn,Nat.sub_self]
       show(if _ then _ else _)=_
       rw[if_neg (by rw[←HQ.out];exact hq0)]
     clear hq0 hO3
     go_wp2_with fail
     go_ret2
     exact⟨RDecOut.none HV2.out rfl,T3.mono (fun i hi h=>by have:=HN.out;omega)⟩
   ·clear hlt
    go_wp2_with fail
    refine(xdone_any _ S a e _ hX).mono ?_
    rintro x w3 ⟨rfl,t3⟩
    have T3:=hT.trans' (no_mono t3)
    have hO3:=HO.out w3 (no_mono t3)
    clear hT t3 HO hX hown
    obtain⟨q,hq⟩: ∃q,q=doneE e (S.size - a):=⟨_,rfl⟩
    rw[←hq]
    have HQ:Hid (q=doneE e (S.size - a)):=hq
    clear hq
    by_cases hq0:q=0
    ·subst hq0
     by_cases h8:8<n
     ·have h8':(8:Int)<n:=by omega
      have HV2:Hid (decR S=none):=by show _=_;rw[HD.out,if_pos h8]
      clear hO3
      go_wp2_with fail
      go_ret2
      exact⟨RDecOut.none HV2.out rfl,T3.mono (fun i hi h=>by have:=HN.out;omega)⟩
     ·have h8': ¬(8:Int)<n:=by omega
      have hkn:k=n:=by have:=HX.out;omega
      have HV:Hid (decR S=some l):=by
       show _=_
       rw[HD.out,if_neg h8,HA.out,hkn,Nat.sub_self]
       show(if _ then _ else _)=_
       rw[if_pos HQ.out.symm]
      obtain⟨hen,hl8,hri⟩:=dec_enc HV.out
      obtain⟨g,o,hao,hro⟩: ∃g o,(l≠[]→ao=some ⟨g,o,none⟩)∧RowAt w3 g o l:=by
       by_cases hl0:l=[]
       ·subst hl0;exact⟨0,0,fun h=>absurd rfl h,fun j hj=>by simp at hj⟩
       ·obtain⟨g,h1,_,h3⟩:=row_at hO3 hl0
        exact⟨g,0,fun _=>h1,h3⟩
      have HRo:Hid (∀W,Tch (fun _=>False) w3 W→RowOf W ao l):=fun W t hv=>⟨g,o,hao hv,hro.tch t (fun _ h=>h)⟩
      have hec:=rencode_any l ao g o cp w3 hao hro (fun v hv=>(hri v hv).2) (by omega)
      rw[hen] at hec
      simp only[bs_back] at hec
      clear hO3 hen hri hao hro hkn
      go_wp2_with fail
      refine hec.mono ?_
      rintro x w4 ⟨rfl,t4⟩
      clear hec
      go_wp2_with fail
      go_ret2
      refine⟨?_,(T3.trans' (no_mono t4)).mono (fun i hi h=>by have:=HN.out;omega)⟩
      unfold RDecOut
      rw[HV.out]
      exact⟨ao,cp,rfl,HRo.out _ t4,fun g o e=>by have h1:=HGr.out g (by rw[e];rfl);have:=HN.out;omega⟩
    ·have hq1:(q !=0)=true:=by simpa using hq0
     have HV2:Hid (decR S=none):=by
      show _=_
      rw[HD.out]
      by_cases h8:8<n
      ·rw[if_pos h8]
      ·have hkn:k=n:=by have:=HX.out;omega
       rw[if_neg h8,HA.out,hkn,Nat.sub_self]
       show(if _ then _ else _)=_
       rw[if_neg (by rw[←HQ.out];exact hq0)]
     clear hq0 hO3
     go_wp2_with fail
     go_ret2
     exact⟨RDecOut.none HV2.out rfl,T3.mono (fun i hi h=>by have:=HN.out;omega)⟩
end Go.Proofs.YtaiadknglhemaaaGreatDoor
