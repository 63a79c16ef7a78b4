import Derived.Test.YtaiadknglhemaaaGreatDoorPlain
import Derived.Test.YtaiadknglhemaaaGreatDoorVPure
set_option maxHeartbeats 2000000
set_option maxRecDepth 100000
namespace Go.Proofs.YtaiadknglhemaaaGreatDoor
open Go.RowKit
abbrev vA (k n:Int) (s:ByteArray):Value:= .agg #[.int .i64 k,.int .i64 n,.string s]
theorem emp (s:ByteArray):s.toList.isEmpty=decide (s.size=0):=by
 by_cases h:s.size=0
 ·rw[empty_of_size h];simp[h]
 ·rw[nonempty_of_size (by omega)];simp[h]
theorem emp' (s:ByteArray):s.toList=[] ↔ s.size=0:=by
 rw[←List.isEmpty_iff,emp];simp
theorem vret_bool {a b:Bool} (h:a=b):Ending.returned (.bool a)= .returned (.bool b):=by rw[h]
theorem box_cells (w:World) (a b c:Value) (t:TypeId):(w.alloc (.cells #[a,b,c] t)).cell? ⟨w.heap.size,0,none⟩=some a∧(w.alloc (.cells #[a,b,c] t)).cell? ⟨w.heap.size,1,none⟩=some b∧(w.alloc (.cells #[a,b,c] t)).cell? ⟨w.heap.size,2,none⟩=some c:=by simp
theorem box_tch {w w1:World} {a b c:Value} {t:TypeId} (h:Tch (fun _=>False) (w.alloc (.cells #[a,b,c] t)) w1):w1.cell? ⟨w.heap.size,0,none⟩=some a∧w1.cell? ⟨w.heap.size,1,none⟩=some b∧w1.cell? ⟨w.heap.size,2,none⟩=some c:=by
 obtain⟨h0,h1,h2⟩:=box_cells w a b c t
 exact⟨(h.cell (p:=⟨_,_,none⟩) (by simp) (fun h=>h)).trans h0,(h.cell (p:=⟨_,_,none⟩) (by simp) (fun h=>h)).trans h1,(h.cell (p:=⟨_,_,none⟩) (by simp) (fun h=>h)).trans h2⟩
theorem hasForm_any (k n:Int) (s:ByteArray) (w:World):
  Calls Tryz.prog 72 #[vA k n s] w fun x w'=>x= .returned (.bool (decide (frm ⟨k,n,s⟩)))∧Tch (fun _=>False) w w':=by
 go_enter Tryz.func72,Tryz.ntmps72
 go_wp2
 all_goals (go_ret;refine⟨vret_bool ?_,Tch.alloc _ _ _⟩;rw[Bool.eq_iff_iff,decide_eq_true_iff];unfold frm;simp only[emp] at*;generalize s.size=z at*;simp at*;omega)
theorem form_any (k n:Int) (s:ByteArray) (w:World):
  Calls Tryz.prog 145 #[vA k n s] w fun x w'=>x= .returned (.bool (decide (frm ⟨k,n,s⟩)))∧Tch (fun _=>False) w w':=by
 go_enter Tryz.func145,Tryz.ntmps145
 go_wp2
 all_goals (go_ret;refine⟨vret_bool ?_,Tch.alloc _ _ _⟩;rw[Bool.eq_iff_iff,decide_eq_true_iff];unfold frm;simp only[emp,emp'] at*;generalize s.size=z at*;simp at*;omega)
theorem wrong_any (k n:Int) (s:ByteArray) (w:World):
  Calls Tryz.prog 40 #[vA k n s] w fun x w'=>x= .returned (.int .i64 (wrg ⟨k,n,s⟩))∧Tch (fun _=>False) w w':=by
 go_enter Tryz.func40,Tryz.ntmps40
 go_wp2_with (go_at_call 72;refine(hasForm_any _ _ _ _).mono ?_;rintro x w1 ⟨rfl,t1⟩;obtain⟨c0,c1,c2⟩:=box_tch t1)
 all_goals (go_ret;refine⟨?_,(Tch.alloc _ _ _).trans' t1⟩;congr 2;simp_all [wrg]<;>omega)
theorem rwrong_any (k n:Int) (s:ByteArray) (w:World):
  Calls Tryz.prog 118 #[vA k n s] w fun x w'=>x= .returned (.int .i64 (wrg ⟨k,n,s⟩))∧Tch (fun _=>False) w w':=by
 go_enter Tryz.func118,Tryz.ntmps118
 go_wp2_with (go_at_call 145;refine(form_any _ _ _ _).mono ?_;rintro x w1 ⟨rfl,t1⟩;obtain⟨c0,c1,c2⟩:=box_tch t1)
 all_goals (go_ret;refine⟨?_,(Tch.alloc _ _ _).trans' t1⟩;congr 2;simp_all [wrg]<;>omega)
def encV (v:Val):List UInt8:=if v.k=0 then[0] else if v.k=1 then 1::dg (fol v.n) else if v.k=2 then 2::textL v.s else[UInt8.ofNat (3+v.n).toNat]
theorem heap_new (w:World) (o:Obj):(w.alloc o).heap[w.heap.size]? =some o:=by show(w.heap.push o)[w.heap.size]? =_;simp
theorem wbyte1 (b:Nat) (bs:List UInt8) (n:Int) (z:Nat) (w:World) (h:WS w b bs 0) (hz:w.heap.size=z) (h0:0≤n) (h1:n≤255) (hlen:bs.length+1≤140737488355328):
  Calls Tryz.prog 32 #[.pointer (some ⟨b,0,none⟩),.slice (some ⟨z,0,none⟩) 1 1] (w.alloc (.cells #[.int .i64 n] 3)) fun x w'=>x= .returned (.tuple #[])∧WS w' b (bs++[UInt8.ofNat n.toNat]) 0∧Tch (WT b w) w w':=by
 subst hz
 have hb:=h.lt
 have:=wbyte_any b bs 0 [n] w.heap.size 1 _ (h.tch (Tch.alloc (fun _=>False) w (.cells #[.int .i64 n] 3)) (fun _ _ _ h=>h)) (by simpa using hlen) (by omega) ⟨_,_,heap_new w _⟩ (fun j hj=>by
  obtain rfl:j=0:=by simp at hj;omega
  simp)
 refine this.mono ?_
 rintro x w' ⟨hx,h2,h3⟩
 have e:upd bs 0 (bytesL [n]) (bytesC [n])=(bs++[UInt8.ofNat n.toNat],0):=by simp[upd,bytesL,bytesC,byteOk,h0,h1]
 rw[e] at h2
 exact⟨hx,h2,wt_alloc h3⟩
theorem wt_new {b:Nat} {w w0 w1:World} (t:Tch (fun _=>False) w w0) (h:Tch (WT b w0) w0 w1):Tch (WT b w) w w1:=by
 refine(t.mono (fun _ _ h=>h.elim)).trans h (fun i hi ht=>?_)
 rcases ht with ht|⟨ht,cur,fr,hh⟩
 ·exact Or.inl ht
 ·rw[t.block i hi (fun h=>h)] at hh
  exact Or.inr ⟨ht,cur,fr,hh⟩
theorem box_wt {b:Nat} {w w1:World} {a c d:Value} (hb:b<w.heap.size) (t:Tch (WT b (w.alloc (.cells #[a,c,d] 58))) (w.alloc (.cells #[a,c,d] 58)) w1):w1.cell? ⟨w.heap.size,0,none⟩=some a∧w1.cell? ⟨w.heap.size,1,none⟩=some c∧w1.cell? ⟨w.heap.size,2,none⟩=some d:=by
 have hn: ¬WT b (w.alloc (.cells #[a,c,d] 58)) w.heap.size:=by
  rintro(h|⟨_,cur,fr,h⟩)
  ·omega
  ·rw[heap_new] at h;simp at h
 obtain⟨h0,h1,h2⟩:=box_cells w a c d 58
 exact⟨(t.cell (p:=⟨_,_,none⟩) (by simp) hn).trans h0,(t.cell (p:=⟨_,_,none⟩) (by simp) hn).trans h1,(t.cell (p:=⟨_,_,none⟩) (by simp) hn).trans h2⟩
theorem write_any (b:Nat) (bs:List UInt8) (k n:Int) (s:ByteArray) (w:World) (h:WS w b bs 0) (hf:frm ⟨k,n,s⟩) (hs:s.size≤200) (h1: -9223372036854775808≤n) (h2:n≤9223372036854775807) (hlen:bs.length+300≤140737488355328):
  Calls Tryz.prog 41 #[.pointer (some ⟨b,0,none⟩),vA k n s] w fun x w'=>x= .returned (.tuple #[])∧WS w' b (bs++encV ⟨k,n,s⟩) 0∧Tch (WT b w) w w':=by
 have hb:=h.lt
 have T0:Tch (fun _=>False) w (w.alloc (.cells #[.int .i64 k,.int .i64 n,.string s] 58)):=Tch.alloc _ _ _
 have h0:=h.tch T0 (fun _ _ _ h=>h)
 have hz:(w.alloc (.cells #[.int .i64 k,.int .i64 n,.string s] 58)).heap.size=w.heap.size+1:=by simp
 unfold frm at hf
 simp only at hf
 rcases hf with⟨rfl,rfl, -⟩|⟨rfl, -⟩|⟨rfl,rfl⟩|⟨rfl, -,hn⟩
 ·go_enter Tryz.func41,Tryz.ntmps41
  go_wp2_with fail
  refine(wbyte1 b bs 0 (w.heap.size+1) _ h0 hz (by omega) (by omega) (by omega)).mono ?_
  rintro x w1 ⟨rfl,g1,t1⟩
  go_wp2_with fail
  go_end0
  exact⟨rfl,g1,wt_new T0 t1⟩
 ·go_enter Tryz.func41,Tryz.ntmps41
  go_wp2_with fail
  refine(wbyte1 b bs 1 (w.heap.size+1) _ h0 hz (by omega) (by omega) (by omega)).mono ?_
  rintro x w1 ⟨rfl,g1,t1⟩
  obtain⟨c0,c1,c2⟩:=box_wt hb t1
  go_wp2_with fail
  refine(wint_any b _ 0 n _ g1 h1 h2 (by simp;omega)).mono ?_
  rintro x w2 ⟨rfl,g2,t2⟩
  go_wp2_with fail
  go_end0
  refine⟨rfl,?_,wt_new T0 (wt_trans t1 t2)⟩
  simpa[laidOn,encV] using g2
 ·go_enter Tryz.func41,Tryz.ntmps41
  go_wp2_with fail
  refine(wbyte1 b bs 2 (w.heap.size+1) _ h0 hz (by omega) (by omega) (by omega)).mono ?_
  rintro x w1 ⟨rfl,g1,t1⟩
  obtain⟨c0,c1,c2⟩:=box_wt hb t1
  go_wp2_with fail
  refine(wtext_any b _ 0 s 200 _ g1 (by simp;omega)).mono ?_
  rintro x w2 ⟨rfl,g2,t2⟩
  have e:textC s 200=0:=by unfold textC;rw[if_neg (by omega),if_neg (by omega)]
  go_wp2_with fail
  go_end0
  refine⟨rfl,?_,wt_new T0 (wt_trans t1 t2)⟩
  rw[e] at g2
  simpa[upd,encV] using g2
 ·have hn3:0≤3+n∧3+n≤255:=by omega
  go_enter Tryz.func41,Tryz.ntmps41
  go_wp2_with fail
  refine(wbyte1 b bs (3+n) (w.heap.size+1) _ h0 hz (by omega) (by omega) (by omega)).mono ?_
  rintro x w1 ⟨rfl,g1,t1⟩
  go_wp2_with fail
  go_end0
  exact⟨rfl,g1,wt_new T0 t1⟩
def encGo:List Val→List UInt8→List UInt8×Int
 |[],bs=>(bs,0)
 |v::r,bs=>if wrg v=0 then encGo r (bs++encV v) else([],wrg v)
def encR (vs:List Val):List UInt8×Int:=if 8<vs.length then([],44) else encGo vs [UInt8.ofNat vs.length]
def RowAt (w:World) (g o:Nat) (vs:List Val):Prop:= ∀j (hj:j<vs.length),w.cell? ⟨g,o+j*3,none⟩=some (.int .i64 vs[j].k)∧w.cell? ⟨g,o+j*3+1,none⟩=some (.int .i64 vs[j].n)∧w.cell? ⟨g,o+j*3+2,none⟩=some (.string vs[j].s)
theorem RowAt.tch {S:Nat→Prop} {w w':World} {g o:Nat} {vs:List Val} (h:RowAt w g o vs) (t:Tch S w w') (hg:vs≠[]→ ¬S g):RowAt w' g o vs:=by
 intro j hj
 have hS:=hg (by intro e;subst e;simp at hj)
 obtain⟨h0,h1,h2⟩:=h j hj
 have hl:g<w.heap.size:=cell_lt h0
 exact⟨(t.cell (p:=⟨g,_,none⟩) hl hS).trans h0,(t.cell (p:=⟨g,_,none⟩) hl hS).trans h1,(t.cell (p:=⟨g,_,none⟩) hl hS).trans h2⟩
theorem RowAt.lt {w:World} {g o:Nat} {vs:List Val} (h:RowAt w g o vs) (hv:vs≠[]):g<w.heap.size:=by
 rcases vs with _|⟨v,r⟩
 ·exact absurd rfl hv
 ·exact cell_lt (h 0 (by simp)).1
theorem ge_mono {B b:Nat} {w w':World} (t:Tch (WT b w) w w') (h:B≤b):Tch (fun i=>B≤i) w w':=(wt_le t).mono (fun i _ hi=>by omega)
theorem eq_mono {B b:Nat} {w w':World} (t:Tch (fun i=>i=b) w w') (h:B≤b):Tch (fun i=>B≤i) w w':=t.mono (fun i _ hi=>by omega)
theorem no_mono {S:Nat→Prop} {w w':World} (t:Tch (fun _=>False) w w'):Tch S w w':=t.mono (fun _ _ h=>h.elim)
theorem ge_new {w w':World} (t:Tch (fun i=>w.heap.size≤i) w w'):Tch (fun _=>False) w w':=t.mono (fun i hi h=>by omega)
theorem fol_dg_len (n:Nat):(dg n).length≤10:=dgf_len 10 n
theorem encV_len {v:Val} (hs:v.s.size≤200):(encV v).length≤211:=by
 unfold encV
 split
 ·simp
 ·split
  ·have:=fol_dg_len (fol v.n);simp;omega
  ·split
   ·have:=fol_dg_len v.s.size
    have h2:v.s.data.toList.length=v.s.size:=by simp
    simp only[textL,List.length_cons,List.length_append,h2];omega
   ·simp
theorem wrg_zero {v:Val} (h:wrg v=0):frm v∧v.s.size≤200:=by
 unfold wrg at h
 by_cases h1:frm v
 ·rw[if_pos h1] at h
  by_cases h2:v.s.size≤200
  ·exact⟨h1,h2⟩
  ·rw[if_neg h2] at h;simp at h
 ·rw[if_neg h1] at h;simp at h
theorem encode_any (vs:List Val) (ao:Option Addr) (g o c:Nat) (w:World) (hg:HE w) (hao:vs≠[]→ao=some ⟨g,o,none⟩) (hrow:RowAt w g o vs) (hi: ∀v∈vs,v.i64) (hlen:vs.length≤9223372036854775807):
  Calls Tryz.prog 16 #[.slice ao vs.length c] w fun x w'=>x= .returned (.tuple #[.string ⟨(encR vs).1.toArray⟩,.int .i64 (encR vs).2])∧Tch (fun _=>False) w w':=by
 by_cases h8:8<vs.length
 ·have h8':(8:Int)<vs.length:=by omega
  have e:encR vs=([],44):=by unfold encR;rw[if_pos h8]
  rw[e]
  clear hao hrow hi e
  go_enter Tryz.func16,Tryz.ntmps16
  go_wp2
  go_ret2
  exact⟨rfl,Tch.refl _ _⟩
 ·have h8': ¬(8:Int)<vs.length:=by omega
  have HR:Hid (encR vs=encGo vs [UInt8.ofNat vs.length]):=by show _=_;unfold encR;rw[if_neg h8]
  have hel:1<w.heap.size:=cell_lt hg
  have HG:Hid (∀W,Tch (fun i=>w.heap.size≤i) w W→HE W∧RowAt W g o vs):=fun W t=>⟨hg.tch t (by omega),hrow.tch t (fun hv=>by have:=hrow.lt hv;omega)⟩
  have HI:Hid (∀v∈vs,v.i64):=hi
  have HAO:Hid (vs≠[]→ao=some ⟨g,o,none⟩):=hao
  clear hg hrow hi hao hel
  go_enter Tryz.func16,Tryz.ntmps16
  go_wp2_with (go_at_call 31;refine(newWriter_any _).mono ?_;rintro x w1 ⟨rfl,h1,t1,z1⟩;have T1:=no_mono (S:=fun i=>w.heap.size≤i) t1)
  refine(wbyte1 _ [] vs.length _ _ h1 z1 (by omega) (by omega) (by simp)).mono ?_
  rintro x w2 ⟨rfl,h2,t2⟩
  have T2:=T1.trans' (ge_mono t2 (Nat.le_refl _))
  clear T1 t1 t2 h1 z1
  simp only[List.nil_append,Int.toNat_natCast] at h2
  go_wp2_with fail
  go_loopw [19] (fun i wr=> ∃(k:Nat) (bs:List UInt8),i= .int .i64 k∧k≤vs.length∧Hid (encR vs=encGo (vs.drop k) bs)∧bs.length≤1+211*k∧WS wr w.heap.size bs 0∧Tch (fun i=>w.heap.size≤i) w wr) (fun i _=>vs.length - (intOf i).toNat)
  case atStart=>exact⟨0,_,rfl,Nat.zero_le _,by show _=_;rw[HR.out];rfl,by simp,h2,T2⟩
  case round=>
   obtain⟨k,bs,rfl,hk,HA,hbl,hW,hT⟩:=hrel
   have hlt:=hW.lt
   clear h2 T2
   by_cases hkl:k<vs.length
   ·have hkl':(k:Int)<vs.length:=by omega
    obtain rfl:=HAO.out (by intro e;rw[e] at hkl;simp at hkl)
    obtain⟨hcE,hcR⟩:=HG.out wr hT
    obtain⟨c0,c1,c2⟩:=hcR k hkl
    obtain⟨v,hv⟩: ∃v,v=vs[k]:=⟨_,rfl⟩
    rw[←hv] at c0 c1 c2
    have HV:Hid (encGo (vs.drop k) bs=if wrg v=0 then encGo (vs.drop (k+1)) (bs++encV v) else([],wrg v)):=by
     show _=_
     rw[List.drop_eq_getElem_cons hkl, ←hv];rfl
    have hvi:=HI.out v (by rw[hv];exact List.getElem_mem hkl)
    obtain⟨vk,vn,vs'⟩:=v
    simp only at c0 c1 c2
    unfold Val.i64 at hvi
    simp only at hvi
    clear hv hcR
    obtain⟨⟨-, -⟩,hv1,hv2⟩:=hvi
    go_wp2_with fail
    refine(wrong_any vk vn vs' _).mono ?_
    rintro x w3 ⟨rfl,t3⟩
    obtain⟨d0,d1,d2⟩:=box_tch t3
    have T3:Tch (fun _=>False) wr w3:=(Tch.alloc _ _ _).trans' t3
    clear c0 c1 c2 hcE
    by_cases hw:wrg ⟨vk,vn,vs'⟩=0
    ·obtain⟨hf,hs⟩:=wrg_zero hw
     rw[hw]
     go_wp2_with fail
     refine(write_any _ bs vk vn vs' _ (hW.tch T3 (fun _ _ _ h=>h)) hf hs hv1 hv2 (by omega)).mono ?_
     rintro x w4 ⟨rfl,h4,t4⟩
     have hel:=encV_len (v:=⟨vk,vn,vs'⟩) hs
     have HA4:Hid (encR vs=encGo (vs.drop (k+1)) (bs++encV ⟨vk,vn,vs'⟩)):=by
      show _=_
      rw[HA.out,HV.out,if_pos hw]
     have T4:=(hT.trans' (no_mono T3)).trans' (ge_mono t4 (Nat.le_refl _))
     clear hT T3 t4 hW hf
     go_wp2_with fail
     go_roundw
     case rel=>exact⟨k+1,_,by go_num,by omega,HA4,by rw[List.length_append];omega,h4,T4⟩
     case measure=>simp[intOf];omega
    ·have HE2:Hid (encR vs=([],wrg ⟨vk,vn,vs'⟩)):=by
      show _=_
      rw[HA.out,HV.out,if_neg hw]
     have T4:=ge_new (hT.trans' (no_mono T3))
     clear hT T3 HV HA
     have hw':(wrg ⟨vk,vn,vs'⟩ !=0)=true:=by simpa using hw
     obtain⟨e,he⟩: ∃e,e=wrg ⟨vk,vn,vs'⟩:=⟨_,rfl⟩
     rw[←he] at hw' HE2 ⊢
     clear he hw
     go_wp2_with fail
     go_ret2
     rw[HE2.out]
     exact⟨rfl,T4⟩
   ·have hkl': ¬(k:Int)<vs.length:=by omega
    have HE2:Hid (encR vs=(bs,0)):=by
     show _=_
     rw[HA.out,List.drop_eq_nil_of_le (by omega)];rfl
    have hcE:=(HG.out wr hT).1
    go_wp2_with fail
    refine(wdone_any _ bs 0 _ hW hcE).mono ?_
    rintro x w3 ⟨rfl,t3⟩
    have T4:=ge_new (hT.trans' (no_mono t3))
    go_wp2_with fail
    go_ret2
    rw[HE2.out]
    exact⟨rfl,T4⟩
def rdV (S:ByteArray) (a:Nat) (e:Int):(Val×Bool)×Nat×Int:=
 if (byteR S a e).1=0 then((⟨0,0,⟨#[]⟩⟩,true),(byteR S a e).2)
 else if (byteR S a e).1=1 then((⟨1,unf (numR 10 1 S (byteR S a e).2.1 (byteR S a e).2.2).1,⟨#[]⟩⟩,true),(numR 10 1 S (byteR S a e).2.1 (byteR S a e).2.2).2)
 else if (byteR S a e).1=2 then((⟨2,0,(textR 200 S (byteR S a e).2.1 (byteR S a e).2.2).1⟩,true),(textR 200 S (byteR S a e).2.1 (byteR S a e).2.2).2)
 else if (byteR S a e).1=3∨(byteR S a e).1=4 then((⟨3,(byteR S a e).1 - 3,⟨#[]⟩⟩,true),(byteR S a e).2)
 else((⟨0,0,⟨#[]⟩⟩,false),(byteR S a e).2)
theorem byteR_lt (S:ByteArray) (a:Nat) (e:Int):(byteR S a e).1≤255:=by
 unfold byteR
 split
 ·simp
 ·split
  ·have:=(S.data.toList.getD a 0).toNat_lt
   show(S.data.toList.getD a 0).toNat≤255
   omega
  ·simp
theorem read_res (tmps:Array Value) (W:World) (p:Nat) (k n:Int) (s:ByteArray) (b:Bool) (c0:W.cell? ⟨p,0,none⟩=some (.int .i64 k)) (c1:W.cell? ⟨p,1,none⟩=some (.int .i64 n)) (c2:W.cell? ⟨p,2,none⟩=some (.string s)) (h2:tmps[2]?.getD undef= .pointer (some ⟨p,0,none⟩)) (h3:tmps[3]?.getD undef= .bool b):
  (results Tryz.f203 tmps).run Tryz.prog W= .ok (.tuple #[vA k n s,.bool b]) W:=by
 have hrs:Tryz.f203.results=#[.cell 2 58,.tmp 3]:=by kernel_rfl
 simp only[results,hrs]
 go_simp
theorem box_set (W:World) (p:Nat) (x0 x1 x2 y0 y1 y2:Value) (c0:W.cell? ⟨p,0,none⟩=some x0) (c1:W.cell? ⟨p,1,none⟩=some x1) (c2:W.cell? ⟨p,2,none⟩=some x2):
  let W':=((W.setCell ⟨p,0,none⟩ y0).setCell ⟨p,1,none⟩ y1).setCell ⟨p,2,none⟩ y2
  W'.cell? ⟨p,0,none⟩=some y0∧W'.cell? ⟨p,1,none⟩=some y1∧W'.cell? ⟨p,2,none⟩=some y2:=by
 intro W'
 refine⟨?_,?_,?_⟩
 ·show(((W.setCell ⟨p,0,none⟩ y0).setCell ⟨p,1,none⟩ y1).setCell ⟨p,2,none⟩ y2).cell? ⟨p,0,none⟩=_
  rw[World.cell?_setCell_other (h:=by simp),World.cell?_setCell_other (h:=by simp),World.cell?_setCell_same (h:=c0)]
 ·show(((W.setCell ⟨p,0,none⟩ y0).setCell ⟨p,1,none⟩ y1).setCell ⟨p,2,none⟩ y2).cell? ⟨p,1,none⟩=_
  have d1:(W.setCell ⟨p,0,none⟩ y0).cell? ⟨p,1,none⟩=some x1:=by rw[World.cell?_setCell_other (h:=by simp)];exact c1
  rw[World.cell?_setCell_other (h:=by simp),World.cell?_setCell_same (h:=d1)]
 ·have d2:((W.setCell ⟨p,0,none⟩ y0).setCell ⟨p,1,none⟩ y1).cell? ⟨p,2,none⟩=some x2:=by rw[World.cell?_setCell_other (h:=by simp),World.cell?_setCell_other (h:=by simp)];exact c2
  exact World.cell?_setCell_same _ _ _ d2
theorem box_set_tch (W:World) (p:Nat) (y0 y1 y2:Value):Tch (fun i=>i=p) W (((W.setCell ⟨p,0,none⟩ y0).setCell ⟨p,1,none⟩ y1).setCell ⟨p,2,none⟩ y2):=
 ((Tch.setCell (fun i=>i=p) W ⟨p,0,none⟩ y0 rfl).setCellR ⟨p,1,none⟩ y1 rfl).setCellR ⟨p,2,none⟩ y2 rfl
theorem read_any (b:Nat) (S:ByteArray) (a:Nat) (e:Int) (w:World) (h:RD w b S a e) (hS:S.size≤281474976710656):
  Calls Tryz.prog 203 #[.pointer (some ⟨b,0,none⟩)] w fun x w'=>x= .returned (.tuple #[vA (rdV S a e).1.1.k (rdV S a e).1.1.n (rdV S a e).1.1.s,.bool (rdV S a e).1.2])∧RD w' b S (rdV S a e).2.1 (rdV S a e).2.2∧Tch (fun i=>i=b) w w':=by
 have hb:b<w.heap.size:=cell_lt h.st.c0
 have T0:Tch (fun i=>i=b) w (w.alloc (.cells #[.int .i64 0,.int .i64 0,.string ⟨#[]⟩] 58)):=Tch.alloc _ _ _
 have h0:=h.tch (Tch.alloc (fun _=>False) w (.cells #[.int .i64 0,.int .i64 0,.string ⟨#[]⟩] 58)) (fun h=>h)
 have HBx:Hid (∀W,Tch (fun i=>i=b) (w.alloc (.cells #[.int .i64 0,.int .i64 0,.string ⟨#[]⟩] 58)) W→(W.cell? ⟨w.heap.size,0,none⟩=some (.int .i64 0)∧W.cell? ⟨w.heap.size,1,none⟩=some (.int .i64 0)∧W.cell? ⟨w.heap.size,2,none⟩=some (.string ⟨#[]⟩))∧(∀j,W.frozen? ⟨w.heap.size,j,none⟩=false)):=fun W t=>by
  have hn: ¬(w.heap.size=b):=by omega
  obtain⟨g0,g1,g2⟩:=box_cells w (.int .i64 0) (.int .i64 0) (.string ⟨#[]⟩) 58
  exact⟨⟨(t.cell (p:=⟨_,_,none⟩) (by simp) hn).trans g0,(t.cell (p:=⟨_,_,none⟩) (by simp) hn).trans g1,(t.cell (p:=⟨_,_,none⟩) (by simp) hn).trans g2⟩,fun j=>(t.frozen (p:=⟨_,_,none⟩) (by simp) hn).trans (by simp)⟩
 have HFin:Hid (∀W a' e',Tch (fun i=>i=b) (w.alloc (.cells #[.int .i64 0,.int .i64 0,.string ⟨#[]⟩] 58)) W→RD W b S a' e'→ ∀(k n:Int) (s:ByteArray) (ok:Bool) (tmps:Array Value),tmps[2]?.getD undef= .pointer (some ⟨w.heap.size,0,none⟩)→tmps[3]?.getD undef= .bool ok→
   (results Tryz.f203 tmps).run Tryz.prog (((W.setCell ⟨w.heap.size,0,none⟩ (.int .i64 k)).setCell ⟨w.heap.size,1,none⟩ (.int .i64 n)).setCell ⟨w.heap.size,2,none⟩ (.string s))= .ok (.tuple #[vA k n s,.bool ok]) (((W.setCell ⟨w.heap.size,0,none⟩ (.int .i64 k)).setCell ⟨w.heap.size,1,none⟩ (.int .i64 n)).setCell ⟨w.heap.size,2,none⟩ (.string s))∧RD (((W.setCell ⟨w.heap.size,0,none⟩ (.int .i64 k)).setCell ⟨w.heap.size,1,none⟩ (.int .i64 n)).setCell ⟨w.heap.size,2,none⟩ (.string s)) b S a' e'∧Tch (fun i=>i=b) w (((W.setCell ⟨w.heap.size,0,none⟩ (.int .i64 k)).setCell ⟨w.heap.size,1,none⟩ (.int .i64 n)).setCell ⟨w.heap.size,2,none⟩ (.string s))):=fun W a' e' t hr k n s ok tmps h2 h3=>by
  obtain⟨⟨c0,c1,c2⟩,_⟩:=HBx.out _ t
  obtain⟨d0,d1,d2⟩:=box_set W w.heap.size _ _ _ (.int .i64 k) (.int .i64 n) (.string s) c0 c1 c2
  refine⟨read_res tmps _ w.heap.size k n s ok d0 d1 d2 h2 h3,hr.tch (box_set_tch W _ _ _ _) (by omega),?_⟩
  exact((T0.trans' t).trans (box_set_tch W w.heap.size _ _ _) (fun i hi he=>by omega))
 obtain⟨r,hr⟩: ∃r,r=rdV S a e:=⟨_,rfl⟩
 rw[←hr]
 have hm:=byteR_lt S a e
 go_enter Tryz.func203,Tryz.ntmps203
 go_wp2_with fail
 refine(rbyte_any b S a e _ h0 hS).mono ?_
 rintro x w1 ⟨rfl,h1,t1⟩
 obtain⟨⟨c0,c1,c2⟩,f0⟩:=HBx.out _ t1
 unfold rdV at hr
 obtain⟨m,a1,e1,hE⟩: ∃m a1 e1,byteR S a e=(m,a1,e1):=⟨_,_,_,rfl⟩
 rw[hE] at h1 hr hm ⊢
 simp only at h1 hr hm
 clear hE h0
 have f1:=f0 0;have f2:=f0 1;have f3:=f0 2
 clear h f0
 by_cases m0:m=0
 ·subst m0
  simp only[if_true] at hr
  subst hr
  go_wp2_with fail
  have HF:=HFin.out w1 a1 e1 t1 h1 0 0 ⟨#[]⟩ true
  refine bodyPost_ret (HF _ rfl rfl).1 rfl ⟨rfl,(HF #[undef,undef,.pointer (some ⟨w.heap.size,0,none⟩),.bool true] rfl rfl).2⟩
 ·rw[if_neg m0] at hr
  have m0': ¬((m:Nat):Int)=0:=by omega
  by_cases m1:m=1
  ·subst m1
   simp only[if_true] at hr
   go_wp2_with fail
   refine(rint_any b S a1 e1 _ h1 hS).mono ?_
   rintro x w2 ⟨rfl,h2,t2⟩
   have t3:=t1.trans' t2
   clear c0 c1 c2 f1 f2 f3
   obtain⟨⟨c0,c1,c2⟩,f0⟩:=HBx.out _ t3
   have f1:=f0 0;have f2:=f0 1;have f3:=f0 2
   clear f0
   obtain⟨u,a2,e2,hE⟩: ∃u a2 e2,numR 10 1 S a1 e1=(u,a2,e2):=⟨_,_,_,rfl⟩
   rw[hE] at h2 hr ⊢
   simp only at h2 hr
   obtain⟨y,hy⟩: ∃y,y=unf u:=⟨_,rfl⟩
   rw[←hy] at hr ⊢
   clear hE hy t1 t2 h1
   subst hr
   have HF:=HFin.out w2 a2 e2 t3 h2 1 y ⟨#[]⟩ true
   clear h2 t3
   go_wp2_with fail
   refine bodyPost_ret (HF _ rfl rfl).1 rfl ⟨rfl,(HF #[undef,undef,.pointer (some ⟨w.heap.size,0,none⟩),.bool true] rfl rfl).2⟩
  ·rw[if_neg m1] at hr
   have m1': ¬((m:Nat):Int)=1:=by omega
   by_cases m2:m=2
   ·subst m2
    simp only[if_true] at hr
    go_wp2_with fail
    refine(rtext_any b S a1 e1 200 _ h1 hS).mono ?_
    rintro x w2 ⟨rfl,h2,t2⟩
    have t3:=t1.trans' t2
    clear c0 c1 c2 f1 f2 f3
    obtain⟨⟨c0,c1,c2⟩,f0⟩:=HBx.out _ t3
    have f1:=f0 0;have f2:=f0 1;have f3:=f0 2
    clear f0
    obtain⟨u,a2,e2,hE⟩: ∃u a2 e2,textR 200 S a1 e1=(u,a2,e2):=⟨_,_,_,rfl⟩
    rw[hE] at h2 hr ⊢
    simp only at h2 hr
    clear hE t1 t2 h1
    subst hr
    have HF:=HFin.out w2 a2 e2 t3 h2 2 0 u true
    clear h2 t3
    go_wp2_with fail
    refine bodyPost_ret (HF _ rfl rfl).1 rfl ⟨rfl,(HF #[undef,undef,.pointer (some ⟨w.heap.size,0,none⟩),.bool true] rfl rfl).2⟩
   ·rw[if_neg m2] at hr
    have m2': ¬((m:Nat):Int)=2:=by omega
    by_cases m3:m=3∨m=4
    ·rw[if_pos m3] at hr
     subst hr
     have HF:=HFin.out w1 a1 e1 t1 h1 3 ((m:Int) - 3) ⟨#[]⟩ true
     rcases m3 with rfl|rfl
     ·go_wp2_with fail
      refine bodyPost_ret (HF _ rfl rfl).1 rfl ⟨rfl,(HF #[undef,undef,.pointer (some ⟨w.heap.size,0,none⟩),.bool true] rfl rfl).2⟩
     ·go_wp2_with fail
      refine bodyPost_ret (HF _ rfl rfl).1 rfl ⟨rfl,(HF #[undef,undef,.pointer (some ⟨w.heap.size,0,none⟩),.bool true] rfl rfl).2⟩
    ·rw[if_neg m3] at hr
     have m3': ¬((m:Nat):Int)=3:=by omega
     have m4': ¬((m:Nat):Int)=4:=by omega
     subst hr
     have HF:=HFin.out w1 a1 e1 t1 h1 0 0 ⟨#[]⟩ false
     clear m0 m1 m2 m3
     go_wp2_with fail
     refine bodyPost_ret (HF _ rfl rfl).1 rfl ⟨rfl,(HF #[undef,undef,.pointer (some ⟨w.heap.size,0,none⟩),.bool false] rfl rfl).2⟩
def decGo (S:ByteArray):Nat→Nat→Int→List Val→Option (List Val)
 |0,a,e,l=>if doneE e (S.size - a)=0 then some l else none
 |n+1,a,e,l=>if (rdV S a e).1.2=true then decGo S n (rdV S a e).2.1 (rdV S a e).2.2 (l++[(rdV S a e).1.1]) else none
def decR (S:ByteArray):Option (List Val):=if 8<(byteR S 0 0).1 then none else decGo S (byteR S 0 0).1 (byteR S 0 0).2.1 (byteR S 0 0).2.2 []
def RowNew (w:World) (R:Nat) (vs:List Val):Prop:=RowAt w R 0 vs∧ ∃cur,w.heap[R]? =some (.cells cur 58 (0,0))∧cur.size=vs.length*3
def DecOut (S:ByteArray) (w:World) (x:Ending) (w':World):Prop:=match decR S with
 |none=>x= .returned (.tuple #[.slice none 0 0,.int .i64 43])
 |some vs=> ∃R,w.heap.size≤R∧x= .returned (.tuple #[.slice (some ⟨R,0,none⟩) vs.length vs.length,.int .i64 0])∧RowNew w' R vs
theorem blk_lt {w:World} {b:Nat} {o:Obj} (h:w.heap[b]? =some o):b<w.heap.size:=(Array.getElem?_eq_some_iff.1 h).1
theorem blk_cell {w:World} {b:Nat} {cs:Array Value} {t:TypeId} {fr:Nat×Nat} (h:w.heap[b]? =some (.cells cs t fr)) (i:Nat):w.cell? ⟨b,i,none⟩=cs[i]? :=by
 simp[World.cell?,h]
theorem blk_frozen {w:World} {b:Nat} {cs:Array Value} {t:TypeId} (h:w.heap[b]? =some (.cells cs t (0,0))) (i:Nat):w.frozen? ⟨b,i,none⟩=false:=by
 simp[World.frozen?,h]
theorem blk_set {w:World} {b i:Nat} {cs:Array Value} {t:TypeId} {fr:Nat×Nat} (h:w.heap[b]? =some (.cells cs t fr)) (v:Value):(w.setCell ⟨b,i,none⟩ v).heap[b]? =some (.cells (cs.setIfInBounds i v) t fr):=by
 have hl:=blk_lt h
 simp only[World.setCell]
 rw[Array.getElem?_modify]
 simp[h]
theorem info_val:(Tryz.prog.info? 58).map (fun i=>(i.zero,i.size,i.bytes))=some (some (.agg #[.int .i64 0,.int .i64 0,.string ⟨#[]⟩]),3,32):=by kernel_rfl
theorem make_row (n:Nat) (w:World) (hn:32*n≤281474976710656):
  (Instr.makeSlice 24 (.int .i64 (n:Int)) (.int .i64 (n:Int))).run Tryz.prog w= .ok (.slice (some ⟨w.heap.size,0,none⟩) n n) (w.alloc (.cells (madeCells #[.int .i64 0,.int .i64 0,.string ⟨#[]⟩] (n*3)) 58)):=by
 obtain⟨i0,hi,hz0,hz1,hz2⟩:=info_parts info_val
 have h:=run_make (P:=Tryz.prog) w 24 58 i0 (.agg #[.int .i64 0,.int .i64 0,.string ⟨#[]⟩]) Tryz.underlying24 hi hz0 .i64 .i64 n n (by omega) (Int.le_refl _) (by rw[hz2];omega) (by omega)
 simpa[hz1,Value.cells] using h
structure RO (w:World) (R n:Nat) (l:List Val):Prop where
 blk: ∃cur,w.heap[R]? =some (.cells cur 58 (0,0))∧cur.size=n*3
 got:RowAt w R 0 l
theorem RO.tch {S:Nat→Prop} {w w':World} {R n:Nat} {l:List Val} (h:RO w R n l) (t:Tch S w w') (hs: ¬S R):RO w' R n l:=by
 obtain⟨cur,h1,h2⟩:=h.blk
 exact⟨⟨cur,(t.block R (blk_lt h1) hs).trans h1,h2⟩,h.got.tch t (fun _=>hs)⟩
theorem RO.step {w:World} {R n:Nat} {l:List Val} (h:RO w R n l) (hk:l.length<n) (v:Val):RO (((w.setCell ⟨R,l.length*3,none⟩ (.int .i64 v.k)).setCell ⟨R,l.length*3+1,none⟩ (.int .i64 v.n)).setCell ⟨R,l.length*3+2,none⟩ (.string v.s)) R n (l++[v]):=by
 obtain⟨cur,h1,h2⟩:=h.blk
 have h3:=blk_set (blk_set (blk_set h1 (i:=l.length*3) (.int .i64 v.k)) (i:=l.length*3+1) (.int .i64 v.n)) (i:=l.length*3+2) (.string v.s)
 refine⟨⟨_,h3,by simp[h2]⟩,fun i hi=>?_⟩
 rw[blk_cell h3,blk_cell h3,blk_cell h3]
 simp only[Nat.zero_add]
 rw[List.length_append,List.length_singleton] at hi
 rcases Nat.lt_or_ge i l.length with hik|hik
 ·obtain⟨g1,g2,g3⟩:=h.got i hik
  rw[blk_cell h1] at g1 g2 g3
  simp only[Nat.zero_add] at g1 g2 g3
  rw[List.getElem_append_left hik]
  refine⟨?_,?_,?_⟩
  ·rw[Array.getElem?_setIfInBounds_ne (by omega),Array.getElem?_setIfInBounds_ne (by omega),Array.getElem?_setIfInBounds_ne (by omega)];exact g1
  ·rw[Array.getElem?_setIfInBounds_ne (by omega),Array.getElem?_setIfInBounds_ne (by omega),Array.getElem?_setIfInBounds_ne (by omega)];exact g2
  ·rw[Array.getElem?_setIfInBounds_ne (by omega),Array.getElem?_setIfInBounds_ne (by omega),Array.getElem?_setIfInBounds_ne (by omega)];exact g3
 ·obtain rfl:i=l.length:=by omega
  rw[List.getElem_append_right (Nat.le_refl _)]
  simp only[Nat.sub_self,List.getElem_cons_zero]
  refine⟨?_,?_,?_⟩
  ·rw[Array.getElem?_setIfInBounds_ne (by omega),Array.getElem?_setIfInBounds_ne (by omega),Array.getElem?_setIfInBounds_self_of_lt (by omega)]
  ·rw[Array.getElem?_setIfInBounds_ne (by omega),Array.getElem?_setIfInBounds_self_of_lt (by simp;omega)]
  ·rw[Array.getElem?_setIfInBounds_self_of_lt (by simp;omega)]
theorem RO.room {w:World} {R n:Nat} {l:List Val} (h:RO w R n l) (hk:l.length<n):(∃y,w.cell? ⟨R,l.length*3,none⟩=some y)∧(∃y,w.cell? ⟨R,l.length*3+1,none⟩=some y)∧(∃y,w.cell? ⟨R,l.length*3+2,none⟩=some y)∧ ∀j,w.frozen? ⟨R,j,none⟩=false:=by
 obtain⟨cur,h1,h2⟩:=h.blk
 exact⟨⟨cur[l.length*3]'(by omega),by rw[blk_cell h1];exact Array.getElem?_eq_getElem _⟩,⟨cur[l.length*3+1]'(by omega),by rw[blk_cell h1];exact Array.getElem?_eq_getElem _⟩,⟨cur[l.length*3+2]'(by omega),by rw[blk_cell h1];exact Array.getElem?_eq_getElem _⟩,fun j=>blk_frozen h1 j⟩
theorem decode_any (S:ByteArray) (w:World) (hg:HE w) (hS:S.size≤281474976710656):
  Calls Tryz.prog 201 #[.string S] w fun x w'=>DecOut S w x w'∧Tch (fun _=>False) w w':=by
 have hel:1<w.heap.size:=cell_lt hg
 have HG:Hid (∀W,Tch (fun i=>w.heap.size≤i) w W→HE W):=fun W t=>hg.tch t (by omega)
 have hm:=byteR_lt S 0 0
 clear hg hel
 go_enter Tryz.func201,Tryz.ntmps201
 go_wp2_with (go_at_call 34;refine(newReader_any _ _).mono ?_;rintro x w1 ⟨rfl,h1,t1,z1⟩;have T1:=no_mono (S:=fun i=>w.heap.size≤i) t1)
 refine(rbyte_any _ S 0 0 _ h1 hS).mono ?_
 rintro x w2 ⟨rfl,h2,t2⟩
 have T2:=T1.trans' (eq_mono t2 (Nat.le_refl _))
 clear T1 t1 t2 h1
 obtain⟨n,a1,e1,hE⟩: ∃n a1 e1,byteR S 0 0=(n,a1,e1):=⟨_,_,_,rfl⟩
 have HD:Hid (decR S=if 8<n then none else decGo S n a1 e1 []):=by show _=_;unfold decR;rw[hE]
 rw[hE] at h2 hm ⊢
 simp only at h2 hm ⊢
 clear hE
 by_cases h8:8<n
 ·have h8':(8:Int)<n:=by omega
  have HD2:Hid (decR S=none):=by show _=_;rw[HD.out,if_pos h8]
  go_wp2_with fail
  go_ret2
  refine⟨?_,ge_new T2⟩
  unfold DecOut
  rw[HD2.out]
  rfl
 ·have h8': ¬(8:Int)<n:=by omega
  have HD2:Hid (decR S=decGo S n a1 e1 []):=by show _=_;rw[HD.out,if_neg h8]
  clear HD hm
  have hmk:=make_row n w2 (by omega)
  obtain⟨w3,hw3⟩: ∃w3,w3=w2.alloc (.cells (madeCells #[.int .i64 0,.int .i64 0,.string ⟨#[]⟩] (n*3)) 58):=⟨_,rfl⟩
  obtain⟨R,hR⟩: ∃R,R=w2.heap.size:=⟨_,rfl⟩
  rw[←hw3, ←hR] at hmk
  have t3:Tch (fun _=>False) w2 w3:=by rw[hw3];exact Tch.alloc _ _ _
  have hb2:w.heap.size<w2.heap.size:=cell_lt h2.st.c0
  have F0:RO w3 R n []:=⟨⟨_,by rw[hw3,hR];exact heap_new w2 _,size_madeCells _ _⟩,fun i hi=>by simp at hi⟩
  have T3:=T2.trans' (no_mono t3)
  have h3:=h2.tch t3 (fun h=>h)
  have hRw:w.heap.size<R:=by omega
  have hR3:R<w3.heap.size:=by rw[hw3,hR];simp
  clear hw3 hR t3 h2 T2 hb2
  go_wp2_with fail
  go_loopw [22] (fun i wr=> ∃(k a e:_) (l:List Val),i= .int .i64 (k:Nat)∧k≤n∧l.length=k∧Hid (decR S=decGo S (n - k) a e l)∧RO wr R n l∧RD wr w.heap.size S a e∧Tch (fun i=>w.heap.size≤i) w wr) (fun i _=>n - (intOf i).toNat)
  case atStart=>exact⟨0,a1,e1,[],rfl,Nat.zero_le _,rfl,HD2,F0,h3,T3⟩
  case round=>
   obtain⟨k,a,e,l,rfl,hk,hl,HA,hO,hD,hT⟩:=hrel
   clear F0 h3 T3 HD2
   by_cases hlt:k<n
   ·have hlt':(k:Int)<n:=by omega
    have HV:Hid (decR S=if (rdV S a e).1.2=true then decGo S (n - (k+1)) (rdV S a e).2.1 (rdV S a e).2.2 (l++[(rdV S a e).1.1]) else none):=by
     show _=_
     rw[HA.out,show n - k=(n - (k+1))+1 by omega];rfl
    have hRr:R<wr.heap.size:=by obtain⟨cur,h1,_⟩:=hO.blk;exact blk_lt h1
    go_wp2_with fail
    refine(read_any _ S a e _ hD hS).mono ?_
    rintro x w4 ⟨rfl,h4,t4⟩
    have hO4:=hO.tch t4 (by omega)
    have T4:=hT.trans' (eq_mono t4 (Nat.le_refl _))
    obtain⟨⟨v,ok⟩,a',e',hE⟩: ∃(p:Val×Bool) (a':Nat) (e':Int),rdV S a e=(p,a',e'):=⟨_,_,_,rfl⟩
    rw[hE] at h4 HV ⊢
    simp only at h4 HV ⊢
    clear hE hO hD hT t4
    have hv4:R<w4.heap.size:=by obtain⟨cur,h1,_⟩:=hO4.blk;exact blk_lt h1
    cases ok with
    |true=>
     have HA5:Hid (decR S=decGo S (n - (k+1)) a' e' (l++[v])):=by
      show _=_
      rw[HV.out];rfl
     obtain⟨⟨y0,g0⟩,⟨y1,g1⟩,⟨y2,g2⟩,hfr⟩:=hO4.room (by omega)
     have hO5:=hO4.step (by omega) v
     rw[hl] at g0 g1 g2 hO5
     have f0:=hfr (k*3);have f1:=hfr (k*3+1);have f2:=hfr (k*3+2)
     have t5:Tch (fun i=>i=R) w4 (((w4.setCell ⟨R,k*3,none⟩ (.int .i64 v.k)).setCell ⟨R,k*3+1,none⟩ (.int .i64 v.n)).setCell ⟨R,k*3+2,none⟩ (.string v.s)):=
      ((Tch.setCell (fun i=>i=R) w4 ⟨R,k*3,none⟩ _ rfl).setCellR ⟨R,k*3+1,none⟩ _ rfl).setCellR ⟨R,k*3+2,none⟩ _ rfl
     have HB:Hid (∀o:Obj,RO ((((w4.setCell ⟨R,k*3,none⟩ (.int .i64 v.k)).setCell ⟨R,k*3+1,none⟩ (.int .i64 v.n)).setCell ⟨R,k*3+2,none⟩ (.string v.s)).alloc o) R n (l++[v])∧RD ((((w4.setCell ⟨R,k*3,none⟩ (.int .i64 v.k)).setCell ⟨R,k*3+1,none⟩ (.int .i64 v.n)).setCell ⟨R,k*3+2,none⟩ (.string v.s)).alloc o) w.heap.size S a' e'∧Tch (fun i=>w.heap.size≤i) w ((((w4.setCell ⟨R,k*3,none⟩ (.int .i64 v.k)).setCell ⟨R,k*3+1,none⟩ (.int .i64 v.n)).setCell ⟨R,k*3+2,none⟩ (.string v.s)).alloc o)):=fun o=>
      ⟨hO5.tch (Tch.alloc (fun _=>False) _ o) (fun h=>h),(h4.tch t5 (by omega)).tch (Tch.alloc (fun _=>False) _ o) (fun h=>h),(T4.trans' (t5.mono (fun i _ hi=>by omega))).allocR o⟩
     clear hO4 h4 T4 t5 HA HV hO5 hfr
     go_wp2_with fail
     go_roundw
     case rel=>
      obtain⟨q1,q2,q3⟩:=HB.out (.cells #[.int .i64 v.k,.int .i64 v.n,.string v.s] 58)
      exact⟨k+1,a',e',l++[v],by go_num,by omega,by simp[hl],HA5,q1,q2,q3⟩
     case measure=>simp[intOf];omega
    |false=>
     have HA5:Hid (decR S=none):=by
      show _=_
      rw[HV.out];rfl
     clear HA HV
     go_wp2_with fail
     go_ret2
     refine⟨?_,ge_new (T4.allocR _)⟩
     unfold DecOut
     rw[HA5.out]
     rfl
   ·have hlt': ¬(k:Int)<n:=by omega
    have hkn:k=n:=by omega
    subst hkn
    have HV:Hid (decR S=if doneE e (S.size - a)=0 then some l else none):=by
     show _=_
     rw[HA.out,Nat.sub_self];rfl
    have hgE:=HG.out wr hT
    have hdn:=rdone_any _ (S.extract a S.size) a e wr hD.st hgE
    rw[tail_size] at hdn
    have hRr:R<wr.heap.size:=by obtain⟨cur,h1,_⟩:=hO.blk;exact blk_lt h1
    go_wp2_with fail
    refine hdn.mono ?_
    rintro x w4 ⟨rfl,t4⟩
    have hO4:=hO.tch t4 (fun h=>h)
    have T4:=hT.trans' (no_mono t4)
    obtain⟨q,hq⟩: ∃q,q=doneE e (S.size - a):=⟨_,rfl⟩
    rw[←hq] at HV ⊢
    clear hq hdn hO hT t4 hgE hD
    by_cases hq0:q=0
    ·subst hq0
     go_wp2_with fail
     go_ret2
     refine⟨?_,ge_new T4⟩
     unfold DecOut
     rw[HV.out]
     simp only[if_true]
     refine⟨R,by omega,by rw[hl];rfl,hO4.got,?_⟩
     rw[hl];exact hO4.blk
    ·have hq1:(q !=0)=true:=by simpa using hq0
     have HV2:Hid (decR S=none):=by show _=_;rw[HV.out,if_neg hq0]
     clear hq0 HV
     go_wp2_with fail
     go_ret2
     refine⟨?_,ge_new T4⟩
     unfold DecOut
     rw[HV2.out]
     rfl
end Go.Proofs.YtaiadknglhemaaaGreatDoor
