import Derived.Test.YtaiadknglhemaaaGreatDoorXReader
import Derived.Test.YtaiadknglhemaaaGreatDoorDX0
import Derived.Test.YtaiadknglhemaaaGreatDoorCFit
import Derived.Deep.LoopGhost
import Derived.Test.YtaiadknglhemaaaGreatDoorVPure
import Derived.Test.YtaiadknglhemaaaGreatDoorWriter
import Derived.Deep.RegionWith
import Derived.Test.YtaiadknglhemaaaGreatDoorOrdv
set_option maxHeartbeats 4000000
set_option maxRecDepth 100000
namespace Go.Proofs.YtaiadknglhemaaaGreatDoor
open Go.RowKit
theorem xslice (S:ByteArray) (a m:Nat) (h:a+m≤S.size) (w:World):(Instr.slice 9 (.string S) (some (.int .i64 (a:Int))) (some (.int .i64 ((a:Int)+m))) none).run Tryz.prog w= .ok (.string (S.extract a (a+m))) w:=by
 rw[run_slice_string_if (h:=Tryz.underlying9),if_pos (by omega),if_pos (by omega)]
 have e:((a:Int)+m).toNat=a+m:=by omega
 rw[e,Int.toNat_natCast]
theorem xindex0 (S:ByteArray) (a:Nat) (h:a<S.size) (w:World):
  (Instr.index 9 (.string S) (.int .i64 (a:Int))).run Tryz.prog w= .ok (.int .u8 ((S.data.toList.getD a 0).toNat:Int)) w:=by
 rw[run_index_string (h:=Tryz.underlying9),dif_pos (by omega)]
 simp only[Int.toNat_natCast]
 have e2:S.data.toList.getD a 0=S[a]:=by
  rw[List.getD_eq_getElem?_getD,List.getElem?_eq_getElem (by simpa using h)];rfl
 rw[e2]
theorem xbyte_any (b:Nat) (S:ByteArray) (a:Nat) (e:Int) (w:World) (h:XS w b S a e) (hS:S.size≤281474976710656):
  Calls Tryz.prog 122 #[.pointer (some ⟨b,0,none⟩)] w fun x w'=>x= .returned (.int .i64 (byteR S a e).1)∧XS w' b S (byteR S a e).2.1 (byteR S a e).2.2∧Tch (fun i=>i=b) w w':=by
 have c0:=h.c0;have c1:=h.c1;have c2:=h.c2;have f1:=h.f1
 have hle:=h.le
 by_cases he:e=0
 ·subst he
  by_cases ha:a<S.size
  ·obtain⟨B1,hB1⟩: ∃B1:Nat,B1=(S.data.toList.getD a 0).toNat:=⟨_,rfl⟩
   have hb255:(B1:Int)≤255:=by have:=(S.data.toList.getD a 0).toNat_lt;omega
   have hix:=xindex0 S a ha
   rw[←hB1] at hix
   have HR:Hid (byteR S a 0=(B1,a+1,0)):=by show _=_;rw[hB1];unfold byteR;rw[if_neg (by simp),if_pos ha]
   clear hB1
   have hne: ¬(a:Int)=S.size:=by omega
   have hx: ∀n,XS (w.drewN n) b S a 0:=fun n=>h.tch ((Tch.refl (fun _=>False) w).drewN n) (fun h=>h)
   have hsub:IntKind.i64.wrap ((a:Int)+1 - 1)=a:=by rw[IntKind.wrap_i64];omega
   go_enter Tryz.func122,Tryz.ntmps122
   go_wp2
   go_quiet (fail)
   go_wp2
   go_quiet (fail)
   go_wp2
   go_ret
   rw[HR.out]
   exact⟨rfl,((hx _).set1 (a+1) (by omega)).tch ((Tch.refl (fun _=>False) _).drewN _) (fun h=>h),Tch.drewN (Tch.trans' (Tch.drewN (Tch.refl (fun i=>i=b) w) _) (Tch.setCell (fun i=>i=b) _ ⟨b,1,none⟩ _ rfl)) _⟩
  ·have hna:((a:Int)==S.size)=true:=by simp;omega
   have HR:Hid (byteR S a 0=(0,a,11)):=by show _=_;unfold byteR;rw[if_neg (by simp),if_neg ha]
   have hx: ∀n,XS (w.drewN n) b S a 0:=fun n=>h.tch ((Tch.refl (fun _=>False) w).drewN n) (fun h=>h)
   go_enter Tryz.func122,Tryz.ntmps122
   go_wp2
   go_quiet (fail)
   go_wp2_with (go_at_call 146;refine(xwrong_any b S a 11 _ (hx _)).mono ?_;rintro x w2 ⟨rfl,h2,t2⟩)
   go_ret
   rw[HR.out]
   exact⟨rfl,h2,((Tch.refl _ w).drewN _).trans' t2⟩
 ·have hn:(e !=0)=true:=by simpa using he
  have HR:Hid (byteR S a e=(0,a,e)):=by show _=_;simp[byteR,he]
  go_enter Tryz.func122,Tryz.ntmps122
  go_wp2
  go_ret
  rw[HR.out]
  exact⟨rfl,h,Tch.refl _ _⟩
theorem xint_any (b:Nat) (S:ByteArray) (a:Nat) (e:Int) (w:World) (h:XS w b S a e) (hS:S.size≤281474976710656):
  Calls Tryz.prog 123 #[.pointer (some ⟨b,0,none⟩)] w fun x w'=>x= .returned (.int .i64 (unf (numR 10 1 S a e).1))∧XS w' b S (numR 10 1 S a e).2.1 (numR 10 1 S a e).2.2∧Tch (fun i=>i=b) w w':=by
 have c2:=h.c2
 have hle:=h.le
 by_cases he:e=0
 ·subst he
  have num:=xnumber_any b S a 0 10 1 w h hS (by omega) (by omega) (by omega) (by omega)
  rcases hd:dgs 10 1 (S.data.toList.drop a) 0 0 with⟨n,k,c⟩
  rw[hd] at num
  by_cases hc:c=0
  ·subst hc
   have HR:Hid (numR 10 1 S a 0=(n,a+k,0)):=numR_ok hd
   obtain⟨hk,_,_,hn,_⟩:=dgs_ok (by omega) (by omega) (by omega) _ _ _ _ _ (by decide) (by omega) hd
   have h1:(n:Int) / 2≤9223372036854775807:=by omega
   have h2:(0:Int)≤n:=by omega
   have hk2:k≤S.size - a:=by simpa using hk
   have hk3:a+k≤S.size:=by omega
   clear hd hk hk2
   by_cases hp:n % 2=0
   ·have hp2:(n:Int) % 2=0:=by omega
    have HU:Hid (unf n=(n:Int) / 2):=by show _=_;simp[unf,hp]
    clear hn hp
    go_enter Tryz.func123,Tryz.ntmps123
    go_wp2_with (go_at_call 147;refine num.mono ?_;rintro x w1 ⟨⟨n1,k1,c1,hh,rfl⟩,t1⟩;simp only[Prod.mk.injEq] at hh;obtain⟨rfl,rfl,rfl⟩:=hh;have h1:=h.tch t1 (fun h=>h);have d1:=h1.c1;have g1:=h1.f1)
    go_ret
    rw[HR.out]
    exact⟨ret_int HU.out.symm,h1.set1 _ hk3,(t1.mono (fun _ _ h=>h.elim)).trans' (Tch.setCell _ _ ⟨b,1,none⟩ _ rfl)⟩
   ·have hp2: ¬(n:Int) % 2=0:=by omega
    have HU:Hid (unf n= -((n:Int) / 2) - 1):=by show _=_;simp[unf,hp]
    clear hn hp
    go_enter Tryz.func123,Tryz.ntmps123
    go_wp2_with (go_at_call 147;refine num.mono ?_;rintro x w1 ⟨⟨n1,k1,c1,hh,rfl⟩,t1⟩;simp only[Prod.mk.injEq] at hh;obtain⟨rfl,rfl,rfl⟩:=hh;have h1:=h.tch t1 (fun h=>h);have d1:=h1.c1;have g1:=h1.f1)
    go_ret
    rw[HR.out]
    exact⟨ret_int HU.out.symm,h1.set1 _ hk3,(t1.mono (fun _ _ h=>h.elim)).trans' (Tch.setCell _ _ ⟨b,1,none⟩ _ rfl)⟩
  ·have HR:Hid (numR 10 1 S a 0=(0,a,c)):=numR_bad hd hc
   have hcb:(c !=0)=true:=by simpa using hc
   clear hd
   go_enter Tryz.func123,Tryz.ntmps123
   go_wp2_with (first|(go_at_call 147;refine num.mono ?_;rintro x w1 ⟨⟨n1,k1,c1,hh,rfl⟩,t1⟩;simp only[Prod.mk.injEq] at hh;obtain⟨rfl,rfl,rfl⟩:=hh;have h1:=h.tch t1 (fun h=>h))|(go_at_call 146;refine(xwrong_any b S a _ _ h1).mono ?_;rintro x w2 ⟨rfl,h2,t2⟩))
   go_ret
   rw[HR.out]
   exact⟨ret_int (by simp[unf]),h2,(t1.mono (fun _ _ h=>h.elim)).trans' t2⟩
 ·have hn:(e !=0)=true:=by simpa using he
  have HR:Hid (numR 10 1 S a e=(0,a,e)):=numR_wrong he
  go_enter Tryz.func123,Tryz.ntmps123
  go_wp2
  go_ret
  rw[HR.out]
  exact⟨ret_int (by simp[unf]),h,Tch.refl _ _⟩
theorem xtext_any (b:Nat) (S:ByteArray) (a:Nat) (e most:Int) (w:World) (h:XS w b S a e) (hS:S.size≤281474976710656):
  Calls Tryz.prog 124 #[.pointer (some ⟨b,0,none⟩),.int .i64 most] w fun x w'=>x= .returned (.string (textR most S a e).1)∧XS w' b S (textR most S a e).2.1 (textR most S a e).2.2∧Tch (fun i=>i=b) w w':=by
 have c2:=h.c2
 have hle:=h.le
 by_cases he:e=0
 ·subst he
  by_cases hm:most<0
  ·have HR:Hid (textR most S a 0=(⟨#[]⟩,a,1)):=by show _=_;simp[textR,hm]
   go_enter Tryz.func124,Tryz.ntmps124
   go_wp2_with (go_at_call 146;refine(xwrong_any b S a 1 _ h).mono ?_;rintro x w2 ⟨rfl,h2,t2⟩)
   go_ret
   rw[HR.out]
   exact⟨rfl,h2,t2⟩
  ·have num:=xnumber_any b S a 0 9 127 w h hS (by omega) (by omega) (by omega) (by omega)
   rcases hd:dgs 9 127 (S.data.toList.drop a) 0 0 with⟨n,k,c⟩
   rw[hd] at num
   have HT:Hid (textR most S a 0=if c≠0 then(⟨#[]⟩,a,c) else if most<n then(⟨#[]⟩,a,12) else if S.size - a - k<n then(⟨#[]⟩,a,11) else(S.extract (a+k) (a+k+n),a+k+n,0)):=by
    show _=_;unfold textR;rw[if_neg (by simp),if_neg hm,hd]
   by_cases hc:c=0
   ·subst hc
    obtain⟨hk,_,hk9,_,hn⟩:=dgs_ok (by omega) (by omega) (by omega) _ _ _ _ _ (by decide) (by omega) hd
    have hn3:(n:Int)≤9223372036854775807:=by
     have h2:=pow_le_of hk9
     have h3:(128:Nat) ^ 9=9223372036854775808:=by decide
     omega
    have hk2:k≤S.size - a:=by simpa using hk
    have hk3:a+k≤S.size:=by omega
    clear hd hk hn hk9 hk2
    by_cases h12:most<n
    ·have HR:Hid (textR most S a 0=(⟨#[]⟩,a,12)):=by show _=_;rw[HT.out,if_neg (by simp),if_pos h12]
     go_enter Tryz.func124,Tryz.ntmps124
     go_wp2_with (first|(go_at_call 147;refine num.mono ?_;rintro x w1 ⟨⟨n1,k1,c1,hh,rfl⟩,t1⟩;simp only[Prod.mk.injEq] at hh;obtain⟨rfl,rfl,rfl⟩:=hh;have h1:=h.tch t1 (fun h=>h))|(go_at_call 146;refine(xwrong_any b S a 12 _ h1).mono ?_;rintro x w2 ⟨rfl,h2,t2⟩))
     go_ret
     rw[HR.out]
     exact⟨rfl,h2,(t1.mono (fun _ _ h=>h.elim)).trans' t2⟩
    ·by_cases h11:S.size - a - k<n
     ·have HR:Hid (textR most S a 0=(⟨#[]⟩,a,11)):=by show _=_;rw[HT.out,if_neg (by simp),if_neg h12,if_pos h11]
      have h11':(S.size:Int) - a - k<n:=by omega
      go_enter Tryz.func124,Tryz.ntmps124
      go_wp2_with (go_at_call 147;refine num.mono ?_;rintro x w1 ⟨⟨n1,k1,c1,hh,rfl⟩,t1⟩;simp only[Prod.mk.injEq] at hh;obtain⟨rfl,rfl,rfl⟩:=hh;have h1:=h.tch t1 (fun h=>h);have d0:=h1.c0;have d1:=h1.c1;have hx: ∀n,XS (w1.drewN n) b S a 0:=fun n=>h1.tch ((Tch.refl (fun _=>False) w1).drewN n) (fun h=>h))
      go_quiet (fail)
      go_wp2_with (go_at_call 146;refine(xwrong_any b S a 11 _ (hx _)).mono ?_;rintro x w2 ⟨rfl,h2,t2⟩)
      go_ret
      rw[HR.out]
      exact⟨rfl,h2,Tch.trans' ((t1.mono (fun _ _ h=>h.elim)).drewN _) t2⟩
     ·have HR:Hid (textR most S a 0=(S.extract (a+k) (a+k+n),a+k+n,0)):=by show _=_;rw[HT.out,if_neg (by simp),if_neg h12,if_neg h11]
      have h11': ¬(S.size:Int) - a - k<n:=by omega
      have hak:a+k+n≤S.size:=by omega
      have hsl: ∀w:World,(Instr.slice 9 (.string S) (some (.int .i64 ((a:Int)+k))) (some (.int .i64 ((a:Int)+k+n))) none).run Tryz.prog w= .ok (.string (S.extract (a+k) (a+k+n))) w:=xslice S (a+k) n hak
      have hsum:(a:Int)+k+n≤S.size:=by omega
      go_enter Tryz.func124,Tryz.ntmps124
      go_wp2_with (go_at_call 147;refine num.mono ?_;rintro x w1 ⟨⟨n1,k1,c1,hh,rfl⟩,t1⟩;simp only[Prod.mk.injEq] at hh;obtain⟨rfl,rfl,rfl⟩:=hh;have h1:=h.tch t1 (fun h=>h);have d0:=h1.c0;have d1:=h1.c1;have g1:=h1.f1;have hx: ∀n,XS (w1.drewN n) b S a 0:=fun n=>h1.tch ((Tch.refl (fun _=>False) w1).drewN n) (fun h=>h))
      go_quiet (fail)
      go_wp2
      go_quiet (fail)
      go_wp2
      go_ret
      rw[HR.out]
      exact⟨rfl,((hx _).set1 (a+k+n) hak).tch ((Tch.refl (fun _=>False) _).drewN _) (fun h=>h),Tch.drewN (Tch.trans' ((t1.mono (fun _ _ h=>h.elim)).drewN _) (Tch.setCell (fun i=>i=b) _ ⟨b,1,none⟩ _ rfl)) _⟩
   ·have HR:Hid (textR most S a 0=(⟨#[]⟩,a,c)):=by show _=_;rw[HT.out,if_pos hc]
    have hcb:(c !=0)=true:=by simpa using hc
    obtain⟨rfl,rfl,_⟩:=dgs_zero _ _ _ _ _ _ hd hc
    clear hd
    go_enter Tryz.func124,Tryz.ntmps124
    go_wp2_with (first|(go_at_call 147;refine num.mono ?_;rintro x w1 ⟨⟨n1,k1,c1,hh,rfl⟩,t1⟩;simp only[Prod.mk.injEq] at hh;obtain⟨rfl,rfl,rfl⟩:=hh;have h1:=h.tch t1 (fun h=>h))|(go_at_call 146;refine(xwrong_any b S a _ _ h1).mono ?_;rintro x w2 ⟨rfl,h2,t2⟩))
    go_ret
    rw[HR.out]
    exact⟨rfl,h2,(t1.mono (fun _ _ h=>h.elim)).trans' t2⟩
 ·have hn:(e !=0)=true:=by simpa using he
  have HR:Hid (textR most S a e=(⟨#[]⟩,a,e)):=by show _=_;simp[textR,he]
  go_enter Tryz.func124,Tryz.ntmps124
  go_wp2
  go_ret
  rw[HR.out]
  exact⟨rfl,h,Tch.refl _ _⟩
end Go.Proofs.YtaiadknglhemaaaGreatDoor
namespace Go.Proofs.YtaiadknglhemaaaGreatDoor.C
open Go.RowKit Go Go.Sort
def DB (w:World) (b:Nat) (p:Ds):Prop:=w.heap[b]? =some (.cells #[.string (bB p.1),.bool p.2] 100 (0,0))
theorem DB.tch {S:Nat→Prop} {w w':World} {b:Nat} {p:Ds} (h:DB w b p) (t:Tch S w w') (hS: ¬S b):DB w' b p:=(t.block b (blk_lt h) hS).trans h
theorem DB.no {w w':World} {b:Nat} {p:Ds} (h:DB w b p) (t:Tch (fun _=>False) w w'):DB w' b p:=h.tch t (fun e=>e)
theorem bB_ext (l:List UInt8) (i j:Nat):(bB l).extract i j=bB ((l.drop i).take (j - i)):=by
 apply ByteArray.ext
 rw[ByteArray.data_extract]
 show l.toArray.extract i j=_
 rw[List.extract_toArray]
 rfl
theorem dslice_to (l:List UInt8) (m:Nat) (h:m≤l.length) (w:World):(Instr.slice 9 (.string (bB l)) none (some (.int .i64 (m:Int))) none).run Tryz.prog w= .ok (.string (bB (l.take m))) w:=by
 rw[run_slice_string_to_if (h:=Tryz.underlying9),if_pos (by rw[size_bB];omega)]
 rw[Int.toNat_natCast,bB_ext,List.drop_zero,Nat.sub_zero]
theorem dslice_from (l:List UInt8) (m:Nat) (h:m≤l.length) (w:World):(Instr.slice 9 (.string (bB l)) (some (.int .i64 (m:Int))) none none).run Tryz.prog w= .ok (.string (bB (l.drop m))) w:=by
 rw[run_slice_string_from_if (h:=Tryz.underlying9),if_pos (by rw[size_bB];omega)]
 rw[Int.toNat_natCast,bB_ext,size_bB]
 rw[List.take_of_length_le (by rw[List.length_drop];omega)]
theorem bad_set {w:World} {b:Nat} {l:List UInt8} {d:Bool} (h:DB w b (l,d)):DB (w.setCell ⟨b,1,none⟩ (.bool true)) b (l,true)∧Tch (fun i=>i=b) w (w.setCell ⟨b,1,none⟩ (.bool true)):=by
 refine⟨?_,Tch.setCell (fun i=>i=b) w ⟨b,1,none⟩ _ rfl⟩
 unfold DB at h ⊢
 rw[blk_set h];rfl
theorem s_set {w:World} {b:Nat} {l m:List UInt8} {d:Bool} (h:DB w b (l,d)):DB (w.setCell ⟨b,0,none⟩ (.string (bB m))) b (m,d)∧Tch (fun i=>i=b) w (w.setCell ⟨b,0,none⟩ (.string (bB m))):=by
 refine⟨?_,Tch.setCell (fun i=>i=b) w ⟨b,0,none⟩ _ rfl⟩
 unfold DB at h ⊢
 rw[blk_set h];rfl
theorem draw_any (b:Nat) (n:Int) (p:Ds) (w:World) (h:DB w b p):
  Calls Tryz.prog 94 #[.pointer (some ⟨b,0,none⟩),.int .i64 n] w fun x w'=>x= .returned (.string (bB (dRaw n p).1))∧DB w' b (dRaw n p).2∧Tch (fun i=>i=b) w w':=by
 obtain⟨l,bad⟩:=p
 obtain⟨T,hT⟩: ∃T,T=bB l:=⟨_,rfl⟩
 have hz:T.size=l.length:=by rw[hT];exact size_bB l
 have h':w.heap[b]? =some (.cells #[.string T,.bool bad] 100 (0,0)):=by rw[hT];exact h
 have c0:w.cell? ⟨b,0,none⟩=some (.string T):=blk_cell h' 0
 have c1:w.cell? ⟨b,1,none⟩=some (.bool bad):=blk_cell h' 1
 have f0:=blk_frozen h' 0
 have f1:=blk_frozen h' 1
 have HB:Hid (DB w b (l,bad)):=h
 have HTt:Hid (T=bB l):=hT
 clear h h' hT
 cases bad with
 |true=>
  have HR:Hid (dRaw n (l,true)=([],(l,true))):=by show _=_;unfold dRaw;rw[if_pos (.inl rfl)]
  clear hz
  go_enter Tryz.func94,Tryz.ntmps94
  go_wp2_with fail
  go_ret
  rw[HR.out]
  exact⟨rfl,(bad_set HB.out).1,(bad_set HB.out).2⟩
 |false=>
  by_cases hn:n<0
  ·have HR:Hid (dRaw n (l,false)=([],(l,true))):=by show _=_;unfold dRaw;rw[if_pos (.inr (.inl hn))]
   clear hz
   go_enter Tryz.func94,Tryz.ntmps94
   go_wp2_with fail
   go_ret
   rw[HR.out]
   exact⟨rfl,(bad_set HB.out).1,(bad_set HB.out).2⟩
  ·by_cases hs:(l.length:Int)<n
   ·have HR:Hid (dRaw n (l,false)=([],(l,true))):=by show _=_;unfold dRaw;rw[if_pos (.inr (.inr hs))]
    have hs':(T.size:Int)<n:=by omega
    have hs2:n>(T.size:Int):=by omega
    clear hz hs
    go_enter Tryz.func94,Tryz.ntmps94
    go_wp2_with fail
    go_ret
    rw[HR.out]
    exact⟨rfl,(bad_set HB.out).1,(bad_set HB.out).2⟩
   ·obtain⟨m,rfl⟩: ∃m:Nat,n=m:=⟨n.toNat,by omega⟩
    have hm:m≤l.length:=by omega
    have HR:Hid (dRaw m (l,false)=(l.take m,(l.drop m,false))):=by
     show _=_
     unfold dRaw
     rw[if_neg (by simp;omega),Int.toNat_natCast]
    have hs': ¬(T.size:Int)<(m:Int):=by omega
    have hs2: ¬(m:Int)>(T.size:Int):=by omega
    have s1: ∀w:World,(Instr.slice 9 (.string T) none (some (.int .i64 (m:Int))) none).run Tryz.prog w= .ok (.string (bB (l.take m))) w:=fun w=>by rw[HTt.out];exact dslice_to l m hm w
    have s2: ∀w:World,(Instr.slice 9 (.string T) (some (.int .i64 (m:Int))) none none).run Tryz.prog w= .ok (.string (bB (l.drop m))) w:=fun w=>by rw[HTt.out];exact dslice_from l m hm w
    clear hz hs hn hm
    go_enter Tryz.func94,Tryz.ntmps94
    go_wp2_with fail
    go_ret
    rw[HR.out]
    exact⟨rfl,(s_set HB.out).1,(s_set HB.out).2⟩
theorem dbyte_any (b:Nat) (p:Ds) (w:World) (h:DB w b p):
  Calls Tryz.prog 53 #[.pointer (some ⟨b,0,none⟩)] w fun x w'=>x= .returned (.int .i64 (dByte p).1)∧DB w' b (dByte p).2∧Tch (fun i=>i=b) w w':=by
 have q1:=draw_any b 1 p w h
 clear h
 by_cases hc: ∃c r,p=(c::r,false)
 ·obtain⟨c,r,rfl⟩:=hc
  have e:dRaw 1 (c::r,false)=([c],(r,false)):=by
   unfold dRaw
   rw[if_neg (by simp;omega)]
   rfl
  rw[e] at q1
  have hix: ∀w:World,(Instr.index 9 (.string (bB [c])) (.int .i64 0)).run Tryz.prog w= .ok (.int .u8 (c.toNat:Int)) w:=fun w=>by
   have:=xindex0 (bB [c]) 0 (by rw[size_bB];simp) w
   simpa[bB] using this
  have hlt:(c.toNat:Int)<256:=by have:=c.toNat_lt;omega
  have h0:0≤(c.toNat:Int):=by omega
  clear e
  go_enter Tryz.func53,Tryz.ntmps53
  go_wp2_with fail
  refine q1.mono ?_
  rintro x w1 ⟨rfl,h1,t1⟩
  have c1:w1.cell? ⟨b,1,none⟩=some (.bool false):=blk_cell h1 1
  have H1:Hid (DB w1 b (r,false)):=h1
  clear q1 h1
  generalize hS:bB [c]=S at hix ⊢
  clear hS
  go_wp2_with fail
  go_ret
  exact⟨rfl,H1.out,t1⟩
 ·have e:dRaw 1 p=([],(p.1,true)):=by
   unfold dRaw
   rw[if_pos]
   obtain⟨l,bad⟩:=p
   cases bad with
   |true=>exact .inl rfl
   |false=>
    cases l with
    |nil=>exact .inr (.inr (by simp))
    |cons c r=>exact absurd ⟨c,r,rfl⟩ hc
  have e2:dByte p=(0,(p.1,true)):=by
   obtain⟨l,bad⟩:=p
   cases bad with
   |true=>cases l<;>rfl
   |false=>
    cases l with
    |nil=>rfl
    |cons c r=>exact absurd ⟨c,r,rfl⟩ hc
  rw[e] at q1
  rw[e2]
  clear e e2 hc
  go_enter Tryz.func53,Tryz.ntmps53
  go_wp2_with fail
  refine q1.mono ?_
  rintro x w1 ⟨rfl,h1,t1⟩
  have c1:w1.cell? ⟨b,1,none⟩=some (.bool true):=blk_cell h1 1
  have H1:Hid (DB w1 b (p.1,true)):=h1
  clear q1 h1
  go_wp2_with fail
  go_ret
  exact⟨rfl,H1.out,t1⟩
theorem dByte_lt (p:Ds):(dByte p).1≤255:=by
 unfold dByte
 split
 ·rename_i b r
  have:=b.toNat_lt
  show b.toNat≤255
  omega
 ·simp
theorem dDg_step {i n:Nat} {p:Ds} (hi:i<8) (hp:p.2=false):dDg (8 - i) i n p=if (dByte p).1<128 then(n+(dByte p).1 % 128*128 ^ i,(dByte p).2) else dDg (8 - (i+1)) (i+1) (n+(dByte p).1 % 128*128 ^ i) (dByte p).2:=by
 rw[show 8 - i=(8 - (i+1))+1 by omega]
 conv=>lhs;unfold dDg
 rw[if_neg (by rw[hp];simp)]
theorem dDg_bad {f i n:Nat} {p:Ds} (hp:p.2=true):dDg f i n p=(0,(p.1,true)):=by
 cases f with
 |zero=>rfl
 |succ f=>unfold dDg;rw[if_pos hp]
theorem p128_le {i:Nat} (h:i≤7):128 ^ i≤562949953421312:=by
 have:=Nat.pow_le_pow_right (n:=128) (by omega) h
 simpa using this
theorem two7 (i:Nat):(2:Int) ^ (7*(i:Int)).toNat=((128 ^ i:Nat):Int):=by
 rw[show(7*(i:Int)).toNat=7*i by omega,Int.pow_mul]
 norm_cast
theorem ddig_any (b:Nat) (p:Ds) (w:World) (h:DB w b p):
  Calls Tryz.prog 54 #[.pointer (some ⟨b,0,none⟩)] w fun x w'=>x= .returned (.int .i64 (dNum p).1)∧DB w' b (dNum p).2∧Tch (fun i=>i=b) w w':=by
 have HJ:Hid (dDg (8 - 0) 0 0 p=dNum p∧DB w b p∧Tch (fun i=>i=b) w w):=⟨rfl,h,Tch.refl _ _⟩
 clear h
 go_enter Tryz.func54,Tryz.ntmps54
 go_wp2_with fail
 go_loopg [3,4,5] 8 (fun kx s3 s4 s5 wr=> ∃(i n:Nat) (p':Ds),s3= .int .i64 n∧s4= .int .i64 i∧8 - i≤kx∧i≤8∧Hid (n<128 ^ i)∧Hid (dDg (8 - i) i n p'=dNum p∧DB wr b p'∧Tch (fun j=>j=b) w wr))
 case atStart=>exact⟨0,0,p,rfl,rfl,by omega,by omega,(by show 0<128 ^ 0;simp),HJ⟩
 case round=>
  rename World=>wr
  obtain⟨i,n,p',rfl,rfl,hkx,hil,Hn,J⟩:=hrel
  have c1:wr.cell? ⟨b,1,none⟩=some (.bool p'.2):=blk_cell J.out.2.1 1
  have f1:=blk_frozen J.out.2.1 1
  obtain⟨bad,hbad⟩: ∃bad,bad=p'.2:=⟨_,rfl⟩
  rw[←hbad] at c1
  have Hbad:Hid (bad=p'.2):=hbad
  clear hbad
  by_cases hi:i<8
  ·have hi':(i:Int)<8:=by omega
   cases bad with
   |true=>
    have HE:Hid (dNum p=(0,(p'.1,true))):=by show _=_;rw[←J.out.1];exact dDg_bad Hbad.out.symm
    have HD:Hid (DB wr b (p'.1,true)):=by have:=J.out.2.1;unfold DB at this ⊢;rw[Hbad.out];exact this
    have HT:Hid (Tch (fun j=>j=b) w wr):=J.out.2.2
    clear J
    go_wp2_with fail
    go_ret
    rw[HE.out]
    exact⟨rfl,(bad_set HD.out).1,HT.out.trans' (bad_set HD.out).2⟩
   |false=>
    have q1:=dbyte_any b p' wr J.out.2.1
    have hst:=dDg_step (n:=n) hi Hbad.out.symm
    rw[J.out.1] at hst
    have hc255:=dByte_lt p'
    obtain⟨c,hc⟩: ∃c,c=(dByte p').1:=⟨_,rfl⟩
    obtain⟨p2,hp2⟩: ∃p2,p2=(dByte p').2:=⟨_,rfl⟩
    rw[←hc, ←hp2] at q1 hst
    rw[←hc] at hc255
    obtain⟨P,hP⟩: ∃P,P=128 ^ i:=⟨_,rfl⟩
    have hP7:P≤562949953421312:=by rw[hP];exact p128_le (by omega)
    have hnP:n<P:=by rw[hP];exact Hn.out
    obtain⟨m,hm⟩: ∃m,m=c % 128*P:=⟨_,rfl⟩
    have hmP:m≤127*P:=by rw[hm];exact Nat.mul_le_mul_right _ (by omega)
    have hsh:IntKind.i64.wrap ((c:Int) % 128*2 ^ (7*(i:Int)).toNat)=(m:Int):=by
     rw[two7, ←hP,hm]
     have e:(c:Int) % 128*((P:Nat):Int)=((c % 128*P:Nat):Int):=by norm_cast
     rw[e, ←hm,IntKind.wrap_i64]
     omega
    have hsum:IntKind.i64.wrap ((n:Int)+(m:Int))=(n:Int)+(m:Int):=by rw[IntKind.wrap_i64];omega
    have hw7:IntKind.i64.wrap (7*(i:Int))=7*(i:Int):=by rw[IntKind.wrap_i64];omega
    have h70:0≤7*(i:Int):=by omega
    have h764:7*(i:Int)≤64:=by omega
    rw[←hP, ←hm] at hst
    have HST:Hid _:=hst
    have HT:Hid (Tch (fun j=>j=b) w wr):=J.out.2.2
    have HN2:Hid (n+m<128 ^ (i+1)):=by show _<_;rw[Nat.pow_succ, ←hP];omega
    clear J hst hc hp2 hP hm Hbad Hn
    go_wp2_with fail
    refine q1.mono ?_
    rintro x w2 ⟨rfl,h2,t2⟩
    have HD2:Hid (DB w2 b p2):=h2
    have HT2:Hid (Tch (fun j=>j=b) w w2):=HT.out.trans' t2
    clear q1 h2 t2 c1 f1
    by_cases h128:c<128
    ·have h128':(c:Int)<128:=by omega
     have HE:Hid (dNum p=(n+m,p2)):=by show _=_;rw[HST.out,if_pos h128]
     clear HST
     go_wp2_with fail
     go_ret
     rw[HE.out]
     exact⟨by simp,HD2.out,HT2.out⟩
    ·have h128': ¬(c:Int)<128:=by omega
     have HJ2:Hid (dDg (8 - (i+1)) (i+1) (n+m) p2=dNum p∧DB w2 b p2∧Tch (fun j=>j=b) w w2):=⟨by rw[HST.out,if_neg h128],HD2.out,HT2.out⟩
     clear HST
     go_wp2_with fail
     go_roundg (8 - (i+1))
     case measure=>omega
     case rel=>exact⟨i+1,n+m,p2,by first|rfl|(congr 1;omega),by first|rfl|(congr 1;omega),by omega,by omega,HN2,HJ2⟩
  ·have hi': ¬(i:Int)<8:=by omega
   have e8:8 - i=0:=by omega
   have HE:Hid (dNum p=(0,(p'.1,true))):=by show _=_;rw[←J.out.1,e8];rfl
   have HD:Hid (DB wr b (p'.1,p'.2)):=J.out.2.1
   have HT:Hid (Tch (fun j=>j=b) w wr):=J.out.2.2
   clear J
   go_wp2_with fail
   go_ret
   rw[HE.out]
   exact⟨rfl,(bad_set HD.out).1,HT.out.trans' (bad_set HD.out).2⟩
theorem p128_pos (n:Nat):0<128 ^ n:=Nat.pos_of_ne_zero (fun e=>by simp at e)
theorem dDg_lt: ∀(f i n:Nat) (p:Ds),n<128 ^ i→(dDg f i n p).1<128 ^ (i+f)
 |0,i,n,p,_=>by show 0<128 ^ (i+0);exact p128_pos _
 |f+1,i,n,p,hn=>by
  have hb:=dByte_lt p
  have hm:(dByte p).1 % 128*128 ^ i≤127*128 ^ i:=Nat.mul_le_mul_right _ (by omega)
  have h1:n+(dByte p).1 % 128*128 ^ i<128 ^ (i+1):=by rw[Nat.pow_succ];omega
  unfold dDg
  split
  ·exact p128_pos _
  ·split
   ·exact Nat.lt_of_lt_of_le h1 (Nat.pow_le_pow_right (by omega) (by omega))
   ·have:=dDg_lt f (i+1) _ (dByte p).2 h1
    rw[show i+(f+1)=i+1+f by omega]
    exact this
theorem dNum_lt (p:Ds):(dNum p).1<72057594037927936:=by
 have:=dDg_lt 8 0 0 p (by simp)
 have e:(128:Nat) ^ (0+8)=72057594037927936:=by decide
 rw[e] at this
 exact this
theorem dtext_any (b:Nat) (p:Ds) (w:World) (h:DB w b p):
  Calls Tryz.prog 56 #[.pointer (some ⟨b,0,none⟩)] w fun x w'=>x= .returned (.string (dText p).1)∧DB w' b (dText p).2∧Tch (fun i=>i=b) w w':=by
 have q1:=ddig_any b p w h
 clear h
 obtain⟨n,hn⟩: ∃n,n=(dNum p).1:=⟨_,rfl⟩
 obtain⟨p1,hp1⟩: ∃p1,p1=(dNum p).2:=⟨_,rfl⟩
 have HE:Hid (dText p=(bB (dRaw n p1).1,(dRaw n p1).2)):=by show _=_;rw[hn,hp1];rfl
 rw[←hn, ←hp1] at q1
 clear hn hp1
 go_enter Tryz.func56,Tryz.ntmps56
 go_wp2_with fail
 refine q1.mono ?_
 rintro x w1 ⟨rfl,h1,t1⟩
 have q2:=draw_any b n p1 w1 h1
 clear q1 h1
 go_wp2_with fail
 refine q2.mono ?_
 rintro x w2 ⟨rfl,h2,t2⟩
 go_wp2_with fail
 go_ret
 rw[HE.out]
 exact⟨rfl,h2,t1.trans' t2⟩
theorem dRaw_len (n:Int) (p:Ds):(dRaw n p).1.length≤p.1.length∧(dRaw n p).2.1.length≤p.1.length:=by
 unfold dRaw
 split
 ·simp
 ·simp[List.length_take,List.length_drop];omega
theorem dByte_len (p:Ds):(dByte p).2.1.length≤p.1.length:=by
 unfold dByte
 split<;>simp
theorem dDg_len: ∀(f i n:Nat) (p:Ds),(dDg f i n p).2.1.length≤p.1.length
 |0,_,_,p=>Nat.le_refl _
 |f+1,i,n,p=>by
  have hb:=dByte_len p
  unfold dDg
  split
  ·exact Nat.le_refl _
  ·split
   ·exact hb
   ·exact Nat.le_trans (dDg_len f (i+1) _ (dByte p).2) hb
theorem dNum_len (p:Ds):(dNum p).2.1.length≤p.1.length:=dDg_len 8 0 0 p
theorem dText_len (p:Ds):(dText p).1.size≤p.1.length∧(dText p).2.1.length≤p.1.length:=by
 have h1:=dNum_len p
 have h2:=dRaw_len (dNum p).1 (dNum p).2
 have e:(dText p).1.size=(dRaw (dNum p).1 (dNum p).2).1.length:=size_bB _
 refine⟨by omega,?_⟩
 show(dRaw (dNum p).1 (dNum p).2).2.1.length≤_
 omega
end Go.Proofs.YtaiadknglhemaaaGreatDoor.C
namespace Go.Proofs.YtaiadknglhemaaaGreatDoor
open Go.RowKit
structure XW (w:World) (b:Nat) (s:ByteArray) (e:Int):Prop where
 c0:w.cell? ⟨b,0,none⟩=some (.string s)
 c1:w.cell? ⟨b,1,none⟩=some (.int .i64 e)
 f0:w.frozen? ⟨b,0,none⟩=false
 f1:w.frozen? ⟨b,1,none⟩=false
theorem XW.tch {T:Nat→Prop} {w w':World} {b:Nat} {s:ByteArray} {e:Int} (h:XW w b s e) (t:Tch T w w') (hb: ¬T b):XW w' b s e:=by
 have hl:b<w.heap.size:=cell_lt h.c0
 exact⟨(t.cell (p:=⟨b,0,none⟩) hl hb).trans h.c0,(t.cell (p:=⟨b,1,none⟩) hl hb).trans h.c1,(t.frozen (p:=⟨b,0,none⟩) hl hb).trans h.f0,(t.frozen (p:=⟨b,1,none⟩) hl hb).trans h.f1⟩
theorem XW.set0 {w:World} {b:Nat} {s:ByteArray} {e:Int} (h:XW w b s e) (s':ByteArray):XW (w.setCell ⟨b,0,none⟩ (.string s')) b s' e:=by
 refine⟨?_,?_,by simpa using h.f0,by simpa using h.f1⟩
 ·rw[World.cell?_setCell_same (h:=h.c0)]
 ·rw[World.cell?_setCell_other (h:=by simp)];exact h.c1
theorem XW.set1 {w:World} {b:Nat} {s:ByteArray} {e:Int} (h:XW w b s e) (c:Int):XW (w.setCell ⟨b,1,none⟩ (.int .i64 c)) b s c:=by
 refine⟨?_,?_,by simpa using h.f0,by simpa using h.f1⟩
 ·rw[World.cell?_setCell_other (h:=by simp)];exact h.c0
 ·rw[World.cell?_setCell_same (h:=h.c1)]
theorem xnewWriter_any (w:World):
  Calls Tryz.prog 132 #[] w fun x w'=>x= .returned (.pointer (some ⟨w.heap.size,0,none⟩))∧XW w' w.heap.size ⟨#[]⟩ 0∧Tch (fun _=>False) w w'∧w'.heap.size=w.heap.size+1:=by
 go_enter Tryz.func132,Tryz.ntmps132
 go_wp2
 go_ret
 exact⟨rfl,⟨by simp,by simp,by simp,by simp⟩,Tch.alloc _ _ _,by simp⟩
theorem xwwrong_any (b:Nat) (s:ByteArray) (e c:Int) (w:World) (h:XW w b s e):
  Calls Tryz.prog 151 #[.pointer (some ⟨b,0,none⟩),.int .i64 c] w fun x w'=>x= .returned (.tuple #[])∧XW w' b s (failE e c)∧Tch (fun i=>i=b) w w':=by
 have c1:=h.c1;have f1:=h.f1
 by_cases he:e=0
 ·subst he
  have HF:Hid (failE 0 c=c):=rfl
  go_enter Tryz.func151,Tryz.ntmps151
  go_wp2
  go_end0
  rw[HF.out]
  exact⟨rfl,h.set1 c,Tch.setCell _ _ _ _ rfl⟩
 ·have hn:(e==0)=false:=by simpa using he
  have HF:Hid (failE e c=e):=by show _=_;unfold failE;rw[if_neg he]
  have HW:Hid (XW w b s e):=h
  go_enter Tryz.func151,Tryz.ntmps151
  go_wp2
  go_end0
  rw[HF.out]
  exact⟨rfl,HW.out,Tch.refl _ _⟩
theorem xwdone_any (b:Nat) (s:ByteArray) (e:Int) (w:World) (h:XW w b s e):
  Calls Tryz.prog 136 #[.pointer (some ⟨b,0,none⟩)] w fun x w'=>x= .returned (.tuple #[.string (if e=0 then s else⟨#[]⟩),.int .i64 e])∧Tch (fun _=>False) w w':=by
 have c0:=h.c0;have c1:=h.c1
 by_cases he:e=0
 ·subst he
  rw[if_pos rfl]
  go_enter Tryz.func136,Tryz.ntmps136
  go_wp2
  first|(go_ret2;exact⟨rfl,Tch.refl _ _⟩)|(go_quiet (fail);go_wp2;go_ret2;exact⟨rfl,(Tch.refl _ _).drewN _⟩)
 ·have hn:(e !=0)=true:=by simpa using he
  rw[if_neg he]
  go_enter Tryz.func136,Tryz.ntmps136
  go_wp2
  first|(go_ret2;exact⟨rfl,Tch.refl _ _⟩)|(go_quiet (fail);go_wp2;go_ret2;exact⟨rfl,(Tch.refl _ _).drewN _⟩)
theorem xone_any (n:Nat) (w:World) (h1:n≤255):
  Calls Tryz.prog 152 #[.int .i64 n] w fun x w'=>x= .returned (.string ⟨#[UInt8.ofNat n]⟩)∧Tch (fun _=>False) w w':=by
 have hb:(n:Int)≤255:=by omega
 have hcv:(convert 115 9 (.slice (some ⟨w.heap.size,0,none⟩) 1 1)).run Tryz.prog (w.alloc (.cells #[.int .u8 (n:Int)] 5))= .ok (.string ⟨#[UInt8.ofNat n]⟩) (w.alloc (.cells #[.int .u8 (n:Int)] 5)):=by
  have:=run_convert_bytes_back (P:=Tryz.prog) (w.alloc (.cells #[.int .u8 (n:Int)] 5)) 115 9 5 ⟨w.heap.size,0,none⟩ 1 [UInt8.ofNat n] Tryz.underlying115 Tryz.underlying5 Tryz.underlying9 (fun j hj=>by
   rcases j with _|j
   ·have e:((UInt8.ofNat n).toNat:Int)=n:=by simp;omega
    simp only[List.getElem_cons_zero]
    rw[e];simp[Addr.add]
   ·simp at hj)
  simpa using this
 go_enter Tryz.func152,Tryz.ntmps152
 go_wp2
 go_ret
 exact⟨rfl,Tch.alloc _ _ _⟩
theorem app_list (a b:List UInt8):(⟨a.toArray⟩:ByteArray)++⟨b.toArray⟩=⟨(a++b).toArray⟩:=by
 apply ByteArray.ext
 simp
theorem size_list (a:List UInt8):(⟨a.toArray⟩:ByteArray).size=a.length:=by show a.toArray.size=_;simp
theorem xdigits_any (n:Nat) (w:World) (hn:n<18446744073709551616):
  Calls Tryz.prog 153 #[.int .u64 n] w fun x w'=>x= .returned (.string ⟨(dg n).toArray⟩)∧Tch (fun _=>False) w w':=by
 go_enter Tryz.func153,Tryz.ntmps153
 go_wp2
 go_loopw [0,3] (fun v sv wr=> ∃(m f:Nat) (pre:List UInt8),v= .int .u64 m∧sv= .string ⟨pre.toArray⟩∧(m:Int)≤18446744073709551615∧f<10∧m<128 ^ (f+1)∧Hid (pre.length+(f+1)≤10)∧Hid (pre++dgf (f+1) m=dg n)∧Tch (fun _=>False) w wr) (fun v _ _=>(intOf v).toNat)
 case atStart=>exact⟨n,9,[],rfl,rfl,by omega,by omega,Nat.lt_of_lt_of_le hn (by decide),by show _≤_;simp,rfl,Tch.refl _ _⟩
 case round=>
  obtain⟨m,f,pre,rfl,rfl,hmn,hf,hm,HL,HP,hT⟩:=hrel
  obtain⟨P,hP⟩: ∃P:ByteArray,P=⟨pre.toArray⟩:=⟨_,rfl⟩
  have hps:P.size≤10:=by rw[hP,size_list];have:=HL.out;omega
  have HPe:Hid (P=⟨pre.toArray⟩):=hP
  rw[←hP]
  clear hP
  by_cases hlt128:m<128
  ·have hl: ¬(128:Int)≤m:=by omega
   have HC:Hid (P++⟨#[UInt8.ofNat m]⟩=⟨(dg n).toArray⟩):=by
    show _=_
    rw[HPe.out, ←HP.out,dgf_last hlt128, ←app_list]
   have hmi:(m:Int)≤255:=by omega
   have ho:=fun(W:World)=>xone_any m W (by omega)
   go_wp2_with fail
   refine(ho _).mono ?_
   rintro x w1 ⟨rfl,t1⟩
   have hsz:P.size+(⟨#[UInt8.ofNat m]⟩:ByteArray).size≤9223372036854775807:=by show P.size+1≤_;omega
   have hadd:=fun(W:World)=>run_string_add_sum (P:=Tryz.prog) W P ⟨#[UInt8.ofNat m]⟩ hsz
   go_wp2
   go_ret
   exact⟨ret_str HC.out,hT.trans' t1⟩
  ·have hl:(128:Int)≤m:=by omega
   obtain⟨f,rfl⟩: ∃f',f=f'+1:=by
    rcases f with _|f
    ·simp at hm;omega
    ·exact⟨f,rfl⟩
   have HM:Hid (m / 128<128 ^ (f+1)):=by
    show _<_
    rw[Nat.pow_succ] at hm
    exact Nat.div_lt_of_lt_mul (by rw[Nat.mul_comm];exact hm)
   have HA:Hid ((128:Int)+(m:Int) % 128=((m % 128+128:Nat):Int)):=by show _=_;omega
   have ho:=fun(W:World)=>xone_any (m % 128+128) W (by omega)
   rw[←HA.out] at ho
   have HP2:Hid ((pre++[UInt8.ofNat (m % 128+128)])++dgf (f+1) (m / 128)=dg n):=by
    show _=_
    rw[←HP.out,dgf_more hlt128];simp
   obtain⟨B,hB⟩: ∃B,B=UInt8.ofNat (m % 128+128):=⟨_,rfl⟩
   rw[←hB] at ho HP2
   clear hB HA
   have HC:Hid (P++⟨#[B]⟩=⟨(pre++[B]).toArray⟩):=by
    show _=_
    rw[HPe.out, ←app_list]
   go_wp2_with fail
   refine(ho _).mono ?_
   rintro x w1 ⟨rfl,t1⟩
   have hsz:P.size+(⟨#[B]⟩:ByteArray).size≤9223372036854775807:=by show P.size+1≤_;omega
   have hadd:=fun(W:World)=>run_string_add_sum (P:=Tryz.prog) W P ⟨#[B]⟩ hsz
   go_wp2
   go_roundw
   case rel=>exact⟨m / 128,f,_,by go_num,by rw[HC.out],by omega,by omega,HM.out,by have:=HL.out;show _≤_;simp;omega,HP2,hT.trans' t1⟩
   case measure=>simp[intOf];omega
end Go.Proofs.YtaiadknglhemaaaGreatDoor
