import Derived.Test.YtaiadknglhemaaaGreatDoorCLd
import Derived.Test.YtaiadknglhemaaaGreatDoorCWid
import Derived.Lib.QuietBelow
import Derived.Test.YtaiadknglhemaaaGreatDoorCName
import Derived.Test.YtaiadknglhemaaaGreatDoorOrdv
import Derived.Lib.Bytealg
import Derived.Deep.AppendLies
import Derived.Deep.RegionHeld3
import Derived.Maps.AppendAt
import Derived.Lib.BufferMore
import Derived.BigQuiet
set_option maxHeartbeats 2000000
set_option maxRecDepth 100000
namespace Go.Proofs.YtaiadknglhemaaaGreatDoor.C
open Go.RowKit
theorem load_e (s:Sk) (F:Nat→Prop) (n:Int) (w:World) (h:TL w F s.to s.P) (hp: ∀i (hi:i<s.P.length),s.P[i].1.cols.length≤9223372036854775807) (e:Int) (he:e=ldE (s.P.map Prod.fst) n):Calls Tryz.prog 237 #[.slice s.to s.P.length s.tc,.int .i64 n] w fun x w'=>(∃p,x= .returned (.tuple #[.pointer p,.int .i64 e]))∧Tch (fun _=>False) w w':=by
 refine(load_any s.P s.to s.tc F n w h hp).mono ?_
 rintro x w' ⟨⟨h1,h2⟩,t⟩
 refine⟨?_,t⟩
 by_cases h0:ldE (s.P.map Prod.fst) n=0
 ·obtain⟨d,P,tv,hx, -⟩:=h1 h0
  exact⟨_,by rw[hx,he,h0]⟩
 ·exact⟨_,by rw[h2 h0,he]⟩
theorem right_10i (r:Rc) (s:Sk) (F:Nat→Prop) (w:World) (h:RW w F r s):Calls Tryz.prog 234 #[.agg #[.int .i64 r.x,.int .i64 r.t,.slice s.to s.P.length s.tc]] w fun x w'=>EqT (rightC 10 r) w x w':=by
 obtain⟨e,he⟩: ∃e,e=ldE (s.P.map Prod.fst) r.t:=⟨_,rfl⟩
 have HQ1:Hid (∀W,Tch (fun _=>False) w W→Calls Tryz.prog 237 #[.slice s.to s.P.length s.tc,.int .i64 r.t] W fun x w'=>(∃p,x= .returned (.tuple #[.pointer p,.int .i64 e]))∧Tch (fun _=>False) W w'):=fun W t=>load_e s F r.t W (h.tbs.no t) h.pl e he
 have q2:=isNext_any r.x
 obtain⟨d,hd⟩: ∃d,d=decide (rtNx r.x):=⟨_,rfl⟩
 rw[←hd] at q2
 have HQ2:Hid _:=q2
 have HK:Hid (∀W,Tch (fun _=>False) (w.alloc (.cells #[.int .i64 r.x,.int .i64 r.t,.slice s.to s.P.length s.tc] 145)) W→W.cell? ⟨w.heap.size,0,none⟩=some (.int .i64 r.x)):=fun W t=>(t.cell (p:=⟨_,_,none⟩) (by simp) (fun h=>h)).trans (by simp)
 have HR:Hid (rightC 10 r ↔ d=true∧e=0):=by
  show rightC 10 r ↔ _
  rw[he,hd,h.eq,ldE_iff,decide_eq_true_iff]
  exact Iff.rfl
 clear h q2 hd he
 cases d
 ·go_enter Tryz.func234,Tryz.ntmps234
  go_wp2_with fail
  refine(HQ1.out _ (Tch.alloc _ _ _)).mono ?_
  rintro x w1 ⟨⟨p,rfl⟩,t1⟩
  have y0:=HK.out _ t1
  go_wp2_with fail
  refine(HQ2.out _).mono ?_
  rintro x w2 ⟨rfl,rfl⟩
  go_wp2_with fail
  go_ret
  exact eqT_no (fun e=>by have:=(HR.out.1 e).1;simp at this) ((Tch.alloc _ _ _).trans' t1)
 ·by_cases h0:e=0
  ·have H0:Hid (e=0):=h0
   subst h0
   go_enter Tryz.func234,Tryz.ntmps234
   go_wp2_with fail
   refine(HQ1.out _ (Tch.alloc _ _ _)).mono ?_
   rintro x w1 ⟨⟨p,rfl⟩,t1⟩
   have y0:=HK.out _ t1
   go_wp2_with fail
   refine(HQ2.out _).mono ?_
   rintro x w2 ⟨rfl,rfl⟩
   go_wp2_with fail
   go_ret
   exact⟨true,rfl,⟨fun _=>HR.out.2 ⟨by first|rfl|trivial,by first|rfl|trivial⟩,fun _=>rfl⟩,(Tch.alloc _ _ _).trans' t1⟩
  ·have h0b:(e==0)=false:=int_ne h0
   have HN:Hid (¬e=0):=h0
   clear h0
   go_enter Tryz.func234,Tryz.ntmps234
   go_wp2_with fail
   refine(HQ1.out _ (Tch.alloc _ _ _)).mono ?_
   rintro x w1 ⟨⟨p,rfl⟩,t1⟩
   have y0:=HK.out _ t1
   go_wp2_with fail
   refine(HQ2.out _).mono ?_
   rintro x w2 ⟨rfl,rfl⟩
   go_wp2_with fail
   go_ret
   exact eqT_no (fun e=>HN.out (HR.out.1 e).2) ((Tch.alloc _ _ _).trans' t1)
open Go Go.Sort
theorem Tch.regrown (w:World) (d:Nat) (os:Array Obj):Tch (fun _=>False) w (grow (redrawn w d) os):=Tch.of_below (below_regrown w d os) (Nat.le_refl _)
theorem regrown_calls {P:Program} {f:FuncId} {args:Array Value} {v:Value} {w:World} (h: ∀W,Tch (fun _=>False) w W→Calls P f args W fun x w'=>x= .returned v∧Tch (fun _=>False) W w') (d:Nat) (os:Array Obj):Calls P f args (grow (redrawn w d) os) fun e w''=>e= .returned v∧ ∃p:Regrown,w''=grow (redrawn w p.d) p.os:=
 Calls.regrown_of ((h _ (Tch.regrown w d os)).mono fun _ _ ⟨he,t⟩=>⟨he,t.below (Nat.le_refl _) (fun _ _ h=>h)⟩)
theorem sl_nil (W:World) (cs:List Value) (h:cs=[]):SL W none cs:=fun hc=>absurd h hc
theorem ck_nil (W:World) (F:Nat→Prop):CK W F (tb0,.slice none 0 0) none 0:=⟨rfl,sl_nil W _ rfl,fun _=>⟨rfl,rfl⟩,Nat.le_refl _,fun h=>absurd rfl h⟩
theorem tl_nil (W:World) (F:Nat→Prop):TL W F none []:=⟨sl_nil W _ rfl,fun h=>absurd rfl h,fun i hi=>by simp at hi⟩
theorem RW.cut {W:World} {F:Nat→Prop} {r:Rc} {s:Sk} (h:RW W F r s) (c:Nat):RW W F (cutC c r) (cutS c s):=by
 have hc:c=3∨c=4∨c=5∨c=8∨c=10∨c=1∨c=2∨c=6∨c=7∨c=9∨c=0∨10<c:=by omega
 have n0: ∀v∈([]:List Val),v.i64:=fun v hv=>by simp at hv
 have e0: ∀ {F:Nat→Prop},([]:List Val)≠[]→ ∀g o,(none:Option Addr)=some ⟨g,o,none⟩→ ¬F g:=fun h=>absurd rfl h
 have z0:(0:Nat)≤9223372036854775807:=Nat.zero_le _
 have p0: ∀i (hi:i<([]:List (Tbl×Value)).length),([]:List (Tbl×Value))[i].1.cols.length≤9223372036854775807:=fun i hi=>by simp at hi
 have q0: ∀k,RW W F (rc0 k) sk0:=fun k=>⟨sl_nil W _ rfl,sl_nil W _ rfl,ck_nil W F,tl_nil W F,rfl,e0,e0,n0,n0,z0,z0,z0,z0,p0⟩
 rcases hc with rfl|rfl|rfl|rfl|rfl|rfl|rfl|rfl|rfl|rfl|rfl|hc
 ·exact⟨sl_nil W _ rfl,h.n,ck_nil W F,tl_nil W F,rfl,e0,h.nnf,n0,h.ni,z0,h.nl,z0,z0,p0⟩
 ·exact⟨h.o,h.n,ck_nil W F,tl_nil W F,rfl,h.onf,h.nnf,h.oi,h.ni,h.ol,h.nl,z0,z0,p0⟩
 ·exact⟨h.o,sl_nil W _ rfl,ck_nil W F,tl_nil W F,rfl,h.onf,e0,h.oi,n0,h.ol,z0,z0,z0,p0⟩
 ·exact⟨sl_nil W _ rfl,sl_nil W _ rfl,h.tb,tl_nil W F,rfl,e0,e0,n0,n0,z0,z0,h.cl,z0,p0⟩
 ·exact⟨sl_nil W _ rfl,sl_nil W _ rfl,ck_nil W F,h.tbs,h.eq,e0,e0,n0,n0,z0,z0,z0,h.tl,h.pl⟩
 ·exact⟨sl_nil W _ rfl,sl_nil W _ rfl,ck_nil W F,tl_nil W F,rfl,e0,e0,n0,n0,z0,z0,z0,z0,p0⟩
 ·exact⟨sl_nil W _ rfl,sl_nil W _ rfl,ck_nil W F,tl_nil W F,rfl,e0,e0,n0,n0,z0,z0,z0,z0,p0⟩
 ·exact⟨sl_nil W _ rfl,sl_nil W _ rfl,ck_nil W F,tl_nil W F,rfl,e0,e0,n0,n0,z0,z0,z0,z0,p0⟩
 ·exact⟨sl_nil W _ rfl,sl_nil W _ rfl,ck_nil W F,tl_nil W F,rfl,e0,e0,n0,n0,z0,z0,z0,z0,p0⟩
 ·exact⟨sl_nil W _ rfl,sl_nil W _ rfl,ck_nil W F,tl_nil W F,rfl,e0,e0,n0,n0,z0,z0,z0,z0,p0⟩
 ·exact q0 r.k
 ·have e1:cutC c r=rc0 r.k:=by unfold cutC;split<;>first|omega|rfl
  have e2:cutS c s=sk0:=by unfold cutS;split<;>first|omega|rfl
  rw[e1,e2];exact q0 r.k
theorem eqT_true {p:Prop} {P:Program} {f:FuncId} {ar:Array Value} {W:World} (h:Calls P f ar W fun x w'=>EqT p W x w') (hp:p):Calls P f ar W fun x w'=>x= .returned (.bool true)∧Tch (fun _=>False) W w':=
 h.mono fun _ _ ⟨_,h1,h2,h3⟩=>⟨by rw[h1,h2.2 hp],h3⟩
theorem eqT_d {p:Prop} {P:Program} {f:FuncId} {ar:Array Value} {W:World} {d:Bool} (h:Calls P f ar W fun x w'=>EqT p W x w') (hd:d=true ↔ p):Calls P f ar W fun x w'=>x= .returned (.bool d)∧Tch (fun _=>False) W w':=
 h.mono fun _ _ ⟨_,h1,h2,h3⟩=>⟨by rw[h1];congr 2;rw[Bool.eq_iff_iff,h2,hd],h3⟩
end Go.Proofs.YtaiadknglhemaaaGreatDoor.C
namespace Go.Proofs.YtaiadknglhemaaaGreatDoor
open Go.RowKit
def sgn (n:Nat):UInt8:=UInt8.ofNat (if n<10 then 48+n else 87+n)
def esc (b:UInt8):List UInt8:=if b.toNat=39 then[39,39] else if b.toNat<32∨126<b.toNat∨b.toNat=92 then[92,sgn (b.toNat / 16),sgn (b.toNat % 16)] else[b]
def escs (l:List UInt8):List UInt8:=l.flatMap esc
def qtd (s:ByteArray):List UInt8:=39::(escs s.data.toList++[39])
theorem escs_snoc (l:List UInt8) (b:UInt8):escs (l++[b])=escs l++esc b:=by simp[escs]
theorem esc_len (b:UInt8):(esc b).length≤3:=by unfold esc;(repeat' split)<;>simp
theorem own_new (w:World) (bs:List UInt8) (hl:bs.length≤maxLen):(w.alloc (.cells (Lib.byteCells bs).toArray 5)).ownsRow w.heap.size 5 1 (.slice (some ⟨w.heap.size,0,none⟩) bs.length bs.length) bs.length (Lib.byteCells bs):=by
 have hb:=Lib.byteCells_length bs
 refine⟨by omega,Or.inr ⟨w.heap.size,bs.length,(Lib.byteCells bs).toArray,rfl,Nat.le_refl _,heap_new w _,Nat.le_refl _,hl,by simp[hb],?_⟩⟩
 exact List.take_of_length_le (by simp[hb])
theorem byteCells_get {W:World} {b:Nat} {l:List UInt8} (h: ∀j (hj:j<l.length),W.cell? ⟨b,j,none⟩=some (.int .u8 l[j].toNat)): ∀j u,(Lib.byteCells l)[j]? =some u→W.cell? ((⟨b,0,none⟩:Addr).add j)=some u:=by
 intro j u hu
 have hb:=Lib.byteCells_length l
 have hj:j<l.length:=by
  have:=(List.getElem?_eq_some_iff.1 hu).1
  omega
 have e:(Lib.byteCells l)[j]? =some (.int .u8 l[j].toNat):=by simp[Lib.byteCells,hj]
 rw[e] at hu
 cases hu
 have:=h j hj
 rw[←this]
 congr 1
 unfold Addr.add
 split<;>simp_all
theorem grown_tch {N:Nat} {w w1:World} {v:Value} (h:w.grownBy w1 v.ownBlock) (hg: ∀g,v.ownBlock=some g→N≤g):Tch (fun i=>N≤i) w w1:=
 ⟨h.os,h.tape,h.output,h.size,fun k hk hn=>h.block k hk (fun e=>hn (hg k e.symm))⟩
theorem quoted_plain (s:ByteArray) (w:World) (hs:s.size≤17592186044416) (hpl: ∀k (hk:k<s.size),s[k].toNat≠39∧ ¬(s[k].toNat<32∨126<s[k].toNat∨s[k].toNat=92)):
  Calls Tryz.prog 156 #[.string s] w fun x w'=>x= .returned (.string ⟨(qtd s).toArray⟩)∧Tch (fun _=>False) w w':=by
 have HP:Hid _:=hpl
 clear hpl
 obtain⟨i0,hi,hz0,hz1,hz2⟩:=info_byte'
 go_enter Tryz.func156,Tryz.ntmps156
 go_wp2_with fail
 go_loopw [3,9] (fun v i wr=> ∃(k:Nat) (bs:List UInt8),i= .int .i64 k∧k≤s.size∧Hid (bs=39::escs (s.data.toList.take k))∧bs.length≤1+3*k∧wr.ownsRow w.heap.size 5 1 v bs.length (Lib.byteCells bs)∧Tch (fun i=>w.heap.size≤i) w wr) (fun _ i _=>s.size - (intOf i).toNat)
 case atStart=>exact⟨0,[39],rfl,by omega,rfl,by simp,own_new w [39] (by decide),Tch.alloc _ _ _⟩
 case round=>
  obtain⟨k,bs,rfl,hk,HB,hbl,hown,hT⟩:=hrel
  obtain⟨ao,cp,hv⟩:=slice_of hown
  subst hv
  have HG:Hid (∀g,(Value.slice ao bs.length cp).ownBlock=some g→w.heap.size≤g):=fun g hk=>ownBlock_ge hown hk.symm
  have HO:Hid (∀W,Tch (fun _=>False) wr W→W.ownsRow w.heap.size 5 1 (.slice ao bs.length cp) bs.length (Lib.byteCells bs)):=fun W t=>ownsRow_tch hown t (fun _ _ _ h=>h)
  have hwr:=hT.size
  by_cases hlt:(k:Int)<s.size
  ·have hks:k<s.size:=by omega
   have HEnd:Hid (∀(l:List UInt8) (W w1:World) (v':Value),esc s[k]=l→w1.ownsRow w.heap.size 5 1 v' (bs.length+l.length) (Lib.byteCells bs++Lib.byteCells l)→Tch (fun _=>False) wr W→W.grownBy w1 (Value.slice ao bs.length cp).ownBlock→
     (∃(k_1:Nat) (bs_1:List UInt8),Value.int .i64 ((k:Int)+1)= .int .i64 k_1∧k_1≤s.size∧Hid (bs_1=39::escs (s.data.toList.take k_1))∧bs_1.length≤1+3*k_1∧w1.ownsRow w.heap.size 5 1 v' bs_1.length (Lib.byteCells bs_1)∧Tch (fun i=>w.heap.size≤i) w w1)∧s.size - (intOf (Value.int .i64 ((k:Int)+1))).toNat<s.size - (intOf (Value.int .i64 (k:Int))).toNat):=fun l W w1 v' he ho t hgr=>by
    have hel:=esc_len s[k]
    rw[he] at hel
    refine⟨⟨k+1,bs++l,by go_num,by omega,?_,by rw[List.length_append];omega,?_,?_⟩,by simp[intOf];omega⟩
    ·show _=_
     rw[List.take_succ_eq_append_getElem (by simpa using hks),escs_snoc,HB.out]
     show _=_::(_++esc s[k])
     rw[he];rfl
    ·rw[Lib.byteCells_append,List.length_append];exact ho
    ·exact(hT.trans' (no_mono t)).trans' (grown_tch hgr HG.out)
   have hxl:s[k].toNat≤255:=by have:=s[k].toNat_lt;omega
   obtain⟨h39,hes⟩:=HP.out k hks
   have h39': ¬(s[k].toNat:Int)=39:=by omega
   have HE:Hid (esc s[k]=[s[k]]):=by show _=_;unfold esc;rw[if_neg h39,if_neg hes]
   have c1: ¬(s[k].toNat:Int)<32:=by omega
   have c2: ¬126<(s[k].toNat:Int):=by omega
   have c3: ¬(s[k].toNat:Int)=92:=by omega
   clear h39 hown hes
   go_wp2_with (at_builtin;refine wpList_append_own _ rfl _ _ 115 rfl w.heap.size 5 i0 (.int .u8 0) 1 1 Tryz.underlying115 hi hz0 hz1 hz2 rfl (by decide) (.slice ao bs.length cp) _ _ rfl (HO.out _ (Tch.alloc _ _ _)) ⟨wr.heap.size,0,none⟩ 1 1 (Lib.byteCells [s[k]]) rfl rfl (byteCells_get (fun j hj=>by rcases j with _|j<;>simp at hj ⊢)) (Lib.byteCells_one _) (by unfold maxLen;omega) (by omega) (by simp;omega) ?_;intro v' w1 hown' hgr hnil;obtain⟨ao',cp',hv'⟩:=slice_of hown';subst hv';clear hnil)
   exact HEnd.out [s[k]] _ w1 _ HE.out hown' (Tch.alloc _ _ _) hgr
  ·have HE2:Hid (⟨(qtd s).toArray⟩=(⟨(bs++[39]).toArray⟩:ByteArray)):=by
    show _=_
    rw[HB.out,List.take_of_length_le (by simp;omega)];rfl
   clear hown
   go_wp2_with (at_builtin;refine wpList_append_own _ rfl _ _ 115 rfl w.heap.size 5 i0 (.int .u8 0) 1 1 Tryz.underlying115 hi hz0 hz1 hz2 rfl (by decide) (.slice ao bs.length cp) _ _ rfl (HO.out _ (Tch.alloc _ _ _)) ⟨wr.heap.size,0,none⟩ 1 1 (Lib.byteCells [39]) rfl rfl (byteCells_get (fun j hj=>by rcases j with _|j<;>simp at hj ⊢)) (Lib.byteCells_one _) (by unfold maxLen;omega) (by omega) (by simp;omega) ?_;intro v' w1 hown' hgr hnil;obtain⟨ao',cp',hv'⟩:=slice_of hown';subst hv';clear hnil;rw[←Lib.byteCells_append] at hown';have hcv:=conv_row (bs:=bs++[39]) (by rw[List.length_append];exact hown'))
   go_ret
   rw[HE2.out]
   exact⟨rfl,ge_new ((hT.allocR _).trans' (grown_tch hgr HG.out))⟩
def kd4 (k:Int):Int:=(if k<0 then -(k+1) else k) % 4
def cutS (s:ByteArray):ByteArray:=if 200<s.size then s.extract 0 200 else s
def rt (v:Val):Val:=if kd4 v.k=1 then⟨1,v.n,⟨#[]⟩⟩ else if kd4 v.k=2 then⟨2,0,cutS v.s⟩ else if kd4 v.k=3 then⟨3,v.n % 2,⟨#[]⟩⟩ else⟨0,0,⟨#[]⟩⟩
def rcl (l:List Val):List Value:=l.flatMap fun v=>[.int .i64 v.k,.int .i64 v.n,.string v.s]
theorem rcl_snoc (l:List Val) (v:Val):rcl (l++[v])=rcl l++[.int .i64 v.k,.int .i64 v.n,.string v.s]:=by simp[rcl]
theorem rcl_get: ∀(l:List Val) (j:Nat) (hj:j<l.length),(rcl l)[j*3]? =some (.int .i64 l[j].k)∧(rcl l)[j*3+1]? =some (.int .i64 l[j].n)∧(rcl l)[j*3+2]? =some (.string l[j].s)
 |v::l,0,_=>⟨rfl,rfl,rfl⟩
 |v::l,j+1,hj=>by
  have e:rcl (v::l)=[.int .i64 v.k,.int .i64 v.n,.string v.s]++rcl l:=rfl
  have ih:=rcl_get l j (by simpa using hj)
  rw[e,show(j+1)*3=3+j*3 by omega]
  rw[List.getElem?_append_right (by simp),List.getElem?_append_right (by simp;omega),List.getElem?_append_right (by simp;omega)]
  simp only[List.length_cons,List.length_nil,List.getElem_cons_succ]
  rw[show 3+j*3 - (0+1+1+1)=j*3 by omega,show 3+j*3+1 - (0+1+1+1)=j*3+1 by omega,show 3+j*3+2 - (0+1+1+1)=j*3+2 by omega]
  exact ih
theorem rcl_one (l:List Val): ∀u∈rcl l,u.oneCell'=true:=by
 intro u hu
 simp only[rcl,List.mem_flatMap] at hu
 obtain⟨v,_,hv⟩:=hu
 simp at hv
 rcases hv with rfl|rfl|rfl<;>rfl
theorem row_tch {S:Nat→Prop} {w w':World} {base:Nat} {t:TypeId} {sz n:Nat} {v:Value} {xs:List Value} (h:w.ownsRow base t sz v n xs) (tc:Tch S w w') (hS: ∀i,base≤i→i<w.heap.size→ ¬S i):w'.ownsRow base t sz v n xs:=by
 obtain⟨h1,h2⟩:=h
 refine⟨h1,?_⟩
 rcases h2 with h2|⟨g,cap,cur,hv,hg,hh,r⟩
 ·exact Or.inl h2
 ·exact Or.inr ⟨g,cap,cur,hv,hg,by rw[tc.block g (blk_lt hh) (hS g hg (blk_lt hh))];exact hh,r⟩
theorem row_slice {w:World} {base:Nat} {t:TypeId} {sz n:Nat} {v:Value} {xs:List Value} (h:w.ownsRow base t sz v n xs): ∃ao c,v= .slice ao n c:=by
 rcases h.2 with⟨rfl,rfl⟩|⟨g,cap,cur,rfl,hg,_⟩
 ·exact⟨_,_,rfl⟩
 ·exact⟨_,_,rfl⟩
theorem row_ge {w:World} {base:Nat} {t:TypeId} {sz n:Nat} {v:Value} {xs:List Value} (h:w.ownsRow base t sz v n xs) {k:Nat} (hk:v.ownBlock=some k):base≤k:=by
 rcases h.2 with⟨rfl,_⟩|⟨g,cap,cur,rfl,hg,_⟩
 ·cases hk
 ·simp[Value.ownBlock] at hk;omega
theorem row_at {w:World} {base:Nat} {ao:Option Addr} {c:Nat} {l:List Val} (h:w.ownsRow base 58 3 (.slice ao l.length c) l.length (rcl l)) (hl:l≠[]): ∃g,ao=some ⟨g,0,none⟩∧base≤g∧RowAt w g 0 l:=by
 rcases h.2 with⟨h1,h2⟩|⟨g,cap,cur,hv,hg,hh,hc,hm,hs,ht⟩
 ·exact absurd (List.length_eq_zero_iff.1 h2) hl
 ·simp only[Value.slice.injEq] at hv
  refine⟨g,hv.1,hg,fun j hj=>?_⟩
  obtain⟨g0,g1,g2⟩:=rcl_get l j hj
  have key: ∀i u,i<l.length*3→(rcl l)[i]? =some u→w.cell? ⟨g,0+i,none⟩=some u:=fun i u hi hu=>by
   rw[Nat.zero_add,blk_cell hh, ←Array.getElem?_toList]
   rw[←ht,List.getElem?_take_of_lt hi] at hu
   exact hu
  exact⟨key _ _ (by omega) g0,by have:=key (j*3+1) _ (by omega) g1;simpa[Nat.add_assoc] using this,by have:=key (j*3+2) _ (by omega) g2;simpa[Nat.add_assoc] using this⟩
theorem rcl_cells {W:World} {b:Nat} {v:Val} (h0:W.cell? ⟨b,0,none⟩=some (.int .i64 v.k)) (h1:W.cell? ⟨b,1,none⟩=some (.int .i64 v.n)) (h2:W.cell? ⟨b,2,none⟩=some (.string v.s)): ∀j u,(rcl [v])[j]? =some u→W.cell? ((⟨b,0,none⟩:Addr).add j)=some u:=by
 intro j u hu
 rcases j with _|_|_|j
 ·cases hu;simpa[Addr.add] using h0
 ·cases hu;simpa[Addr.add] using h1
 ·cases hu;simpa[Addr.add] using h2
 ·simp[rcl] at hu
open Go.Sort
def markV:Val:=⟨-7,0,⟨#[]⟩⟩
def lentV (l:List Val):List Val:=l++[markV,markV,markV,markV]
end Go.Proofs.YtaiadknglhemaaaGreatDoor
namespace Go.Proofs.YtaiadknglhemaaaGreatDoor
open Go.RowKit Go
section
variable {P:Program} (w:World)
end
end Go.Proofs.YtaiadknglhemaaaGreatDoor
