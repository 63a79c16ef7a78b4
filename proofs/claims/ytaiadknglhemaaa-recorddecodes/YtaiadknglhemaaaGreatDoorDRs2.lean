import Derived.Test.YtaiadknglhemaaaGreatDoorDRf
import Derived.BigQuiet
import Derived.Test.YtaiadknglhemaaaGreatDoorRVe2
import Derived.Test.YtaiadknglhemaaaGreatDoorRVb5
import Derived.Test.YtaiadknglhemaaaGreatDoorRVr8
import Derived.Test.YtaiadknglhemaaaGreatDoorRVb10
import Derived.Test.YtaiadknglhemaaaGreatDoorRV0
set_option maxHeartbeats 40000000
set_option maxRecDepth 100000
namespace Go.Proofs.YtaiadknglhemaaaGreatDoor.C
open Go.RowKit Go Go.Sort
theorem tabsL_take (L:List Tbl) (k:Nat) (hk:k<L.length):tabsL (L.take (k+1))=tabsL (L.take k)++tabL L[k]:=by
 rw[(List.take_append_getElem hk).symm]
 unfold tabsL
 rw[List.flatMap_append]
 simp
structure LK (L:List Tbl) (next:Int) (k:Nat):Prop where
 right: ∀i (hi:i<L.length),i<k→rightE L[i]=0
 ids: ∀i (hi:i<L.length),i<k→L[i].id<next
 rise: ∀i j (hi:i<L.length) (hj:j<L.length),i<j→j<k→L[i].id<L[j].id
 nms: ∀i j (hi:i<L.length) (hj:j<L.length),i<j→j<k→L[i].nm≠L[j].nm
theorem LK.zero (L:List Tbl) (next:Int):LK L next 0:=⟨fun _ _ h=>by omega,fun _ _ h=>by omega,fun _ _ _ _ _ h=>by omega,fun _ _ _ _ _ h=>by omega⟩
theorem LK.full {L:List Tbl} {next:Int} (h:LK L next L.length) (hl:L.length≤16):LDp L next:=
 ⟨hl,fun i hi=>h.right i hi hi,fun i hi=>h.ids i hi hi,fun i j hi hj hij=>h.rise i j hi hj hij hj,fun i j hi hj hij=>h.nms i j hi hj hij hj⟩
def lastK (L:List Tbl) (k:Nat):Int:=match k with
 |0=>0
 |k+1=>match L[k]? with
  |some t=>t.id
  |none=>0
theorem lastK_succ {L:List Tbl} {k:Nat} (hk:k<L.length):lastK L (k+1)=L[k].id:=by
 unfold lastK;simp only[List.getElem?_eq_getElem hk]
theorem LK.last {L:List Tbl} {next:Int} {k:Nat} (h:LK L next k) (hk:k<L.length) (hi:lastK L k<L[k].id): ∀i (hi:i<L.length),i<k→L[i].id<L[k].id:=fun i hil hik=>by
 cases k with
 |zero=>omega
 |succ m=>
  rw[lastK_succ (by omega)] at hi
  rcases Nat.lt_or_ge i m with h1|h1
  ·have:=h.rise i m hil (by omega) h1 (by omega);omega
  ·obtain rfl:i=m:=by omega
   exact hi
theorem LK.more {L:List Tbl} {next:Int} {k:Nat} (h:LK L next k) (hk:k<L.length) (h1:rightE L[k]=0) (h2:lastK L k<L[k].id) (h3:L[k].id<next) (h4: ∀i (hi:i<L.length),i<k→L[i].nm≠L[k].nm):LK L next (k+1):=by
 have hl:=h.last hk h2
 refine⟨fun i hi hik=>?_,fun i hi hik=>?_,fun i j hi hj hij hjk=>?_,fun i j hi hj hij hjk=>?_⟩
 ·rcases Nat.lt_or_ge i k with h5|h5
  ·exact h.right i hi h5
  ·obtain rfl:i=k:=by omega
   exact h1
 ·rcases Nat.lt_or_ge i k with h5|h5
  ·exact h.ids i hi h5
  ·obtain rfl:i=k:=by omega
   exact h3
 ·rcases Nat.lt_or_ge j k with h5|h5
  ·exact h.rise i j hi hj hij h5
  ·obtain rfl:j=k:=by omega
   exact hl i hi hij
 ·rcases Nat.lt_or_ge j k with h5|h5
  ·exact h.nms i j hi hj hij h5
  ·obtain rfl:j=k:=by omega
   exact h4 i hi hij
theorem LDp.low {L:List Tbl} {next:Int} (h:LDp L next) {k:Nat} (hk:k<L.length):lastK L k<L[k].id:=by
 have h1:=(right_rt (h.right k hk)).id.1
 cases k with
 |zero=>show(0:Int)<_;omega
 |succ m=>rw[lastK_succ (by omega)];exact h.rise m (m+1) (by omega) hk (by omega)
open Classical in
noncomputable def tbsB (L:List Tbl) (next:Int):ByteArray:=if LDp L next then bB (bytesL [(L.length:Int)]++tabsL L) else⟨#[]⟩
theorem rtables6 (P:List (Tbl×Value)) (tz:Option Addr) (tc:Nat) (F:Nat→Prop) (next:Int) (w:World) (h:TL w F tz P) (d:Bool) (hd:d=true ↔ LDp (P.map Prod.fst) next):
  Calls Tryz.prog 84 #[.slice tz P.length tc,.int .i64 next] w fun x w'=>x= .returned (.tuple #[.string (tbsB (P.map Prod.fst) next),.bool d])∧Tch (fun _=>False) w w':=by
 obtain⟨L,hL⟩: ∃L,L=P.map Prod.fst:=⟨_,rfl⟩
 obtain⟨n,hn⟩: ∃n,n=P.length:=⟨_,rfl⟩
 have hnL:n=L.length:=by rw[hn,hL,List.length_map]
 have HPL:Hid (∀k (hk:k<P.length), ∃hk':k<L.length,P[k].1=L[k]):=fun k hk=>by
  have hk':k<L.length:=by omega
  refine⟨hk',?_⟩
  have:L[k]? =(P.map Prod.fst)[k]? :=by rw[hL]
  rw[List.getElem?_map,List.getElem?_eq_getElem hk,List.getElem?_eq_getElem hk'] at this
  simpa using this.symm
 rw[←hL] at hd ⊢
 obtain⟨B,hB⟩: ∃B,B=tbsB L next:=⟨_,rfl⟩
 have HNO:Hid (¬LDp L next→d=false∧B=⟨#[]⟩):=fun hn=>⟨by rw[←Bool.not_eq_true];intro e;exact hn (hd.1 e),by rw[hB];exact if_neg hn⟩
 have HYES:Hid (LDp L next→d=true∧B=bB (bytesL [(n:Int)]++tabsL L)):=fun hy=>⟨hd.2 hy,by rw[hB,hnL];exact if_pos hy⟩
 have HTL:Hid (∀W,Tch (fun _=>False) w W→TL W F tz P):=fun W t=>h.no t
 rw[←hB, ←hn]
 have HN:Hid (n=P.length∧n=L.length):=⟨hn,hnL⟩
 clear hd h hB hn hnL hL
 by_cases h16:16<(n:Int)
 ·obtain⟨rfl,rfl⟩:=HNO.out (fun hl=>by have:=hl.len;have:=HN.out.2;omega)
  go_enter Tryz.func84,Tryz.ntmps84
  go_wp2_with fail
  go_ret2
  exact⟨rfl,Tch.refl _ _⟩
 have q0:=rnum_ok (n:Int) (by omega) (by omega) w
 obtain⟨NM,hNM⟩: ∃NM,NM=bB (bytesL [(n:Int)]):=⟨_,rfl⟩
 rw[←hNM] at q0
 have HNM:Hid (bl NM=bytesL [(n:Int)]∧NM.size=1):=⟨by rw[hNM,bl_bB],by rw[hNM,size_bB];rfl⟩
 clear hNM
 go_enter Tryz.func84,Tryz.ntmps84
 go_wp2_with fail
 refine q0.mono ?_
 rintro x w1 ⟨rfl,t1⟩
 have HT1:Hid (Tch (fun _=>False) w w1):=t1
 clear q0 t1
 go_wp2_with fail
 go_loopw [6,7,8] (fun s la i wr=> ∃(S:ByteArray) (k:Nat),s= .string S∧la= .int .i64 (lastK L k)∧i= .int .i64 k∧k≤n∧Hid (bl S=bytesL [(n:Int)]++tabsL (L.take k))∧S.size≤1+400*k∧Hid (LK L next k)∧Hid (Tch (fun _=>False) w wr)) (fun _ _ i _=>n - (intOf i).toNat)
 case atStart=>exact⟨NM,0,rfl,rfl,rfl,Nat.zero_le _,by show bl NM=_;rw[HNM.out.1];simp[tabsL],by rw[HNM.out.2];omega,LK.zero L next,HT1⟩
 case round=>
  obtain⟨S,k,rfl,rfl,rfl,hk,HS,hsz,HLK,HT⟩:=hrel
  clear HT1 HNM
  by_cases hlt:(k:Int)<n
  ·have hkP:k<P.length:=by have:=HN.out.1;omega
   have hkL:k<L.length:=by have:=HN.out.2;omega
   have hTL:=HTL.out wr HT.out
   obtain⟨g,o,rfl,c0,c1,c2,c3,c4⟩:=hTL.at k hkP
   obtain⟨co,cc,hck⟩:=hTL.col k hkP
   obtain⟨hk9,hpl⟩:=HPL.out k hkP
   obtain⟨p,hp⟩: ∃p,p=P[k]:=⟨_,rfl⟩
   rw[←hp] at c0 c1 c2 c3 c4 hck hpl
   rw[hck.eq] at c3
   obtain⟨x,hx⟩: ∃x,x=p.1:=⟨_,rfl⟩
   rw[←hx] at c0 c1 c2 c3 c4 hpl
   have hcs:SL wr co (ccl x.cols):=by rw[hx];exact hck.sl
   have HX:Hid (x=L[k]):=hpl
   obtain⟨la,hla⟩: ∃la,la=lastK L k:=⟨_,rfl⟩
   rw[←hla]
   have HLA:Hid (la=lastK L k):=hla
   by_cases hr:rightE x=0
   ·have q1:=rtable_ok x co cc wr hcs hr
    have hrt:=right_rt hr
    have hi1:=hrt.id
    obtain⟨TB,hTB⟩: ∃TB,TB=bB (tabL x):=⟨_,rfl⟩
    rw[←hTB] at q1
    have s1:TB.size≤300:=by rw[hTB,size_bB];exact tabL_len6 hrt
    have HBB:Hid (bl (S++TB)=bytesL [(n:Int)]++tabsL (L.take (k+1))):=by
     show bl _=_
     rw[bl_app,HS.out,hTB,bl_bB,tabsL_take L k hkL,HX.out,List.append_assoc]
    have HR:Hid (rightE L[k]=0):=by show _=_;rw[←HX.out];exact hr
    clear hTB hr hrt hcs hck hp hpl hx hla hTL HS
    by_cases h1:x.id≤la
    ·obtain⟨rfl,rfl⟩:=HNO.out (fun hl=>by have:=hl.low hkL;rw[←HX.out, ←HLA.out] at this;omega)
     clear HNO HYES
     go_wp2_with fail
     refine q1.mono ?_
     rintro y w2 ⟨rfl,t2⟩
     have z0:w2.cell? ⟨g,o+k*5,none⟩=some (.int .i64 x.id):=(t2.cell (p:=⟨_,_,none⟩) (cell_lt c0) (fun h=>h)).trans c0
     clear q1 c0 c1 c2 c3 c4
     go_wp2_with fail
     go_ret2
     exact⟨rfl,HT.out.trans' t2⟩
    by_cases h2:next≤x.id
    ·obtain⟨rfl,rfl⟩:=HNO.out (fun hl=>by have:=hl.ids k hkL;rw[←HX.out] at this;omega)
     clear HNO HYES
     go_wp2_with fail
     refine q1.mono ?_
     rintro y w2 ⟨rfl,t2⟩
     have z0:w2.cell? ⟨g,o+k*5,none⟩=some (.int .i64 x.id):=(t2.cell (p:=⟨_,_,none⟩) (cell_lt c0) (fun h=>h)).trans c0
     clear q1 c0 c1 c2 c3 c4
     go_wp2_with fail
     go_ret2
     exact⟨rfl,HT.out.trans' t2⟩
    go_wp2_with fail
    refine q1.mono ?_
    rintro y w2 ⟨rfl,t2⟩
    have z0:w2.cell? ⟨g,o+k*5,none⟩=some (.int .i64 x.id):=(t2.cell (p:=⟨_,_,none⟩) (cell_lt c0) (fun h=>h)).trans c0
    have z2:w2.cell? ⟨g,o+k*5+2,none⟩=some (.string x.nm):=(t2.cell (p:=⟨_,_,none⟩) (cell_lt c2) (fun h=>h)).trans c2
    have HT2:Hid (Tch (fun _=>False) w w2):=HT.out.trans' t2
    clear q1 c0 c1 c2 c3 c4 t2
    go_wp2_with fail
    obtain⟨wO,hwO⟩: ∃wO,wO=wr:=⟨_,rfl⟩
    have HZ:Hid (∀W,Tch (fun _=>False) w2 W→W.cell? ⟨g,o+k*5,none⟩=some (.int .i64 x.id)∧W.cell? ⟨g,o+k*5+2,none⟩=some (.string x.nm)):=fun W t=>⟨(t.cell (p:=⟨_,_,none⟩) (cell_lt z0) (fun h=>h)).trans z0,(t.cell (p:=⟨_,_,none⟩) (cell_lt z2) (fun h=>h)).trans z2⟩
    have hgo:=cell_lt z0
    clear z0 z2
    subst hwO
    go_loopw [11] (fun j wq=> ∃m:Nat,j= .int .i64 m∧m≤k∧Hid (∀i (hi:i<L.length),i<m→L[i].nm≠L[k].nm)∧Hid (Tch (fun _=>False) w2 wq)) (fun j _=>k - (intOf j).toNat)
    case atStart=>exact⟨0,rfl,Nat.zero_le _,fun _ _ h=>by omega,Tch.refl _ _⟩
    case round=>
     obtain⟨m,rfl,hm,HM,HT3⟩:=hrel
     by_cases hmk:(m:Int)<k
     ·have hmP:m<P.length:=by omega
      have hmL:m<L.length:=by omega
      have hTL:=HTL.out wr (HT2.out.trans' HT3.out)
      obtain⟨g',o',e',d0,d1,d2,d3,d4⟩:=hTL.at m hmP
      obtain⟨rfl,rfl⟩:g=g'∧o=o':=by
       injection e' with e';injection e' with e1 e2;exact⟨e1,e2⟩
      obtain⟨hm9,hml⟩:=HPL.out m hmP
      rw[hml] at d2
      obtain⟨-,z2⟩:=HZ.out wr HT3.out
      obtain⟨u,hu⟩: ∃u,u=L[m].nm:=⟨_,rfl⟩
      rw[←hu] at d2
      clear hTL d0 d1 d3 d4 e' hml
      by_cases he:u=x.nm
      ·obtain⟨rfl,rfl⟩:=HNO.out (fun hl=>hl.nms m k hmL hkL (by omega) (by rw[←hu,he,HX.out]))
       have heq:(u.toList==x.nm.toList)=true:=by rw[he];simp
       clear HNO HYES he hu
       go_wp2_with fail
       go_quiet (fail)
       go_wp2_with fail
       go_ret2
       exact⟨rfl,(HT2.out.trans' HT3.out).drewN _⟩
      ·have HM2:Hid (∀i (hi:i<L.length),i<m+1→L[i].nm≠L[k].nm):=fun i hi him=>by
        rcases Nat.lt_or_ge i m with h5|h5
        ·exact HM.out i hi h5
        ·obtain rfl:i=m:=by omega
         rw[←hu, ←HX.out];exact he
       have heq:(u.toList==x.nm.toList)=false:=str_ne he
       clear he hu HM
       go_wp2_with fail
       go_quiet (fail)
       go_wp2_with fail
       go_roundw
       case rel=>exact⟨m+1,by go_num,by omega,HM2,HT3.out.drewN _⟩
       case measure=>simp[intOf];omega
     ·obtain rfl:m=k:=by omega
      obtain⟨z0, -⟩:=HZ.out wr HT3.out
      have HL2:Hid (LK L next (m+1)):=HLK.out.more hkL HR.out (by rw[←HX.out, ←HLA.out];omega) (by rw[←HX.out];omega) HM.out
      have HLS:Hid (lastK L (m+1)=x.id):=by show _=_;rw[lastK_succ hkL,HX.out]
      have HT4:Hid (Tch (fun _=>False) w wr):=HT2.out.trans' HT3.out
      clear HM HT3 HZ
      go_wp2_with fail
      go_roundw
      case rel=>exact⟨_,m+1,rfl,by rw[HLS.out],by go_num,by omega,HBB,by rw[size_app];omega,HL2,HT4⟩
      case measure=>simp[intOf];omega
   ·have q1:=rtable_no x co cc wr hcs hr
    obtain⟨rfl,rfl⟩:=HNO.out (fun hl=>hr (by rw[HX.out];exact hl.right k hkL))
    clear hr hcs hck hp hpl hx hla hTL HS HNO HYES
    go_wp2_with fail
    refine q1.mono ?_
    rintro y w2 ⟨rfl,t2⟩
    clear q1 c0 c1 c2 c3 c4
    go_wp2_with fail
    go_ret2
    exact⟨rfl,HT.out.trans' t2⟩
  ·obtain rfl:k=n:=by omega
   have HF:Hid (LDp L next):=by
    have:=HLK.out
    rw[HN.out.2] at this
    exact this.full (by have:=HN.out.2;omega)
   obtain⟨rfl,HB⟩:=HYES.out HF.out
   have HSB:Hid (S=B):=by
    show S=B
    rw[HB]
    apply bB_of
    rw[HS.out,List.take_of_length_le]
    have:=HN.out.2;omega
   clear HB HS HNO HYES HLK HF
   go_wp2_with fail
   go_ret2
   exact⟨by rw[←HSB.out];rfl,HT.out⟩
def RR (r:Rc):Prop:=rightC (cls r.k) r∧r=cutC (cls r.k) r
def errR (r:Rc):Int:=if cls r.k=0 then 60 else 61
theorem rightBody_0 (r:Rc) (s:Sk) (w:World) (hk:cls r.k=0):Calls Tryz.prog 30 #[rV r s] w fun x w'=>x= .returned (.tuple #[.nilIface,.int .i64 60])∧Tch (fun _=>False) w w':=by
 have q:=fun W=>bodyOf_any r s W
 rw[hk] at q
 have HQ:Hid (∀W,Calls Tryz.prog 36 #[rV r s] W fun x w'=>x= .returned .nilIface∧Tch (fun _=>False) W w'):=q
 clear q hk
 go_enter Tryz.func30,Tryz.ntmps30
 go_wp2_with fail
 refine(HQ.out _).mono ?_
 rintro x w1 ⟨rfl,t1⟩
 go_wp2_with fail
 go_ret2
 exact⟨rfl,(Tch.alloc _ _ _).trans' t1⟩
theorem rightBody_no (r:Rc) (s:Sk) (F:Nat→Prop) (w:World) (hg:HE w) (h:RW w F r s) (hn: ¬RR r):Calls Tryz.prog 30 #[rV r s] w fun x w'=>x= .returned (.tuple #[.nilIface,.int .i64 (errR r)])∧Tch (fun _=>False) w w':=by
 classical
 unfold errR
 rcases cls_rng r.k with h0|⟨_,_,h1,h2⟩
 ·rw[if_pos h0];exact rightBody_0 r s w h0
 ·obtain⟨c,hcc⟩: ∃c,cls r.k=c:=⟨_,rfl⟩
  unfold RR at hn
  rw[hcc] at hn h1 h2 ⊢
  rw[if_neg (by omega)]
  obtain⟨d1,hd1⟩: ∃d1,d1=decide (rightC c r):=⟨_,rfl⟩
  obtain⟨d2,hd2⟩: ∃d2,d2=decide (r=cutC c r):=⟨_,rfl⟩
  have e1:d1=true ↔ rightC c r:=by rw[hd1];exact decide_eq_true_iff
  have e2:d2=true ↔ r=cutC c r:=by rw[hd2];exact decide_eq_true_iff
  have e3:(d1 && d2)=false:=by
   rw[Bool.eq_false_iff]
   intro e
   rw[Bool.and_eq_true] at e
   exact hn ⟨e1.1 e.1,e2.1 e.2⟩
  clear hd1 hd2
  have hc0:c=1∨c=2∨c=3∨c=4∨c=5∨c=6∨c=7∨c=8∨c=9∨c=10:=by omega
  rcases hc0 with rfl|rfl|rfl|rfl|rfl|rfl|rfl|rfl|rfl|rfl
  ·have:=rightB_1 r s F w hg h hcc d1 d2 e1 e2
   rw[e3] at this
   exact this
  ·have:=rightB_2 r s F w hg h hcc d1 d2 e1 e2
   rw[e3] at this
   exact this
  ·have:=rightB_3 r s F w hg h hcc d1 d2 e1 e2
   rw[e3] at this
   exact this
  ·have:=rightB_4 r s F w hg h hcc d1 d2 e1 e2
   rw[e3] at this
   exact this
  ·have:=rightB_5 r s F w hg h hcc d1 d2 e1 e2
   rw[e3] at this
   exact this
  ·have:=rightB_6 r s F w hg h hcc d1 d2 e1 e2
   rw[e3] at this
   exact this
  ·have:=rightB_7 r s F w hg h hcc d1 d2 e1 e2
   rw[e3] at this
   exact this
  ·have:=rightB_8 r s F w hg h hcc d1 d2 e1 e2
   rw[e3] at this
   exact this
  ·have:=rightB_9 r s F w hg h hcc d1 d2 e1 e2
   rw[e3] at this
   exact this
  ·have:=rightB_10 r s F w hg h hcc d1 d2 e1 e2
   rw[e3] at this
   exact this
theorem encode_no (r:Rc) (s:Sk) (F:Nat→Prop) (w:World) (hg:HE w) (h:RW w F r s) (hn: ¬RR r):Calls Tryz.prog 13 #[rV r s] w fun x w'=>x= .returned (.tuple #[.string ⟨#[]⟩,.int .i64 (errR r)])∧Tch (fun _=>False) w w':=by
 have HQ:Hid (∀W,Tch (fun _=>False) w W→Calls Tryz.prog 30 #[rV r s] W fun x w'=>x= .returned (.tuple #[.nilIface,.int .i64 (errR r)])∧Tch (fun _=>False) W w'):=fun W t=>rightBody_no r s F W (hg.tch t (fun h=>h)) (h.no t) hn
 have he:(errR r==0)=false:=by unfold errR;split<;>rfl
 obtain⟨e,hE⟩: ∃e,e=errR r:=⟨_,rfl⟩
 rw[←hE] at HQ he ⊢
 clear hE h hg hn
 go_enter Tryz.func13,Tryz.ntmps13
 go_wp2_with fail
 refine(HQ.out _ (Tch.alloc _ _ _)).mono ?_
 rintro x w1 ⟨rfl,t1⟩
 go_wp2_with fail
 go_ret2
 exact⟨rfl,(Tch.alloc _ _ _).trans' t1⟩
end Go.Proofs.YtaiadknglhemaaaGreatDoor.C
namespace Go.Proofs.YtaiadknglhemaaaGreatDoor.C
open Go.RowKit
theorem cut_iff_1 (r:Rc) (s:Sk) (he:s.P.map Prod.fst=r.tbs):r=cutC 1 r ↔ r.p=0∧r.t=0∧r.o.length=0∧r.n.length=0∧r.nm.size=0∧r.org=0∧r.tb=tb0∧s.P.length=0:=by
 have hl:s.P.length=r.tbs.length:=by rw[←he,List.length_map]
 obtain⟨k,x,p,t,o,n,nm,org,tb,tbs⟩:=r
 simp only at hl
 rw[hl]
 simp only[cutC,rc0,Rc.mk.injEq,List.length_eq_zero_iff]
 have hz:nm=⟨#[]⟩ ↔ nm.size=0:=⟨fun h=>by rw[h];rfl,emp_eq⟩
 rw[hz]
 constructor
 ·rintro⟨-, -,gp,gt,go,gw,gn,gg,ga,gl⟩
  exact⟨gp,gt,go,gw,gn,gg,ga,gl⟩
 ·rintro⟨gp,gt,go,gw,gn,gg,ga,gl⟩
  refine⟨?_,?_,?_,?_,?_,?_,?_,?_,?_,?_⟩<;>first|trivial|rfl|assumption
theorem spare_1 (r:Rc) (s:Sk) (w:World) (he:s.P.map Prod.fst=r.tbs):Calls Tryz.prog 46 #[rV r s,.string (wordC 1)] w fun x w'=>EqT (¬r=cutC 1 r) w x w':=by
 have HC:Hid (r=cutC 1 r ↔ r.p=0∧r.t=0∧r.o.length=0∧r.n.length=0∧r.nm.size=0∧r.org=0∧r.tb=tb0∧s.P.length=0):=cut_iff_1 r s he
 obtain⟨wd,hwd⟩: ∃wd,wd=wordC 1:=⟨_,rfl⟩
 have Hx:Hid (∀W,Calls Tryz.prog 75 #[.string wd,.int .u8 120] W fun x w'=>x= .returned (.bool true)∧w'=W):=fun W=>by rw[hwd];exact has6 (wordC 1) (by decide) 120 (by decide) W
 have Hp:Hid (∀W,Calls Tryz.prog 75 #[.string wd,.int .u8 112] W fun x w'=>x= .returned (.bool false)∧w'=W):=fun W=>by rw[hwd];exact has6 (wordC 1) (by decide) 112 (by decide) W
 have Ht:Hid (∀W,Calls Tryz.prog 75 #[.string wd,.int .u8 116] W fun x w'=>x= .returned (.bool false)∧w'=W):=fun W=>by rw[hwd];exact has6 (wordC 1) (by decide) 116 (by decide) W
 have Hu:Hid (∀W,Calls Tryz.prog 75 #[.string wd,.int .u8 117] W fun x w'=>x= .returned (.bool false)∧w'=W):=fun W=>by rw[hwd];exact has6 (wordC 1) (by decide) 117 (by decide) W
 have Ho:Hid (∀W,Calls Tryz.prog 75 #[.string wd,.int .u8 111] W fun x w'=>x= .returned (.bool false)∧w'=W):=fun W=>by rw[hwd];exact has6 (wordC 1) (by decide) 111 (by decide) W
 have Hw:Hid (∀W,Calls Tryz.prog 75 #[.string wd,.int .u8 119] W fun x w'=>x= .returned (.bool false)∧w'=W):=fun W=>by rw[hwd];exact has6 (wordC 1) (by decide) 119 (by decide) W
 have Hc:Hid (∀W,Calls Tryz.prog 75 #[.string wd,.int .u8 99] W fun x w'=>x= .returned (.bool false)∧w'=W):=fun W=>by rw[hwd];exact has6 (wordC 1) (by decide) 99 (by decide) W
 have Hm:Hid (∀W,Calls Tryz.prog 75 #[.string wd,.int .u8 109] W fun x w'=>x= .returned (.bool false)∧w'=W):=fun W=>by rw[hwd];exact has6 (wordC 1) (by decide) 109 (by decide) W
 have Ha:Hid (∀W,Calls Tryz.prog 75 #[.string wd,.int .u8 97] W fun x w'=>x= .returned (.bool false)∧w'=W):=fun W=>by rw[hwd];exact has6 (wordC 1) (by decide) 97 (by decide) W
 have Hl:Hid (∀W,Calls Tryz.prog 75 #[.string wd,.int .u8 108] W fun x w'=>x= .returned (.bool false)∧w'=W):=fun W=>by rw[hwd];exact has6 (wordC 1) (by decide) 108 (by decide) W
 rw[←hwd]
 have HB:Hid (∀W,Calls Tryz.prog 76 #[tA r.tb.id r.tb.ver r.tb.nm (.slice s.co r.tb.cols.length s.cc) r.tb.key] W fun x w'=>EqT (r.tb=tb0) W x w'):=fun W=>bare6 r.tb s.co s.cc W
 obtain⟨no,eno⟩: ∃no:Nat,no=r.o.length:=⟨_,rfl⟩
 obtain⟨nn,enn⟩: ∃nn:Nat,nn=r.n.length:=⟨_,rfl⟩
 obtain⟨nt,ent⟩: ∃nt:Nat,nt=s.P.length:=⟨_,rfl⟩
 rw[rV, ←eno, ←enn, ←ent]
 rw[←eno, ←enn, ←ent] at HC
 have HC:Hid (r=cutC 1 r ↔ r.p=0∧r.t=0∧no=0∧nn=0∧r.nm.size=0∧r.org=0∧r.tb=tb0∧nt=0):=HC
 have HK:Hid (∀W,Tch (fun _=>False) (w.alloc (.cells #[.int .i64 r.k,.int .i64 r.x,.int .i64 r.p,.int .i64 r.t,.slice s.oo no s.oc,.slice s.no nn s.nc,.string r.nm,.int .i64 r.org,.int .i64 r.tb.id,.int .i64 r.tb.ver,.string r.tb.nm,.slice s.co r.tb.cols.length s.cc,.int .i64 r.tb.key,.slice s.to nt s.tc] 37)) W→W.heap[w.heap.size]? =some (.cells #[.int .i64 r.k,.int .i64 r.x,.int .i64 r.p,.int .i64 r.t,.slice s.oo no s.oc,.slice s.no nn s.nc,.string r.nm,.int .i64 r.org,.int .i64 r.tb.id,.int .i64 r.tb.ver,.string r.tb.nm,.slice s.co r.tb.cols.length s.cc,.int .i64 r.tb.key,.slice s.to nt s.tc] 37 (0,0))):=fun W t=>(t.block _ (by simp) (fun h=>h)).trans (heap_new w _)
 clear hwd he eno enn ent
 go_enter Tryz.func46,Tryz.ntmps46
 go_wp2_with fail
 refine(Hx.out _).mono ?_
 rintro x w1 ⟨rfl,hw1⟩
 obtain rfl:=hw1.symm
 clear hw1 Hx
 go_wp2_with fail
 refine(Hp.out _).mono ?_
 rintro x w1 ⟨rfl,hw1⟩
 obtain rfl:=hw1.symm
 clear hw1 Hp
 go_wp2_with fail
 refine(Ht.out _).mono ?_
 rintro x w1 ⟨rfl,hw1⟩
 obtain rfl:=hw1.symm
 clear hw1 Ht
 go_wp2_with fail
 refine(Hu.out _).mono ?_
 rintro x w1 ⟨rfl,hw1⟩
 obtain rfl:=hw1.symm
 clear hw1 Hu
 go_wp2_with fail
 refine(Ho.out _).mono ?_
 rintro x w1 ⟨rfl,hw1⟩
 obtain rfl:=hw1.symm
 clear hw1 Ho
 go_wp2_with fail
 refine(Hw.out _).mono ?_
 rintro x w1 ⟨rfl,hw1⟩
 obtain rfl:=hw1.symm
 clear hw1 Hw
 go_wp2_with fail
 refine(Hc.out _).mono ?_
 rintro x w1 ⟨rfl,hw1⟩
 obtain rfl:=hw1.symm
 clear hw1 Hc
 go_wp2_with fail
 refine(Hm.out _).mono ?_
 rintro x w1 ⟨rfl,hw1⟩
 obtain rfl:=hw1.symm
 clear hw1 Hm
 go_wp2_with fail
 refine(Ha.out _).mono ?_
 rintro x w1 ⟨rfl,hw1⟩
 obtain rfl:=hw1.symm
 clear hw1 Ha
 go_wp2_with fail
 refine(Hl.out _).mono ?_
 rintro x w1 ⟨rfl,hw1⟩
 obtain rfl:=hw1.symm
 clear hw1 Hl
 go_wp2_with fail
 refine(HB.out _).mono ?_
 rintro x w1 ⟨bt,rfl,hbt,t1⟩
 have HBT:Hid (bt=true ↔ r.tb=tb0):=hbt
 have T1:Tch (fun _=>False) w w1:=(Tch.alloc _ _ _).trans' t1
 have HT1:Hid (Tch (fun _=>False) w w1):=T1
 have b1:=HK.out w1 t1
 have y1:=blk_cell b1 1
 have y2:=blk_cell b1 2
 have y3:=blk_cell b1 3
 have y4:=blk_cell b1 4
 have y5:=blk_cell b1 5
 have y6:=blk_cell b1 6
 have y7:=blk_cell b1 7
 have y13:=blk_cell b1 13
 simp only[List.getElem?_toArray,List.getElem?_cons_succ,List.getElem?_cons_zero] at y1 y2 y3 y4 y5 y6 y7 y13
 clear b1 hbt t1 T1 HB HK
 go_simp
 iterate 8 (first|go_values|go_skip|go_guarded|go_step|go_upon|go_in|go_back)
 dsimp only[List.append]
 by_cases hp:r.p=0
 rotate_left
 ·have ep:(r.p !=0)=true:=by simpa using hp
  have HN:Hid (¬r.p=0):=hp
  clear hp
  go_wp2
  go_ret
  exact⟨true,rfl,⟨fun _=>fun h=>HN.out (HC.out.1 h).1,fun _=>rfl⟩,HT1.out⟩
 have ep:(r.p !=0)=false:=by rw[hp];rfl
 have Zp:Hid (r.p=0):=hp
 clear hp
 by_cases ht:r.t=0
 rotate_left
 ·have et:(r.t !=0)=true:=by simpa using ht
  have HN:Hid (¬r.t=0):=ht
  clear ht
  go_wp2
  go_ret
  exact⟨true,rfl,⟨fun _=>fun h=>HN.out (HC.out.1 h).2.1,fun _=>rfl⟩,HT1.out⟩
 have et:(r.t !=0)=false:=by rw[ht];rfl
 have Zt:Hid (r.t=0):=ht
 clear ht
 by_cases ho:no=0
 rotate_left
 ·have eo:0<no:=by omega
  have eo2:(0:Int)<(no:Int):=by omega
  have HN:Hid (¬no=0):=ho
  clear ho
  go_wp2
  go_ret
  exact⟨true,rfl,⟨fun _=>fun h=>HN.out (HC.out.1 h).2.2.1,fun _=>rfl⟩,HT1.out⟩
 subst ho
 by_cases hw:nn=0
 rotate_left
 ·have ew:0<nn:=by omega
  have ew2:(0:Int)<(nn:Int):=by omega
  have HN:Hid (¬nn=0):=hw
  clear hw
  go_wp2
  go_ret
  exact⟨true,rfl,⟨fun _=>fun h=>HN.out (HC.out.1 h).2.2.2.1,fun _=>rfl⟩,HT1.out⟩
 subst hw
 by_cases hn:r.nm.size=0
 rotate_left
 ·have en:r.nm.toList.isEmpty=false:=nonempty_of_size (r:=r.nm) (by omega)
  have HN:Hid (¬r.nm.size=0):=hn
  clear hn
  go_wp2
  go_ret
  exact⟨true,rfl,⟨fun _=>fun h=>HN.out (HC.out.1 h).2.2.2.2.1,fun _=>rfl⟩,HT1.out⟩
 have en:r.nm.toList.isEmpty=true:=empty_of_size hn
 have Zn:Hid (r.nm.size=0):=hn
 clear hn
 by_cases hg:r.org=0
 rotate_left
 ·have eg:(r.org !=0)=true:=by simpa using hg
  have HN:Hid (¬r.org=0):=hg
  clear hg
  go_wp2
  go_ret
  exact⟨true,rfl,⟨fun _=>fun h=>HN.out (HC.out.1 h).2.2.2.2.2.1,fun _=>rfl⟩,HT1.out⟩
 have eg:(r.org !=0)=false:=by rw[hg];rfl
 have Zg:Hid (r.org=0):=hg
 clear hg
 cases bt
 ·have HN:Hid (¬r.tb=tb0):=fun h=>by have:=HBT.out.2 h;simp at this
  clear HBT
  go_wp2
  go_ret
  exact⟨true,rfl,⟨fun _=>fun h=>HN.out (HC.out.1 h).2.2.2.2.2.2.1,fun _=>rfl⟩,HT1.out⟩
 have Za:Hid (r.tb=tb0):=HBT.out.1 (by first|rfl|trivial)
 clear HBT
 by_cases hl:nt=0
 rotate_left
 ·have el:0<nt:=by omega
  have el2:(0:Int)<(nt:Int):=by omega
  have HN:Hid (¬nt=0):=hl
  clear hl
  go_wp2
  go_ret
  exact⟨true,rfl,⟨fun _=>fun h=>HN.out (HC.out.1 h).2.2.2.2.2.2.2,fun _=>rfl⟩,HT1.out⟩
 subst hl
 go_wp2
 go_ret
 exact⟨false,rfl,⟨fun h=>by simp at h,fun h=>absurd (HC.out.2 ⟨Zp.out,Zt.out,by first|rfl|trivial,by first|rfl|trivial,Zn.out,Zg.out,Za.out,by first|rfl|trivial⟩) h⟩,HT1.out⟩
theorem cut_iff_2 (r:Rc) (s:Sk) (he:s.P.map Prod.fst=r.tbs):r=cutC 2 r ↔ r.t=0∧r.o.length=0∧r.n.length=0∧r.nm.size=0∧r.org=0∧r.tb=tb0∧s.P.length=0:=by
 have hl:s.P.length=r.tbs.length:=by rw[←he,List.length_map]
 obtain⟨k,x,p,t,o,n,nm,org,tb,tbs⟩:=r
 simp only at hl
 rw[hl]
 simp only[cutC,rc0,Rc.mk.injEq,List.length_eq_zero_iff]
 have hz:nm=⟨#[]⟩ ↔ nm.size=0:=⟨fun h=>by rw[h];rfl,emp_eq⟩
 rw[hz]
 constructor
 ·rintro⟨-, -, -,gt,go,gw,gn,gg,ga,gl⟩
  exact⟨gt,go,gw,gn,gg,ga,gl⟩
 ·rintro⟨gt,go,gw,gn,gg,ga,gl⟩
  refine⟨?_,?_,?_,?_,?_,?_,?_,?_,?_,?_⟩<;>first|trivial|rfl|assumption
theorem spare_2 (r:Rc) (s:Sk) (w:World) (he:s.P.map Prod.fst=r.tbs):Calls Tryz.prog 46 #[rV r s,.string (wordC 2)] w fun x w'=>EqT (¬r=cutC 2 r) w x w':=by
 have HC:Hid (r=cutC 2 r ↔ r.t=0∧r.o.length=0∧r.n.length=0∧r.nm.size=0∧r.org=0∧r.tb=tb0∧s.P.length=0):=cut_iff_2 r s he
 obtain⟨wd,hwd⟩: ∃wd,wd=wordC 2:=⟨_,rfl⟩
 have Hx:Hid (∀W,Calls Tryz.prog 75 #[.string wd,.int .u8 120] W fun x w'=>x= .returned (.bool true)∧w'=W):=fun W=>by rw[hwd];exact has6 (wordC 2) (by decide) 120 (by decide) W
 have Hp:Hid (∀W,Calls Tryz.prog 75 #[.string wd,.int .u8 112] W fun x w'=>x= .returned (.bool true)∧w'=W):=fun W=>by rw[hwd];exact has6 (wordC 2) (by decide) 112 (by decide) W
 have Ht:Hid (∀W,Calls Tryz.prog 75 #[.string wd,.int .u8 116] W fun x w'=>x= .returned (.bool false)∧w'=W):=fun W=>by rw[hwd];exact has6 (wordC 2) (by decide) 116 (by decide) W
 have Hu:Hid (∀W,Calls Tryz.prog 75 #[.string wd,.int .u8 117] W fun x w'=>x= .returned (.bool false)∧w'=W):=fun W=>by rw[hwd];exact has6 (wordC 2) (by decide) 117 (by decide) W
 have Ho:Hid (∀W,Calls Tryz.prog 75 #[.string wd,.int .u8 111] W fun x w'=>x= .returned (.bool false)∧w'=W):=fun W=>by rw[hwd];exact has6 (wordC 2) (by decide) 111 (by decide) W
 have Hw:Hid (∀W,Calls Tryz.prog 75 #[.string wd,.int .u8 119] W fun x w'=>x= .returned (.bool false)∧w'=W):=fun W=>by rw[hwd];exact has6 (wordC 2) (by decide) 119 (by decide) W
 have Hc:Hid (∀W,Calls Tryz.prog 75 #[.string wd,.int .u8 99] W fun x w'=>x= .returned (.bool false)∧w'=W):=fun W=>by rw[hwd];exact has6 (wordC 2) (by decide) 99 (by decide) W
 have Hm:Hid (∀W,Calls Tryz.prog 75 #[.string wd,.int .u8 109] W fun x w'=>x= .returned (.bool false)∧w'=W):=fun W=>by rw[hwd];exact has6 (wordC 2) (by decide) 109 (by decide) W
 have Ha:Hid (∀W,Calls Tryz.prog 75 #[.string wd,.int .u8 97] W fun x w'=>x= .returned (.bool false)∧w'=W):=fun W=>by rw[hwd];exact has6 (wordC 2) (by decide) 97 (by decide) W
 have Hl:Hid (∀W,Calls Tryz.prog 75 #[.string wd,.int .u8 108] W fun x w'=>x= .returned (.bool false)∧w'=W):=fun W=>by rw[hwd];exact has6 (wordC 2) (by decide) 108 (by decide) W
 rw[←hwd]
 have HB:Hid (∀W,Calls Tryz.prog 76 #[tA r.tb.id r.tb.ver r.tb.nm (.slice s.co r.tb.cols.length s.cc) r.tb.key] W fun x w'=>EqT (r.tb=tb0) W x w'):=fun W=>bare6 r.tb s.co s.cc W
 obtain⟨no,eno⟩: ∃no:Nat,no=r.o.length:=⟨_,rfl⟩
 obtain⟨nn,enn⟩: ∃nn:Nat,nn=r.n.length:=⟨_,rfl⟩
 obtain⟨nt,ent⟩: ∃nt:Nat,nt=s.P.length:=⟨_,rfl⟩
 rw[rV, ←eno, ←enn, ←ent]
 rw[←eno, ←enn, ←ent] at HC
 have HC:Hid (r=cutC 2 r ↔ r.t=0∧no=0∧nn=0∧r.nm.size=0∧r.org=0∧r.tb=tb0∧nt=0):=HC
 have HK:Hid (∀W,Tch (fun _=>False) (w.alloc (.cells #[.int .i64 r.k,.int .i64 r.x,.int .i64 r.p,.int .i64 r.t,.slice s.oo no s.oc,.slice s.no nn s.nc,.string r.nm,.int .i64 r.org,.int .i64 r.tb.id,.int .i64 r.tb.ver,.string r.tb.nm,.slice s.co r.tb.cols.length s.cc,.int .i64 r.tb.key,.slice s.to nt s.tc] 37)) W→W.heap[w.heap.size]? =some (.cells #[.int .i64 r.k,.int .i64 r.x,.int .i64 r.p,.int .i64 r.t,.slice s.oo no s.oc,.slice s.no nn s.nc,.string r.nm,.int .i64 r.org,.int .i64 r.tb.id,.int .i64 r.tb.ver,.string r.tb.nm,.slice s.co r.tb.cols.length s.cc,.int .i64 r.tb.key,.slice s.to nt s.tc] 37 (0,0))):=fun W t=>(t.block _ (by simp) (fun h=>h)).trans (heap_new w _)
 clear hwd he eno enn ent
 go_enter Tryz.func46,Tryz.ntmps46
 go_wp2_with fail
 refine(Hx.out _).mono ?_
 rintro x w1 ⟨rfl,hw1⟩
 obtain rfl:=hw1.symm
 clear hw1 Hx
 go_wp2_with fail
 refine(Hp.out _).mono ?_
 rintro x w1 ⟨rfl,hw1⟩
 obtain rfl:=hw1.symm
 clear hw1 Hp
 go_wp2_with fail
 refine(Ht.out _).mono ?_
 rintro x w1 ⟨rfl,hw1⟩
 obtain rfl:=hw1.symm
 clear hw1 Ht
 go_wp2_with fail
 refine(Hu.out _).mono ?_
 rintro x w1 ⟨rfl,hw1⟩
 obtain rfl:=hw1.symm
 clear hw1 Hu
 go_wp2_with fail
 refine(Ho.out _).mono ?_
 rintro x w1 ⟨rfl,hw1⟩
 obtain rfl:=hw1.symm
 clear hw1 Ho
 go_wp2_with fail
 refine(Hw.out _).mono ?_
 rintro x w1 ⟨rfl,hw1⟩
 obtain rfl:=hw1.symm
 clear hw1 Hw
 go_wp2_with fail
 refine(Hc.out _).mono ?_
 rintro x w1 ⟨rfl,hw1⟩
 obtain rfl:=hw1.symm
 clear hw1 Hc
 go_wp2_with fail
 refine(Hm.out _).mono ?_
 rintro x w1 ⟨rfl,hw1⟩
 obtain rfl:=hw1.symm
 clear hw1 Hm
 go_wp2_with fail
 refine(Ha.out _).mono ?_
 rintro x w1 ⟨rfl,hw1⟩
 obtain rfl:=hw1.symm
 clear hw1 Ha
 go_wp2_with fail
 refine(Hl.out _).mono ?_
 rintro x w1 ⟨rfl,hw1⟩
 obtain rfl:=hw1.symm
 clear hw1 Hl
 go_wp2_with fail
 refine(HB.out _).mono ?_
 rintro x w1 ⟨bt,rfl,hbt,t1⟩
 have HBT:Hid (bt=true ↔ r.tb=tb0):=hbt
 have T1:Tch (fun _=>False) w w1:=(Tch.alloc _ _ _).trans' t1
 have HT1:Hid (Tch (fun _=>False) w w1):=T1
 have b1:=HK.out w1 t1
 have y1:=blk_cell b1 1
 have y2:=blk_cell b1 2
 have y3:=blk_cell b1 3
 have y4:=blk_cell b1 4
 have y5:=blk_cell b1 5
 have y6:=blk_cell b1 6
 have y7:=blk_cell b1 7
 have y13:=blk_cell b1 13
 simp only[List.getElem?_toArray,List.getElem?_cons_succ,List.getElem?_cons_zero] at y1 y2 y3 y4 y5 y6 y7 y13
 clear b1 hbt t1 T1 HB HK
 go_simp
 iterate 8 (first|go_values|go_skip|go_guarded|go_step|go_upon|go_in|go_back)
 dsimp only[List.append]
 by_cases ht:r.t=0
 rotate_left
 ·have et:(r.t !=0)=true:=by simpa using ht
  have HN:Hid (¬r.t=0):=ht
  clear ht
  go_wp2
  go_ret
  exact⟨true,rfl,⟨fun _=>fun h=>HN.out (HC.out.1 h).1,fun _=>rfl⟩,HT1.out⟩
 have et:(r.t !=0)=false:=by rw[ht];rfl
 have Zt:Hid (r.t=0):=ht
 clear ht
 by_cases ho:no=0
 rotate_left
 ·have eo:0<no:=by omega
  have eo2:(0:Int)<(no:Int):=by omega
  have HN:Hid (¬no=0):=ho
  clear ho
  go_wp2
  go_ret
  exact⟨true,rfl,⟨fun _=>fun h=>HN.out (HC.out.1 h).2.1,fun _=>rfl⟩,HT1.out⟩
 subst ho
 by_cases hw:nn=0
 rotate_left
 ·have ew:0<nn:=by omega
  have ew2:(0:Int)<(nn:Int):=by omega
  have HN:Hid (¬nn=0):=hw
  clear hw
  go_wp2
  go_ret
  exact⟨true,rfl,⟨fun _=>fun h=>HN.out (HC.out.1 h).2.2.1,fun _=>rfl⟩,HT1.out⟩
 subst hw
 by_cases hn:r.nm.size=0
 rotate_left
 ·have en:r.nm.toList.isEmpty=false:=nonempty_of_size (r:=r.nm) (by omega)
  have HN:Hid (¬r.nm.size=0):=hn
  clear hn
  go_wp2
  go_ret
  exact⟨true,rfl,⟨fun _=>fun h=>HN.out (HC.out.1 h).2.2.2.1,fun _=>rfl⟩,HT1.out⟩
 have en:r.nm.toList.isEmpty=true:=empty_of_size hn
 have Zn:Hid (r.nm.size=0):=hn
 clear hn
 by_cases hg:r.org=0
 rotate_left
 ·have eg:(r.org !=0)=true:=by simpa using hg
  have HN:Hid (¬r.org=0):=hg
  clear hg
  go_wp2
  go_ret
  exact⟨true,rfl,⟨fun _=>fun h=>HN.out (HC.out.1 h).2.2.2.2.1,fun _=>rfl⟩,HT1.out⟩
 have eg:(r.org !=0)=false:=by rw[hg];rfl
 have Zg:Hid (r.org=0):=hg
 clear hg
 cases bt
 ·have HN:Hid (¬r.tb=tb0):=fun h=>by have:=HBT.out.2 h;simp at this
  clear HBT
  go_wp2
  go_ret
  exact⟨true,rfl,⟨fun _=>fun h=>HN.out (HC.out.1 h).2.2.2.2.2.1,fun _=>rfl⟩,HT1.out⟩
 have Za:Hid (r.tb=tb0):=HBT.out.1 (by first|rfl|trivial)
 clear HBT
 by_cases hl:nt=0
 rotate_left
 ·have el:0<nt:=by omega
  have el2:(0:Int)<(nt:Int):=by omega
  have HN:Hid (¬nt=0):=hl
  clear hl
  go_wp2
  go_ret
  exact⟨true,rfl,⟨fun _=>fun h=>HN.out (HC.out.1 h).2.2.2.2.2.2,fun _=>rfl⟩,HT1.out⟩
 subst hl
 go_wp2
 go_ret
 exact⟨false,rfl,⟨fun h=>by simp at h,fun h=>absurd (HC.out.2 ⟨Zt.out,by first|rfl|trivial,by first|rfl|trivial,Zn.out,Zg.out,Za.out,by first|rfl|trivial⟩) h⟩,HT1.out⟩
end Go.Proofs.YtaiadknglhemaaaGreatDoor.C
