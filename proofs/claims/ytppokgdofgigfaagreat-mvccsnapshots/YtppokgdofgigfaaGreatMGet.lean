import Derived.Test.YtppokgdofgigfaaGreatMIns
import Derived.Laws.IdiomRangeMap
import Derived.LoopN
set_option maxHeartbeats 4000000
set_option maxRecDepth 100000
namespace Go.Proofs.YtppokgdofgigfaaGreat
open Go.RowKit Go Go.Sort Go.Maps
def cnt (E:List En) (C:Nat→Ch) (P:En→Bool):Nat:=(E.map (fun e=>if P e then(C e.b).2.2.length else 0)).sum
theorem cnt_congr {E:List En} {C:Nat→Ch} {P Q:En→Bool} (h: ∀e∈E,P e=Q e):cnt E C P=cnt E C Q:=by
 unfold cnt
 rw[List.map_congr_left (fun e he=>by rw[h e he])]
theorem cnt_step {E:List En} {C:Nat→Ch} {P Q:En→Bool} (hE:E.Pairwise (fun e f=>e.b≠f.b)) {e0:En} (he:e0∈E) (h0:P e0=false) (h1:Q e0=true) (hq: ∀e∈E,e≠e0→Q e=P e):cnt E C Q=cnt E C P+(C e0.b).2.2.length:=by
 induction E with
 |nil=>cases he
 |cons f r ih=>
  obtain⟨p1,p2⟩:=List.pairwise_cons.1 hE
  unfold cnt at ih ⊢
  simp only[List.map_cons,List.sum_cons]
  rcases List.mem_cons.1 he with e|he'
  ·subst e
   rw[h0,h1]
   have:(r.map (fun e=>if Q e then(C e.b).2.2.length else 0)).sum=(r.map (fun e=>if P e then(C e.b).2.2.length else 0)).sum:=by
    rw[List.map_congr_left (fun e he=>by rw[hq e (List.mem_cons_of_mem _ he) (fun e1=>p1 e he (by rw[e1]))])]
   rw[this]
   simp only[Bool.false_eq_true,if_true,if_false]
   omega
  ·have hne:f≠e0:=fun e1=>p1 e0 he' (by rw[e1])
   rw[ih p2 he' (fun e h2 h3=>hq e (List.mem_cons_of_mem _ h2) h3),hq f List.mem_cons_self hne]
   omega
theorem cnt_all (E:List En) (C:Nat→Ch):cnt E C (fun _=>true)=((labs E C).map (fun p=>p.2.length)).sum:=by
 unfold cnt labs
 rw[List.map_map]
 congr 1
 refine List.map_congr_left fun e _=>?_
 simp
theorem cnt_none (E:List En) (C:Nat→Ch):cnt E C (fun _=>false)=0:=by
 unfold cnt
 induction E with
 |nil=>rfl
 |cons e r ih=>
  rw[List.map_cons,List.sum_cons,ih]
  rfl
theorem cnt_le (E:List En) (C:Nat→Ch) (P:En→Bool):cnt E C P≤cnt E C (fun _=>true):=by
 unfold cnt
 induction E with
 |nil=>exact Nat.le_refl _
 |cons e r ih=>
  rw[List.map_cons,List.map_cons,List.sum_cons,List.sum_cons]
  refine Nat.add_le_add ?_ ih
  show(if P e=true then _ else 0)≤(if true=true then _ else 0)
  rw[if_pos rfl]
  split
  ·exact Nat.le_refl _
  ·exact Nat.zero_le _
theorem mnew_any (mb:Nat) (m:Mg) (w:World) (F:Nat→Prop) (hM:MF w mb m F):Calls Tryz.prog 14 #[.pointer (some ⟨mb,0,none⟩)] w fun x w'=>(∃hb,x= .returned (.pointer (some ⟨hb,0,none⟩))∧w.heap.size≤hb∧HS w' hb mb m [] F 0)∧Tch (fun _=>False) w w':=by
 obtain⟨w1,hw1⟩: ∃w1,w1=w.alloc (.map #[] 0):=⟨_,rfl⟩
 obtain⟨w2,hw2⟩: ∃w2,w2=w1.alloc (.cells #[.pointer (some ⟨mb,0,none⟩),.map (some w.heap.size)] 88):=⟨_,rfl⟩
 have t1:Tch (fun _=>False) w w1:=by rw[hw1];exact Tch.alloc _ _ _
 have t2:Tch (fun _=>False) w1 w2:=by rw[hw2];exact Tch.alloc _ _ _
 have hs1:w1.heap.size=w.heap.size+1:=by rw[hw1];simp
 have hmap:w2.ownsMap Tryz.prog 3 mapElem w.heap.size 0 (.map []):=by
  have:w1.ownsMap Tryz.prog 3 mapElem w.heap.size 0 (.map []):=by rw[hw1];exact World.ownsMap_made w Tryz.prog 3 mapElem
  exact ownsMap_tch this t2 (fun h=>h)
 have hblk:w2.heap[w.heap.size+1]? =some (.cells #[.pointer (some ⟨mb,0,none⟩),.map (some w.heap.size)] 88 (0,0)):=by rw[hw2, ←hs1];exact alloc_new _ _
 have HH:Hid (HS w2 (w.heap.size+1) mb m [] F 0):=by
  obtain⟨σ0,hσ0⟩: ∃σ0:Nat→Option Nat,σ0=fun i=>if i=w.heap.size∨i=w.heap.size+1 then some (2*(w.heap.size+1)+1) else none:=⟨_,rfl⟩
  have hFw: ∀i,F i→i<w.heap.size:=by obtain⟨_,_,_,_,h5⟩:=hM;exact fun i hi=>(h5 i hi).2
  refine⟨w.heap.size,[],[],fun _=>(none,0,[]),σ0,⟨hblk,by rw[hσ0];simp,by rw[hσ0];simp,⟨_,hmap,fun k zd=>rfl⟩,(fun p hp=>by cases hp),(fun e he=>by cases he),List.Pairwise.nil,List.Pairwise.nil,List.Pairwise.nil,List.Pairwise.nil,(fun e he=>by cases he),fun i hi=>?_⟩,rfl,(fun e he=>by cases he),?_,fun i hi=>?_⟩
  ·rw[hσ0] at hi
   have:=blk_lt hblk
   by_cases e:i=w.heap.size∨i=w.heap.size+1
   ·omega
   ·simp only[if_neg e] at hi;exact absurd rfl hi
  ·refine(hM.fresh (t1.trans' t2)).mono (fun i hi=>?_)
   rcases hi with hi|hi
   ·exact .inl hi
   ·rw[hσ0] at hi
    have:=blk_lt hblk
    by_cases e:i=w.heap.size∨i=w.heap.size+1
    ·exact .inr ⟨by omega,by omega⟩
    ·simp only[if_neg e] at hi;exact absurd rfl hi
  ·have:=hFw i hi
   have hb:=blk_lt hblk
   refine⟨?_,by omega⟩
   rw[hσ0]
   exact if_neg (by omega)
 have HT:Hid (Tch (fun _=>False) w w2):=t1.trans' t2
 have Hw2:Hid (w2=(w.alloc (.map #[] 0)).alloc (.cells #[.pointer (some ⟨mb,0,none⟩),.map (some w.heap.size)] 88)):=by show _=_;rw[hw2,hw1]
 have hmm:= @run_makeMap Tryz.prog
 clear hM hw1 hw2 t1 t2 hs1 hmap hblk
 go_enter Tryz.func14,Tryz.ntmps14
 go_wp2
 rw[←Hw2.out]
 go_ret
 exact⟨⟨_,rfl,Nat.le_succ _,HH.out⟩,HT.out⟩
theorem same_int (a b:Int):(Lit.int .i64 a).sameKey (.int .i64 b)=decide (a=b):=by
 by_cases h:a=b
 ·subst h;simp[Lit.sameKey]
 ·rw[sameKey_ne (by intro e;injection e with _ e;exact h e)];simp[h]
theorem same_str (a b:List UInt8):(Lit.string a).sameKey (.string b)=decide (a=b):=by
 by_cases h:a=b
 ·subst h;simp[Lit.sameKey]
 ·rw[sameKey_ne (by intro e;injection e with e;exact h e)];simp[h]
theorem atB_fix {o:Option Nat} {y:DataW Unit} (h: ∀zd,atB o zd=y): ∃b,o=some b:=by
 cases o with
 |some b=>exact⟨b,rfl⟩
 |none=>
  have h1:=h (.lit (.int .i64 0))
  have h2:=h (.lit (.int .i64 1))
  rw[←h1] at h2
  simp[atB] at h2
section
variable {T:List (Int×Nat)} {E:List En}
theorem entT {D:DataW Unit} (hk: ∀k zd,D.atKey (.int .i64 k) zd=atB (lkT T k) zd) {key v:Value} {kl:Lit} {y:DataW Unit×List MemPlace} (hkey:keyOf Tryz.prog 3 key=some kl) (hv:mapElem v=some y) (hat: ∀zd,D.atKey kl zd=y.1): ∃k l,kl= .int .i64 k∧(k,l)∈T∧v= .map (some l):=by
 obtain⟨k,_,rfl,_⟩:=Maps.keyOf_int_inv Tryz.underlying3 hkey
 have h0: ∀zd,atB (lkT T k) zd=y.1:=fun zd=>(hk k zd).symm.trans (hat zd)
 obtain⟨l,hl⟩:=atB_fix h0
 refine⟨k,l,rfl,lkT_mem hl,?_⟩
 rw[mapElem_inv hv (o:=some l) (by rw[←h0 (.lit (.int .i64 (-1))),hl])]
 rfl
theorem entE {D:DataW Unit} {k:Int} (hk: ∀s zd,D.atKey (.string s) zd=atB (lkE E k s) zd) {key v:Value} {kl:Lit} {y:DataW Unit×List MemPlace} (hkey:keyOf Tryz.prog 9 key=some kl) (hv:ptrElem v=some y) (hat: ∀zd,D.atKey kl zd=y.1): ∃e,kl= .string e.s∧e∈E∧e.k=k∧v= .pointer (some ⟨e.b,0,none⟩):=by
 obtain⟨S,_,rfl,_⟩:=WideMaps.string_of_keyOf Tryz.underlying9 hkey
 have h0: ∀zd,atB (lkE E k S.data.toList) zd=y.1:=fun zd=>(hk _ zd).symm.trans (hat zd)
 obtain⟨b,hb⟩:=atB_fix h0
 refine⟨⟨k,S.data.toList,b⟩,rfl,lkE_mem hb,rfl,?_⟩
 rw[ptrElem_inv hv (o:=some b) (by rw[←h0 (.lit (.int .i64 (-1))),hb])]
 rfl
end
theorem ranges_no {w w':World} {k:TypeId} {R:Value→Option (DataW Unit×List MemPlace)} {b r n cnt:Nat} {D:DataW Unit} {left:Lit→Bool} (h:w.ranges Tryz.prog k R b r n D left cnt) (t:Tch (fun _=>False) w w'):w'.ranges Tryz.prog k R b r n D left cnt:=h.kept (row:=none) ⟨t.os,t.tape,t.output,t.size,fun i hi _=>t.block i hi (fun h=>h)⟩ (by simp) (by simp)
theorem tch_next {w w1 w2:World} {r:Nat} (h:Tch (fun _=>False) w w1) (hr:w.heap.size≤r) (hg:w1.grownBy w2 (some r)):Tch (fun _=>False) w w2:=tch_new h hr (Tch.of_grown hg (fun g e=>by cases e;rfl))
theorem tch_range {w w1:World} (hg:w.grownBy w1 none):Tch (fun _=>False) w w1:=Tch.of_grown hg (fun g e=>by cases e)
theorem versions_w (w:World) (hb mb tb:Nat) (T:List (Int×Nat)) (E:List En) (C:Nat→Ch) (σ:Nat→Option Nat) (q:Nat) (h:HW w hb mb tb T E C σ q) (hN:cnt E C (fun _=>true)≤1000000):
  Calls Tryz.prog 25 #[.pointer (some ⟨hb,0,none⟩)] w fun x w'=>x= .returned (.int .i64 (cnt E C (fun _=>true)))∧Tch (fun _=>False) w w':=by
 have c1:=h.c1
 obtain⟨D,hD,hk⟩:=h.mp
 have HH:Hid _:=h
 have Hk:Hid _:=hk
 have hstart:Hid (cnt E C (fun e=> !(Maps.has D (.int .i64 e.k)))=0):=by
  show _=_
  rw[←cnt_none E C]
  refine cnt_congr fun e he=>?_
  obtain⟨l,hl⟩:=h.et e he
  have hat: ∀zd,D.atKey (.int .i64 e.k) zd=encB l:=fun zd=>by
   rw[hk]
   cases hT:lkT T e.k with
   |none=>exact absurd rfl (lkT_none hT _ hl)
   |some l'=>
    have:=pw_inj (fun p:Int×Nat=>p.1) h.tk (lkT_mem hT) hl rfl
    injection this with _ this
    rw[this];rfl
  rw[Maps.has_true_of_atKey hat];rfl
 have HNN:Hid _:=hN
 clear h hk hN
 go_enter Tryz.func25,Tryz.ntmps25
 go_wp2_with (first
  |(at_range;refine wpList_range_own _ rfl _ 86 rfl 3 109 law_int Tryz.underlying86 mapElem tb q _ rfl hD ?_;intro w0 hrg0 hg0 hs0)
  |go_in)
 go_frame
 go_loopw [3] (fun v wr=> ∃(left:Lit→Bool) (ct:Nat),v= .int .i64 (cnt E C (fun e=> !(left (.int .i64 e.k))):Nat)∧wr.ranges Tryz.prog 3 mapElem tb w.heap.size q D left ct∧Tch (fun _=>False) w wr)
  (fun _ wr=>wr.rangeLeft tb w.heap.size)
 case atStart=>exact⟨_,_,by rw[hstart.out];rfl,hrg0,tch_range hg0⟩
 case round=>
  obtain⟨left,ct,rfl,hrg,hT⟩:=hrel
  go_wp2_with (first
   |(at_next;refine wpList_next_ranges _ rfl _ rfl 3 law_int mapElem id id (fun key _ _=>⟨key,rfl⟩) (fun v _ _=>⟨v,rfl⟩) tb w.heap.size q _ _ _ rfl hrg ?_ ?_)
   |go_in)
  ·intro _ hl0
   have he:Hid (cnt E C (fun e=> !(left (.int .i64 e.k)))=cnt E C (fun _=>true)):=cnt_congr (fun e _=>by rw[hl0];rfl)
   have HT:Hid _:=hT
   clear hrg hT hl0
   go_wp2
   go_ret
   exact⟨by rw[←he.out];rfl,HT.out⟩
  ·intro x c kl yd yp w1 ct1 hkey hlx hv hat hrg1 hlt hg1 hs1 hen
   obtain⟨k,l,rfl,hkl,hc⟩:=entT (y:=(yd,yp)) Hk.out hkey hv hat
   have hc':c= .map (some l):=hc
   subst hc'
   clear hc
   have t1:=tch_next hT (Nat.le_refl _) hg1
   obtain⟨_,D2,hD2,hk2⟩:=(HH.out.no t1).inn _ hkl
   simp only at hD2 hk2
   obtain⟨wV,hwV⟩: ∃wV,wV=wr:=⟨_,rfl⟩
   subst hwV
   have Hk2:Hid _:=hk2
   have Hkl:Hid _:=hkl
   have HT1:Hid _:=t1
   have Hlx:Hid (left (.int .i64 k)=true):=hlx
   have hfirst:Hid (cnt E C (fun e=>if e.k=k then !(Maps.has D2 (.string e.s)) else !(left (.int .i64 e.k)))=cnt E C (fun e=> !(left (.int .i64 e.k)))):=by
    refine cnt_congr fun e he=>?_
    by_cases hek:e.k=k
    ·rw[if_pos hek,hek,Hlx.out]
     have hat2: ∀zd,D2.atKey (.string e.s) zd=encB e.b:=fun zd=>by rw[hk2, ←hek,lkE_of_mem HH.out.ek he];rfl
     rw[Maps.has_true_of_atKey hat2]
    ·rw[if_neg hek]
   have Hrg1:Hid (w1.ranges Tryz.prog 3 mapElem tb w.heap.size q D (fun z=>left z && !z.sameKey (.int .i64 k)) ct1):=hrg1
   have Hlt:Hid (ct1<ct):=hlt
   have Hrg:Hid (wV.ranges Tryz.prog 3 mapElem tb w.heap.size q D left ct):=hrg
   have hls:l≠w.heap.size:=fun e=>by
    have:=(HH.out.inn _ hkl)
    obtain⟨_,D3,hD3,_⟩:=this
    have:=hD3.lt
    simp only at this
    omega
   have Hls:Hid _:=hls
   clear hk2 hkl hlx hrg1 hlt hg1 hs1 hv hat hkey hT hrg t1 hls
   go_wp2_with (first
    |(at_range;refine wpList_range_own _ rfl _ 109 rfl 9 110 law_str Tryz.underlying109 ptrElem l q _ rfl hD2 ?_;intro w2 hrg2 hg2 hs2)
    |go_in)
   try go_frame
   go_loopw [3] (fun v wr=> ∃(left2:Lit→Bool) (ct2:Nat),v= .int .i64 (cnt E C (fun e=>if e.k=k then !(left2 (.string e.s)) else !(left (.int .i64 e.k))):Nat)∧wr.ranges Tryz.prog 9 ptrElem l w1.heap.size q D2 left2 ct2∧Tch (fun _=>False) w1 wr)
    (fun _ wr=>wr.rangeLeft l w1.heap.size)
   case atStart=>exact⟨_,_,by rw[hfirst.out],hrg2,tch_range hg2⟩
   case round=>
    obtain⟨left2,ct2,rfl,hrgI,hTI⟩:=hrel
    go_wp2_with (first
     |(at_next;refine wpList_next_ranges _ rfl _ rfl 9 law_str ptrElem id id (fun key _ _=>⟨key,rfl⟩) (fun v _ _=>⟨v,rfl⟩) l w1.heap.size q _ _ _ rfl hrgI ?_ ?_)
     |go_in)
    ·intro _ hl0
     have hcg:Hid (cnt E C (fun e=>if e.k=k then !(left2 (.string e.s)) else !(left (.int .i64 e.k)))=cnt E C (fun e=> !((left (.int .i64 e.k)) && !(Lit.sameKey (.int .i64 e.k) (.int .i64 k))))):=by
      refine cnt_congr fun e he=>?_
      rw[same_int]
      by_cases hek:e.k=k
      ·rw[if_pos hek,hl0];simp[hek]
      ·rw[if_neg hek];simp[hek]
     have HTI:Hid _:=hTI
     clear hrgI hTI hl0 hfirst
     go_wp2_with fail
     have hrgO:=ranges_no Hrg1.out HTI.out
     go_roundw
     case rel=>exact⟨_,ct1,by rw[hcg.out],hrgO,HT1.out.trans' HTI.out⟩
     case measure=>rw[hrgO.left_eq,Hrg.out.left_eq];exact Hlt.out
    ·intro x c kl yd yp w3 ct3 hkey hlx hv hat hrg3 hlt hg3 hs3 hen3
     obtain⟨e,rfl,heE,hek,hc⟩:=entE (y:=(yd,yp)) Hk2.out hkey hv hat
     have hc':c= .pointer (some ⟨e.b,0,none⟩):=hc
     subst hc'
     clear hc
     have t3:=tch_next hTI (Nat.le_refl _) hg3
     have hcb:=((HH.out.no HT1.out).no t3).chs _ heE
     have ec:w3.cell? ⟨e.b,0,none⟩=some (.slice (C e.b).1 (C e.b).2.2.length (C e.b).2.1):=by rw[blk_cell hcb.1.blk];rfl
     obtain⟨N1,hN1⟩: ∃N1,N1=cnt E C (fun e=>if e.k=k then !(left2 (.string e.s)) else !(left (.int .i64 e.k))):=⟨_,rfl⟩
     have hstep:cnt E C (fun e'=>if e'.k=k then !(left2 (.string e'.s) && !(Lit.sameKey (.string e'.s) (.string e.s))) else !(left (.int .i64 e'.k)))=N1+(C e.b).2.2.length:=by
      rw[hN1]
      refine cnt_step HH.out.eb heE ?_ ?_ (fun e' he' hne=>?_)
      ·have h0:left2 (.string e.s)=true:=hlx
       simp[hek,h0]
      ·rw[same_str];simp[hek]
      ·by_cases hek':e'.k=k
       ·rw[if_pos hek',if_pos hek',same_str]
        have: ¬e'.s=e.s:=fun es=>hne (by
         have:=lkE_of_mem HH.out.ek he'
         rw[hek',es, ←hek,lkE_of_mem HH.out.ek heE] at this
         injection this with this
         cases e';cases e;simp_all)
        simp[this]
       ·rw[if_neg hek',if_neg hek']
     have hbd:N1+(C e.b).2.2.length≤1000000:=by
      rw[←hstep]
      exact Nat.le_trans (cnt_le _ _ _) HNN.out
     obtain⟨co,cc,n2,hco⟩: ∃co cc n2,(C e.b).1=co∧(C e.b).2.1=cc∧(C e.b).2.2.length=n2:=⟨_,_,_,rfl,rfl,rfl⟩
     rw[hco.1,hco.2.1,hco.2.2] at ec
     rw[hco.2.2] at hstep hbd
     have hwp:wrap64 ((N1:Int)+(n2:Int))=((N1+n2:Nat):Int):=by unfold wrap64;omega
     have Hst:Hid _:=hstep
     have Ht3:Hid _:=t3
     have Hrg3:Hid (w3.ranges Tryz.prog 9 ptrElem l w1.heap.size q D2 (fun z=>left2 z && !z.sameKey (.string e.s)) ct3):=hrg3
     have Hlt3:Hid _:=hlt
     have HrgI:Hid (wr.ranges Tryz.prog 9 ptrElem l w1.heap.size q D2 left2 ct2):=hrgI
     rw[←hN1]
     clear hN1 hstep hbd hcb t3 hrg3 hlt hlx hv hat hkey hg3 hs3 hTI hrgI hco heE hek hfirst
     go_wp2_with fail
     go_roundw
     case rel=>exact⟨_,ct3,by rw[Hst.out, ←hwp],Hrg3.out,Ht3.out⟩
     case measure=>rw[Hrg3.out.left_eq,HrgI.out.left_eq];exact Hlt3.out
def chC (E:List En) (C:Nat→Ch) (k:Int) (s:List UInt8):Ch:=match lkE E k s with
 |some b=>C b
 |none=>(none,0,[])
theorem chain_any (w:World) (hb mb tb:Nat) (T:List (Int×Nat)) (E:List En) (C:Nat→Ch) (σ:Nat→Option Nat) (q:Nat) (h:HW w hb mb tb T E C σ q) (k:Int) (h1: -9223372036854775808≤k) (h2:k≤9223372036854775807) (S:ByteArray) (hS:S.size≤maxLen):
  Calls Tryz.prog 28 #[.pointer (some ⟨hb,0,none⟩),.int .i64 k,.string S] w fun x w'=>x= .returned (.slice (chC E C k S.data.toList).1 (chC E C k S.data.toList).2.2.length (chC E C k S.data.toList).2.1)∧w'=w:=by
 have c1:=h.c1
 have gl:=h.look h1 h2
 unfold chC
 cases hl:lkT T k with
 |none=>
  have he:=h.noT hl S.data.toList
  have gn:=look_nil w hS
  rw[hl] at gl
  rw[he]
  simp only[mapV,List.length_nil] at gl ⊢
  clear h hl he h1 h2
  go_enter Tryz.func28,Tryz.ntmps28
  go_wp2
  go_ret
  exact⟨rfl,rfl⟩
 |some l=>
  have gk:=h.look2 (lkT_mem hl) hS
  simp only at gk
  rw[hl] at gl
  simp only[mapV] at gl
  cases he:lkE E k S.data.toList with
  |none=>
   rw[he] at gk
   simp only[ptrV,List.length_nil] at gk ⊢
   clear h hl he h1 h2
   go_enter Tryz.func28,Tryz.ntmps28
   go_wp2
   go_ret
   exact⟨rfl,rfl⟩
  |some cb=>
   rw[he] at gk
   have hcb:=(h.chs _ (lkE_mem he)).1.blk
   simp only[ptrV] at gk hcb ⊢
   obtain⟨⟨co,cc,zs⟩,hCc⟩: ∃c,c=C cb:=⟨_,rfl⟩
   rw[←hCc] at hcb ⊢
   simp only at hcb ⊢
   obtain⟨ln,hln⟩: ∃ln,ln=zs.length:=⟨_,rfl⟩
   rw[←hln] at hcb ⊢
   have ec:w.cell? ⟨cb,0,none⟩=some (.slice co ln cc):=by rw[blk_cell hcb];rfl
   clear h hl he h1 h2 hcb hln hCc
   go_enter Tryz.func28,Tryz.ntmps28
   go_wp2
   go_ret
   exact⟨rfl,rfl⟩
theorem chC_ok {w:World} {hb mb tb:Nat} {T:List (Int×Nat)} {E:List En} {C:Nat→Ch} {σ:Nat→Option Nat} {q:Nat} (h:HW w hb mb tb T E C σ q) (k:Int) (s:List UInt8):VRd w.heap.size w (chC E C k s).1 (chC E C k s).2.2∧(chC E C k s).2.2.length≤q∧(∀z∈(chC E C k s).2.2,VOK w σ z)∧(chC E C k s).2.2.map (·.1)=chL (labs E C) k s:=by
 rw[chL_labs]
 unfold chC
 cases he:lkE E k s with
 |none=>exact⟨.inl ⟨rfl,rfl⟩,Nat.zero_le _,(fun z hz=>by cases hz),rfl⟩
 |some cb=>
  obtain⟨h1,h2⟩:=h.chs _ (lkE_mem he)
  exact⟨vrd_of h1.row,h2,h1.ok,rfl⟩
def getV (m:Mg) (mn mx:Int) (l:List Int) (own:Int) (c:List Ver):Option Ver:=match c.reverse.find? (fun v=>m.sees mn mx l own v.wr) with
 |some v=>if v.th then some v else none
 |none=>none
def GetOut (w:World) (o:Option Ver) (x:Ending) (w':World):Prop:=(match o with
 |some v=> ∃ro rc,x= .returned (.tuple #[.slice ro v.n rc,.int .i64 0])∧w'.ownsRow w.heap.size 79 3 (.slice ro v.n rc) v.n v.cs
 |none=>x= .returned (.tuple #[.slice none 0 0,.int .i64 90]))∧Tch (fun _=>False) w w'
theorem enters_seen: ∀args w,(callFunc 57 args).run Tryz.prog w= .ok (.enter 57 args) w:=enters_of Tryz.func57 (by kernel_rfl) rfl
def Told (p:VV→Bool) (zs:List VV) (a:Int) (t:Bool) (o:Option Addr) (n c:Nat) (b:Bool) (x:Value):Prop:=x= .tuple #[.agg #[.int .i64 a,.bool t,.slice o n c],.bool b]∧NwOut p zs (.returned x)
def GC (w0:World) (hb:Nat) (own mn mx:Int) (l:List Int) (so:Option Addr) (sc:Nat) (co:Option Addr) (cc:Nat) (zs:List VV) (pr:VV→Bool) (s:List Value) (p:Option Value) (W:World):Prop:=
 Tch (fun _=>False) w0 W∧(p=none→s.length<4)∧
 (match s with
  |[]=> ∀q,p=some q→ ∃pb,q= .pointer (some ⟨pb,0,none⟩)∧w0.heap.size≤pb∧W.heap[pb]? =some (.cells #[.int .i64 0,.bool false,.slice none 0 0] 69 (0,0))
  |[c]=>c= .slice co zs.length cc∧ ∀q,p=some q→ ∃pb,q= .pointer (some ⟨pb,0,none⟩)∧w0.heap.size≤pb∧W.heap[pb]? =some (.cells #[.int .i64 0,.bool false,.slice none 0 0] 69 (0,0))
  |[_,f]=>(∃b,f= .func (.func 57) #[] #[.pointer (some ⟨b,0,none⟩),.pointer (some ⟨b+1,0,none⟩),.pointer (some ⟨b+1+1,0,none⟩)]∧SB W hb b (b+1) (b+1+1) mn mx l so sc own)∧ ∀q,p=some q→ ∃pb,q= .pointer (some ⟨pb,0,none⟩)∧w0.heap.size≤pb∧W.heap[pb]? =some (.cells #[.int .i64 0,.bool false,.slice none 0 0] 69 (0,0))
  |[_,_,x]=>(∃a t o n c b,Told pr zs a t o n c b x)∧ ∀q,p=some q→ ∃pb,q= .pointer (some ⟨pb,0,none⟩)∧w0.heap.size≤pb∧W.heap[pb]? =some (.cells #[.int .i64 0,.bool false,.slice none 0 0] 69 (0,0))
  |[_,_,x,_]=> ∃a t o n c b,Told pr zs a t o n c b x∧ ∀q,p=some q→ ∃pb,q= .pointer (some ⟨pb,0,none⟩)∧w0.heap.size≤pb∧W.heap[pb]? =some (.cells #[.int .i64 a,.bool t,.slice o n c] 69 (0,0))
  |_=>False)
section
variable {w0:World} {hb:Nat} {own mn mx:Int} {l:List Int} {so:Option Addr} {sc:Nat} {co:Option Addr} {cc:Nat} {zs:List VV} {pr:VV→Bool}
theorem keepP {W W':World} {p:Option Value} {N:Nat} {cs:Array Value} {t0:TypeId} (h: ∀q,p=some q→ ∃pb,q= .pointer (some ⟨pb,0,none⟩)∧N≤pb∧W.heap[pb]? =some (.cells cs t0 (0,0))) (t:Tch (fun _=>False) W W'): ∀q,p=some q→ ∃pb,q= .pointer (some ⟨pb,0,none⟩)∧N≤pb∧W'.heap[pb]? =some (.cells cs t0 (0,0)):=fun q hq=>by
 obtain⟨pb,e,h1,h2⟩:=h q hq
 exact⟨pb,e,h1,by rw[t.block _ (blk_lt h2) (fun h=>h)];exact h2⟩
theorem GC.float {s:List Value} {W:World} (h:GC w0 hb own mn mx l so sc co cc zs pr s none W):GC w0 hb own mn mx l so sc co cc zs pr s (some (.pointer (some ⟨W.heap.size,0,none⟩))) (W.alloc (.cells #[.int .i64 0,.bool false,.slice none 0 0] 69)):=by
 obtain⟨h1,h2,h3⟩:=h
 have ta:Tch (fun _=>False) W (W.alloc (.cells #[.int .i64 0,.bool false,.slice none 0 0] 69)):=Tch.alloc _ _ _
 have hp: ∀q,some (Value.pointer (some ⟨W.heap.size,0,none⟩))=some q→ ∃pb,q= .pointer (some ⟨pb,0,none⟩)∧w0.heap.size≤pb∧(W.alloc (.cells #[.int .i64 0,.bool false,.slice none 0 0] 69)).heap[pb]? =some (.cells #[.int .i64 0,.bool false,.slice none 0 0] 69 (0,0)):=fun q hq=>by
  cases hq
  exact⟨_,rfl,h1.size,alloc_new _ _⟩
 refine⟨h1.trans' ta,(fun e=>by cases e),?_⟩
 match s,h2,h3 with
 |[],_,_=>exact hp
 |[_],_,h3=>exact⟨h3.1,hp⟩
 |[_,_],_,h3=>
  obtain⟨⟨b,e,sb⟩,_⟩:=h3
  exact⟨⟨b,e,sb.no ta⟩,hp⟩
 |[_,_,_],_,h3=>exact⟨h3.1,hp⟩
 |[_,_,_,_],h2,_=>exact absurd (h2 rfl) (by simp)
 |_::_::_::_::_::_,_,h3=>exact h3.elim
theorem GC.tch {s:List Value} {p:Option Value} {W:World} (h:GC w0 hb own mn mx l so sc co cc zs pr s p W):Tch (fun _=>False) w0 W:=h.1
end
theorem get_w (w:World) (hb mb tb:Nat) (T:List (Int×Nat)) (E:List En) (C:Nat→Ch) (σ:Nat→Option Nat) (q:Nat) (h:HW w hb mb tb T E C σ q) (hq:q≤2000) (m:Mg) (F:Nat→Prop) (hM:MF w mb m F) (k:Int) (h1: -9223372036854775808≤k) (h2:k≤9223372036854775807) (S:ByteArray) (hS:S.size≤maxLen) (mn mx:Int) (l:List Int) (so:Option Addr) (sc:Nat) (own:Int) (h3: -9223372036854775808≤own) (h4:own≤9223372036854775807) (hl:l.length≤9223372036854775807) (hi:IR w so l):
  Calls Tryz.prog 9 #[.pointer (some ⟨hb,0,none⟩),.agg #[.int .i64 mn,.int .i64 mx,.slice so l.length sc],.int .i64 own,.int .i64 k,.string S] w fun x w'=>GetOut w (getV m mn mx l own (chL (labs E C) k S.data.toList)) x w':=by
 obtain⟨w0,hw0⟩: ∃w0,w0=w.alloc (.cells #[.int .i64 mn,.int .i64 mx,.slice so l.length sc] 38):=⟨_,rfl⟩
 have t0:Tch (fun _=>False) w w0:=by rw[hw0];exact Tch.alloc _ _ _
 have e0:w0.heap[w.heap.size]? =some (.cells #[.int .i64 mn,.int .i64 mx,.slice so l.length sc] 38 (0,0)):=by rw[hw0];exact alloc_new _ _
 have hw:=h.no t0
 obtain⟨vr,vq,vk,vl⟩:=chC_ok hw k S.data.toList
 have hcq:=fun W (t:Tch (fun _=>False) w0 W)=>chain_any W hb mb tb T E C σ q (hw.no t) k h1 h2 S hS
 obtain⟨⟨co,cc,zs⟩,hch⟩: ∃ch,ch=chC E C k S.data.toList:=⟨_,rfl⟩
 rw[←hch] at vr vq vk vl
 simp only[←hch] at hcq
 simp only at vr vq vk vl
 obtain⟨pr,hpr⟩: ∃pr:VV→Bool,pr=fun z=>m.sees mn mx l own z.1.wr:=⟨_,rfl⟩
 obtain⟨D,hD⟩: ∃D:List Value→Option Value→World→Prop,D=GC w0 hb own mn mx l so sc co cc zs pr:=⟨_,rfl⟩
 obtain⟨ln,hln⟩: ∃ln,ln=l.length:=⟨_,rfl⟩
 obtain⟨zn,hzn⟩: ∃zn,zn=zs.length:=⟨_,rfl⟩
 have hK: ∀s p W,D s p W→W.cell? ⟨w.heap.size,0,none⟩=some (.int .i64 mn)∧W.cell? ⟨w.heap.size,1,none⟩=some (.int .i64 mx)∧W.cell? ⟨w.heap.size,2,none⟩=some (.slice so ln sc):=fun s p W hW=>by
  rw[hD] at hW
  have hb:=(GC.tch hW).block _ (blk_lt e0) (fun h=>h)
  rw[e0] at hb
  exact⟨by rw[blk_cell hb];rfl,by rw[blk_cell hb];rfl,by rw[blk_cell hb,hln];rfl⟩
 have h0':D [] none w0.drew:=by rw[hD];exact⟨(Tch.refl _ _).drew,fun _=>by decide,fun q hq=>by cases hq⟩
 have hFl: ∀s W,D s none W→D s (some (.pointer (some ⟨W.heap.size,0,none⟩))) (W.alloc (.cells #[.int .i64 0,.bool false,.slice none 0 0] 69)):=fun s W hW=>by
  rw[hD] at hW ⊢
  exact GC.float hW
 have c1: ∀p W,D [] p W→Calls Tryz.prog 28 #[.pointer (some ⟨hb,0,none⟩),.int .i64 k,.string S] W fun x W'=> ∃y,x= .returned y∧D [y] p W':=fun p W hW=>by
  rw[hD] at hW ⊢
  obtain⟨g1,g2,g3⟩:=hW
  refine(hcq W g1).mono ?_
  rintro x W' ⟨rfl,rfl⟩
  exact⟨_,rfl,g1,fun _=>by simp,rfl,g3⟩
 have s1: ∀y p W,D [y] p W→y= .slice co zn cc:=fun y p W hW=>by
  rw[hD] at hW
  rw[hzn]
  exact hW.2.2.1
 have c2: ∀y p W,D [y] p W→Calls Tryz.prog 30 #[.pointer (some ⟨hb,0,none⟩),.agg #[.int .i64 mn,.int .i64 mx,.slice so ln sc],.int .i64 own] W fun x W'=> ∃f,x= .returned f∧D [y,f] p W':=fun y p W hW=>by
  rw[hD] at hW ⊢
  rw[hln]
  obtain⟨g1,g2,g3,g4⟩:=hW
  refine(seenBy_any hb mn mx so l.length sc own W).mono ?_
  rintro x W' ⟨rfl,hW'⟩
  have t1:Tch (fun _=>False) W W':=by rw[hW'];exact((Tch.alloc _ _ _).allocR _).allocR _
  refine⟨_,rfl,g1.trans' t1,fun _=>by simp,⟨W.heap.size,rfl,⟨?_,?_,?_,((hi.no t0).no g1).no t1⟩⟩,keepP g4 t1⟩
  ·rw[hW',((Tch.alloc (fun _=>False) (W.alloc (.cells #[.pointer (some ⟨hb,0,none⟩)] 36)) _).allocR _).block _ (by simp) (fun h=>h)];exact alloc_new _ _
  ·rw[hW',(Tch.alloc (fun _=>False) ((W.alloc (.cells #[.pointer (some ⟨hb,0,none⟩)] 36)).alloc (.cells #[.int .i64 mn,.int .i64 mx,.slice so l.length sc] 38)) _).block _ (by simp) (fun h=>h)]
   have:=alloc_new (W.alloc (.cells #[.pointer (some ⟨hb,0,none⟩)] 36)) (.cells #[.int .i64 mn,.int .i64 mx,.slice so l.length sc] 38)
   rwa [World.size_alloc] at this
  ·rw[hW']
   have:=alloc_new ((W.alloc (.cells #[.pointer (some ⟨hb,0,none⟩)] 36)).alloc (.cells #[.int .i64 mn,.int .i64 mx,.slice so l.length sc] 38)) (.cells #[.int .i64 own] 3)
   simp only[World.size_alloc] at this
   exact this
 have s2: ∀y f p W,D [y,f] p W→ ∃b,f= .func (.func 57) #[] #[.pointer (some ⟨b,0,none⟩),.pointer (some ⟨b+1,0,none⟩),.pointer (some ⟨b+1+1,0,none⟩)]:=fun y f p W hW=>by
  rw[hD] at hW
  obtain⟨_,_,⟨b,e,_⟩,_⟩:=hW
  exact⟨b,e⟩
 have c3: ∀y f p W,D [y,f] p W→Calls Tryz.prog 29 #[.slice co zn cc,f] W fun x W'=> ∃u,x= .returned u∧D [y,f,u] p W':=fun y f p W hW=>by
  rw[hD] at hW ⊢
  rw[hzn]
  obtain⟨g1,g2,⟨b,rfl,sb⟩,g4⟩:=hW
  have hwW:=hw.no g1
  refine(newest_any co cc zs (by omega) W (vr.tch g1) pr 57 #[] #[.pointer (some ⟨b,0,none⟩),.pointer (some ⟨b+1,0,none⟩),.pointer (some ⟨b+1+1,0,none⟩)] ⟨enters_seen,fun z W2 hz t2=>?_⟩).mono ?_
  ·rw[hpr]
   exact seen1_any hb mb m W2 F (((hM.no t0).no g1).no t2) (hwW.no t2).c0 z.1.wr (vk z hz).lo (vk z hz).hi z.1.th z.2.1 z.1.n z.2.2 b (b+1) (b+1+1) mn mx l so sc own h3 h4 hl (sb.no t2)
  ·rintro x W' ⟨hn,t'⟩
   rcases hn with⟨ha,rfl⟩|⟨i,z,a1,a2,a3,rfl⟩
   ·exact⟨_,rfl,g1.trans' t',fun _=>by simp,⟨_,_,_,_,_,_,rfl,.inl ⟨ha,rfl⟩⟩,keepP g4 t'⟩
   ·exact⟨_,rfl,g1.trans' t',fun _=>by simp,⟨_,_,_,_,_,_,rfl,.inr ⟨i,z,a1,a2,a3,rfl⟩⟩,keepP g4 t'⟩
 have s3: ∀y f u p W,D [y,f,u] p W→ ∃a t o n c b,u= .tuple #[.agg #[.int .i64 a,.bool t,.slice o n c],.bool b]:=fun y f u p W hW=>by
  rw[hD] at hW
  obtain⟨_,_,⟨a,t,o,n,c,b,e,_⟩,_⟩:=hW
  exact⟨a,t,o,n,c,b,e⟩
 have hptr: ∀s v W,D s (some v) W→ ∃pb,v= .pointer (some ⟨pb,0,none⟩):=fun s v W hW=>by
  rw[hD] at hW
  obtain⟨_,_,g3⟩:=hW
  match s,g3 with
  |[],g3=>obtain⟨pb,e,_⟩:=g3 v rfl;exact⟨pb,e⟩
  |[_],g3=>obtain⟨pb,e,_⟩:=g3.2 v rfl;exact⟨pb,e⟩
  |[_,_],g3=>obtain⟨pb,e,_⟩:=g3.2 v rfl;exact⟨pb,e⟩
  |[_,_,_],g3=>obtain⟨pb,e,_⟩:=g3.2 v rfl;exact⟨pb,e⟩
  |[_,_,_,_],g3=>obtain⟨a,t,o,n,c,b,_,g4⟩:=g3;obtain⟨pb,e,_⟩:=g4 v rfl;exact⟨pb,e⟩
  |_::_::_::_::_::_,g3=>exact g3.elim
 have hst: ∀y f a t o n c b (v':Value) pb W,D [y,f,.tuple #[.agg #[.int .i64 a,.bool t,.slice o n c],.bool b]] (some (.pointer (some ⟨pb,0,none⟩))) W→(W.cell? ⟨pb,0,none⟩=some (.int .i64 0)∧W.cell? ⟨pb,1,none⟩=some (.bool false)∧W.cell? ⟨pb,2,none⟩=some (.slice none 0 0))∧(∀j,W.frozen? ⟨pb,j,none⟩=false)∧D [y,f,.tuple #[.agg #[.int .i64 a,.bool t,.slice o n c],.bool b],v'] (some (.pointer (some ⟨pb,0,none⟩))) (((W.setCell ⟨pb,0,none⟩ (.int .i64 a)).setCell ⟨pb,1,none⟩ (.bool t)).setCell ⟨pb,2,none⟩ (.slice o n c)):=fun y f a t o n c b v' pb W hW=>by
  rw[hD] at hW ⊢
  obtain⟨g1,g2,⟨a',t',o',n',c',b',e,hn⟩,g4⟩:=hW
  obtain⟨pb',ep,h5,h6⟩:=g4 _ rfl
  cases ep
  refine⟨⟨by rw[blk_cell h6];rfl,by rw[blk_cell h6];rfl,by rw[blk_cell h6];rfl⟩,fun j=>blk_frozen h6 j,?_⟩
  refine⟨tch_new g1 h5 (set3_tch W pb _ _ _),(fun e=>by cases e),a,t,o,n,c,b,⟨rfl,hn⟩,fun q hq=>?_⟩
  cases hq
  exact⟨pb,rfl,h5,set3_blk h6⟩
 have HEND:Hid (∀y f a t o n c b v' pb W,D [y,f,.tuple #[.agg #[.int .i64 a,.bool t,.slice o n c],.bool b],v'] (some (.pointer (some ⟨pb,0,none⟩))) W→W.heap[pb]? =some (.cells #[.int .i64 a,.bool t,.slice o n c] 69 (0,0))∧NwOut pr zs (.returned (.tuple #[.agg #[.int .i64 a,.bool t,.slice o n c],.bool b]))∧Tch (fun _=>False) w0 W):=fun y f a t o n c b v' pb W hW=>by
  rw[hD] at hW
  obtain⟨g1,_,a',t',o',n',c',b',⟨e,hn⟩,g4⟩:=hW
  obtain⟨pb',ep,_,h6⟩:=g4 _ rfl
  cases ep
  cases e
  exact⟨h6,hn,g1⟩
 obtain⟨GV,hGV⟩: ∃GV,GV=getV m mn mx l own (chL (labs E C) k S.data.toList):=⟨_,rfl⟩
 have HGV:Hid (∀a t o n c b,NwOut pr zs (.returned (.tuple #[.agg #[.int .i64 a,.bool t,.slice o n c],.bool b]))→(t=false→GV=none)∧(t=true→ ∃v:Ver,GV=some v∧v.n=n∧ ∀W,Tch (fun _=>False) w0 W→RdR W o n c v.cs)):=fun a t o n c b hn=>by
  rw[hGV, ←vl]
  unfold getV
  rw[find_map]
  rcases hn with⟨ha,e⟩|⟨i,z,a1,a2,a3,e⟩
  ·cases e
   have:zs.reverse.find? (fun z=>m.sees mn mx l own z.1.wr)=none:=by
    rw[List.find?_eq_none]
    intro z hz
    have:=ha z (List.mem_reverse.1 hz)
    rw[hpr] at this
    have this:m.sees mn mx l own z.1.wr=false:=this
    rw[this];exact fun h=>by cases h
   rw[this]
   exact⟨fun _=>rfl,fun e=>by cases e⟩
  ·cases e
   rw[hpr] at a2 a3
   rw[find_last (p:=fun z=>m.sees mn mx l own z.1.wr) a1 a2 a3]
   have hz:=vk z (List.mem_of_getElem? a1)
   refine⟨fun e=>by simp[e],fun e=>⟨z.1,by simp[e],rfl,fun W t=>(RdR.of_own hz.own hz.one hz.sm).no t⟩⟩
 rw[←hGV]
 have Hw0:Hid _:=hw0
 have T0:Hid _:=t0
 rw[←hln] at hw0 Hw0 ⊢
 clear h hw hcq hD vr vq vk vl hch hpr hGV hi h1 h2 hS h3 h4 hl hq hM t0 e0 hw0 hln hzn
 go_enter Tryz.func9,Tryz.ntmps9
 go_wp2_with fail
 have hw0:=Hw0.out
 rw[←hw0]
 clear hw0 Hw0
 refine wp_region_floo [3,7,8,13] 12 _ D [0,1,2,4,5,6,3,7,8,9,10,11,12,13,14] (by kernel_rfl) (by kernel_rfl) rfl rfl (by rfl) (by kernel_rfl) (fun s a W hW b K Q hK'=>?_) h0' ?_
 ·go_simp
  exact hK' _ _ (hFl s W hW)
 clear h0'
 iterate 6
  refine floo_read rfl (by go_simp) (by rfl) (by rfl) ?_
  apply Exists.intro
  refine⟨fun s' p' W hl hW b K Q hK'=>?_,fun K hK'=>?_⟩
  ·obtain⟨q0,q1,q2⟩:=hK _ _ W hW
   go_simp
   exact hK' W hW
  go_simp
  refine hK' _ ?_
  clear hK' K
 refine floo_turn rfl (by go_simp) (by rfl) (fun p' hl W hW b K Q hK'=>?_) (fun u hu K hK'=>?_)
 ·go_simp
  go_at_call 28
  refine(c1 p' W hW).mono ?_
  rintro x w' ⟨y,rfl,h1⟩
  exact hK' y w' h1
 obtain rfl:u= .slice co zn cc:=by
  obtain⟨p',W',_,hW'⟩:=hu
  exact s1 u p' W' hW'
 clear hu c1 s1
 go_simp
 refine hK' _ ?_
 clear hK' K
 refine floo_turn rfl (by go_simp) (by rfl) (fun p' hl W hW b K Q hK'=>?_) (fun u hu K hK'=>?_)
 ·go_simp
  go_at_call 30
  refine(c2 _ p' W hW).mono ?_
  rintro x w' ⟨y,rfl,h1⟩
  exact hK' y w' h1
 obtain⟨b9,rfl⟩: ∃b,u= .func (.func 57) #[] #[.pointer (some ⟨b,0,none⟩),.pointer (some ⟨b+1,0,none⟩),.pointer (some ⟨b+1+1,0,none⟩)]:=by
  obtain⟨p',W',_,hW'⟩:=hu
  exact s2 _ u p' W' hW'
 clear hu c2 s2
 go_simp
 refine hK' _ ?_
 clear hK' K
 refine floo_turn rfl (by go_simp) (by rfl) (fun p' hl W hW b K Q hK'=>?_) (fun u hu K hK'=>?_)
 ·go_simp
  go_at_call 29
  refine(c3 _ _ p' W hW).mono ?_
  rintro x w' ⟨y,rfl,h1⟩
  exact hK' y w' h1
 obtain⟨va,vt,vo,vn,vc,vb,rfl⟩: ∃a t o n c b,u= .tuple #[.agg #[.int .i64 a,.bool t,.slice o n c],.bool b]:=by
  obtain⟨p',W',_,hW'⟩:=hu
  exact s3 _ _ u p' W' hW'
 clear hu c3 s3
 iterate 3
  go_simp
  refine hK' _ ?_
  clear hK' K
  refine floo_read rfl (by go_simp) (by rfl) (by rfl) ?_
  apply Exists.intro
  refine⟨fun s' p' W hl hW b K Q hK'=>?_,fun K hK'=>?_⟩
  ·obtain⟨q0,q1,q2⟩:=hK _ _ W hW
   go_simp
   exact hK' W hW
 go_simp
 refine hK' _ ?_
 clear hK' K
 refine floo_float rfl (by go_simp) (by rfl) (by rfl) (fun W hW b K Q hK'=>?_) (fun u hu K hK'=>?_)
 ·go_simp
  exact hK' _ _ (hFl _ W hW)
 obtain⟨pb,rfl⟩: ∃pb,u= .pointer (some ⟨pb,0,none⟩):=by
  obtain⟨s',W',hW'⟩:=hu
  exact hptr _ u W' hW'
 clear hu
 go_simp
 refine hK' _ ?_
 clear hK' K
 refine floo_turn rfl (by go_simp) (by rfl) (fun p' hl W hW b K Q hK'=>?_) (fun u hu K hK'=>?_)
 ·obtain rfl:=hl.some
  obtain⟨⟨y0,y1,y2⟩,qf,qC⟩:=hst _ _ _ _ _ _ _ _ undef pb W hW
  have f0:=qf 0
  have f1:=qf 1
  have f2:=qf 2
  clear qf
  go_simp
  exact hK' _ _ qC
 clear hu
 go_simp
 refine hK' _ ?_
 clear hK' K
 refine floo_read rfl (by go_simp) (by rfl) (by rfl) ?_
 apply Exists.intro
 refine⟨fun s' p' W hl hW b K Q hK'=>?_,fun K hK'=>?_⟩
 ·obtain⟨q0,q1,q2⟩:=hK _ _ W hW
  go_simp
  exact hK' W hW
 go_simp
 refine hK' _ ?_
 clear hK' K
 refine floo_nil ?_
 intro w3 hw3
 obtain⟨hpb,hn,t3⟩:=HEND.out _ _ _ _ _ _ _ _ _ _ w3 hw3
 obtain⟨gv0,gv1⟩:=HGV.out _ _ _ _ _ _ hn
 have p1:w3.cell? ⟨pb,1,none⟩=some (.bool vt):=by rw[blk_cell hpb];rfl
 have p2:w3.cell? ⟨pb,2,none⟩=some (.slice vo vn vc):=by rw[blk_cell hpb];rfl
 have T3:Hid (Tch (fun _=>False) w w3):=T0.out.trans' t3
 cases vt
 ·have hg:GV=none:=gv0 rfl
  subst hg
  clear hK HEND HGV hFl hptr hst hw3 hn gv0 gv1 hpb t3
  go_wp2
  go_ret2
  exact⟨rfl,T3.out⟩
 ·obtain⟨v,hg,hvn,hrd⟩:=gv1 rfl
  subst hg
  have qC:=rclone_any vo vn vc v.cs w3 (hrd w3 t3)
  have HV:Hid (v.n=vn):=hvn
  have hsz:Hid (w.heap.size≤w3.heap.size):=T3.out.size
  clear hK HEND HGV hFl hptr hst hw3 hn gv0 gv1 hpb t3 hrd hvn
  go_wp2_with fail
  refine qC.mono ?_
  rintro x w7 ⟨⟨ro7,rc7,rfl,h7⟩,t7⟩
  have T7:Hid (Tch (fun _=>False) w w7):=T3.out.trans' t7
  have H7:Hid _:=own_low h7 hsz.out
  clear qC h7 t7
  go_wp2
  go_ret2
  exact⟨⟨ro7,rc7,by rw[HV.out];rfl,by rw[HV.out];exact H7.out⟩,T7.out⟩
end Go.Proofs.YtppokgdofgigfaaGreat
