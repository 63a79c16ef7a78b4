import Derived.Test.YtaiadknglhemaaaGreatDoorCCrea
import Derived.Test.YtaiadknglhemaaaGreatDoorCList
set_option maxHeartbeats 4000000
set_option maxRecDepth 100000
namespace Go.Proofs.YtaiadknglhemaaaGreatDoor.C
open Go.RowKit Go
def TX (b RB:Nat) (t0:Tbl) (w':World) (v:Value):Prop:= ∃co cc,v=tA t0.id t0.ver t0.nm (.slice co t0.cols.length cc) t0.key∧SL w' co (ccl t0.cols)∧(co=none→t0.cols=[]∧cc=0)∧ ∀g o,co=some ⟨g,o,none⟩→t0.cols≠[]→g≠b∧g≠RB
theorem ccl_snoc (l:List Col) (x:Col):ccl (l++[x])=ccl l++[.string x.nm,.int .i64 x.k,.bool x.nl]:=f3_append ..
end Go.Proofs.YtaiadknglhemaaaGreatDoor.C
namespace Go.Proofs.YtaiadknglhemaaaGreatDoor.C
open Go.RowKit
theorem tkCols_succ (S:ByteArray) (n:Nat) (p:Nat×Int) (l:List Col):tkCols S (n+1) p l=tkCols S n (tkCol S p).2 (l++[(tkCol S p).1]):=rfl
theorem takeTable_any (b:Nat) (S:ByteArray) (a:Nat) (e:Int) (w:World) (h:RD w b S a e) (hS:S.size≤281474976710656):
  Calls Tryz.prog 228 #[.pointer (some ⟨b,0,none⟩)] w fun x w'=>(∃v,x= .returned (tA (tkTab S (a,e)).1.id (tkTab S (a,e)).1.ver (tkTab S (a,e)).1.nm v (tkTab S (a,e)).1.key)∧w'.ownsRow w.heap.size 43 3 v (tkTab S (a,e)).1.cols.length (ccl (tkTab S (a,e)).1.cols))∧RD w' b S (tkTab S (a,e)).2.1 (tkTab S (a,e)).2.2∧Tch (fun i=>i=b) w w':=by
 obtain⟨j0,hj0,hz0,hz1,hz2⟩:=info_parts info_col
 have HI0:Hid _:=hj0
 have HZ0:Hid _:=hz0
 have HZ1:Hid _:=hz1
 have HZ2:Hid _:=hz2
 clear hj0 hz0 hz1 hz2
 have hb:=cell_lt h.st.c0
 obtain⟨w0,hw0⟩: ∃w0,w0=w.alloc (.cells #[.int .i64 0,.int .i64 0,.string ⟨#[]⟩,.slice none 0 0,.int .i64 0] 29):=⟨_,rfl⟩
 have b0:w0.heap[w.heap.size]? =some (.cells #[.int .i64 0,.int .i64 0,.string ⟨#[]⟩,.slice none 0 0,.int .i64 0] 29 (0,0)):=by rw[hw0];exact heap_new w _
 have t0:Tch (fun _=>False) w w0:=by rw[hw0];exact Tch.alloc _ _ _
 have q1:=rvar_any b S a e w0 (RD.no h t0) hS
 rw[hw0] at q1
 have HW0:Hid (w0=w.alloc (.cells #[.int .i64 0,.int .i64 0,.string ⟨#[]⟩,.slice none 0 0,.int .i64 0] 29)):=hw0
 unfold tkTab
 simp only
 obtain⟨A1,hA1⟩: ∃A,A=numR 9 127 S a e:=⟨_,rfl⟩
 rw[←hA1] at q1 ⊢
 obtain⟨A2,hA2⟩: ∃A,A=numR 9 127 S A1.2.1 A1.2.2:=⟨_,rfl⟩
 rw[←hA2]
 obtain⟨A3,hA3⟩: ∃A,A=textR 16 S A2.2.1 A2.2.2:=⟨_,rfl⟩
 rw[←hA3]
 obtain⟨A4,hA4⟩: ∃A,A=byteR S A3.2.1 A3.2.2:=⟨_,rfl⟩
 have hn:=byteR_lt S A3.2.1 A3.2.2
 rw[←hA4] at hn ⊢
 obtain⟨A5,hA5⟩: ∃A,A=tkCols S A4.1 A4.2 []:=⟨_,rfl⟩
 rw[←hA5]
 obtain⟨A6,hA6⟩: ∃A,A=byteR S A5.2.1 A5.2.2:=⟨_,rfl⟩
 rw[←hA6]
 have HA:Hid (A2=numR 9 127 S A1.2.1 A1.2.2∧A3=textR 16 S A2.2.1 A2.2.2∧A4=byteR S A3.2.1 A3.2.2∧A6=byteR S A5.2.1 A5.2.2):=⟨hA2,hA3,hA4,hA6⟩
 have HA5:Hid (A5=tkCols S A4.1 A4.2 []):=hA5
 have HT0:Hid (Tch (fun _=>False) w w0):=t0
 have HB0:Hid (w0.heap[w.heap.size]? =some (.cells #[.int .i64 0,.int .i64 0,.string ⟨#[]⟩,.slice none 0 0,.int .i64 0] 29 (0,0))):=b0
 clear hA1 hA2 hA3 hA4 hA5 hA6 h hw0 t0 b0
 go_enter Tryz.func228,Tryz.ntmps228
 go_wp2_with fail
 refine q1.mono ?_
 rintro x w1 ⟨rfl,h1,t1⟩
 rw[←HW0.out] at t1
 clear q1
 have q2:=rvar_any b S A1.2.1 A1.2.2 w1 h1 hS
 rw[←HA.out.1] at q2
 go_wp2_with fail
 refine q2.mono ?_
 rintro x w2 ⟨rfl,h2,t2⟩
 clear q2
 have q3:=rtext_any b S A2.2.1 A2.2.2 16 w2 h2 hS
 rw[←HA.out.2.1] at q3
 go_wp2_with fail
 refine q3.mono ?_
 rintro x w3 ⟨rfl,h3,t3⟩
 clear q3
 have T3:Tch (fun i=>i=b) w0 w3:=(t1.trans' t2).trans' t3
 have hz3:w.heap.size<w3.heap.size:=by
  have:=T3.size
  have:=blk_lt HB0.out
  omega
 obtain⟨i1,hi1⟩: ∃i1:Int,i1=(A1.1:Int):=⟨_,rfl⟩
 obtain⟨i2,hi2⟩: ∃i2:Int,i2=(A2.1:Int):=⟨_,rfl⟩
 obtain⟨nm,hnm⟩: ∃nm,nm=A3.1:=⟨_,rfl⟩
 rw[←hi1, ←hi2, ←hnm]
 have HI:Hid (i1=(A1.1:Int)∧i2=(A2.1:Int)∧nm=A3.1):=⟨hi1,hi2,hnm⟩
 clear t1 t2 t3 h1 h2 hi1 hi2 hnm
 obtain⟨w4,hw4⟩: ∃w4,w4=w3.alloc (.cells #[.int .i64 i1,.int .i64 i2,.string nm,.slice none 0 0,.int .i64 0] 29):=⟨_,rfl⟩
 have t4:Tch (fun _=>False) w3 w4:=by rw[hw4];exact Tch.alloc _ _ _
 have b4:w4.heap[w3.heap.size]? =some (.cells #[.int .i64 i1,.int .i64 i2,.string nm,.slice none 0 0,.int .i64 0] 29 (0,0)):=by rw[hw4];exact heap_new w3 _
 have q4:=rbyte_any b S A3.2.1 A3.2.2 w4 (RD.no h3 t4) hS
 rw[←HA.out.2.2.1,hw4] at q4
 have HW4:Hid (w4=w3.alloc (.cells #[.int .i64 i1,.int .i64 i2,.string nm,.slice none 0 0,.int .i64 0] 29)):=hw4
 have HT4:Hid (Tch (fun i=>i=b) w0 w4):=T3.trans t4 (fun _ _ h=>h.elim)
 clear hw4 t4 T3 h3
 go_wp2_with fail
 refine q4.mono ?_
 rintro x w5 ⟨rfl,h5,t5⟩
 rw[←HW4.out] at t5
 have b5:w5.heap[w3.heap.size]? =some (.cells #[.int .i64 i1,.int .i64 i2,.string nm,.slice none 0 0,.int .i64 0] 29 (0,0)):=by
  rw[t5.block _ (blk_lt b4) (by omega)];exact b4
 have T5:Tch (fun i=>i=b∨w3.heap.size≤i) w0 w5:=(HT4.out.trans' t5).mono (fun _ _ h=>Or.inl h)
 clear q4 b4 t5 HW4 HT4
 obtain⟨n,hnn⟩: ∃n,n=A4.1:=⟨_,rfl⟩
 have HNN:Hid (n=A4.1):=hnn
 rw[←hnn] at hn ⊢
 clear hnn
 go_wp2_with fail
 go_loopw [13] (fun i wr=> ∃(k:Nat) (p:Nat×Int) (l:List Col) (vo:Option Addr) (vc:Nat),i= .int .i64 k∧k≤n∧l.length=k∧Hid (A5=tkCols S (n - k) p l)∧RD wr b S p.1 p.2∧wr.heap[w3.heap.size]? =some (.cells #[.int .i64 i1,.int .i64 i2,.string nm,.slice vo k vc,.int .i64 0] 29 (0,0))∧wr.ownsRow (w3.heap.size+1) 43 3 (.slice vo k vc) k (ccl l)∧Tch (fun i=>i=b∨w3.heap.size≤i) w0 wr) (fun i _=>n - (intOf i).toNat)
 case atStart=>exact⟨0,A4.2,[],none,0,rfl,Nat.zero_le _,rfl,(by show _=_;rw[HA5.out,HNN.out];rfl),h5,b5,⟨rfl,Or.inl ⟨rfl,rfl⟩⟩,T5⟩
 case round=>
  obtain⟨k,p,l,vo,vc,rfl,hk,hlk,HX,hR,hM,hO,hT⟩:=hrel
  clear h5 b5 T5
  have hMb:=blk_lt hM
  by_cases hkn:k<n
  ·have hkn':(k:Int)<n:=by omega
   obtain⟨m0,m1,m2,m3,m4⟩:=blk5 hM
   have f3:=blk_frozen hM 3
   obtain⟨c,hc⟩: ∃c,c=(tkCol S p).1:=⟨_,rfl⟩
   obtain⟨p',hp'⟩: ∃p',p'=(tkCol S p).2:=⟨_,rfl⟩
   have HX':Hid (A5=tkCols S (n - (k+1)) p' (l++[c])):=by
    show _=_
    rw[HX.out,show n - k=n - (k+1)+1 by omega,tkCols_succ,hc,hp']
   have HQ:Hid (∀W,Tch (fun _=>False) wr W→Calls Tryz.prog 230 #[.pointer (some ⟨b,0,none⟩)] W fun x w'=>x= .returned (.agg #[.string c.nm,.int .i64 c.k,.bool c.nl])∧RD w' b S p'.1 p'.2∧Tch (fun i=>i=b) W w'):=fun W t=>by
    rw[hc,hp']
    exact takeColumn_any b S p.1 p.2 W (RD.no hR t) hS
   have hbk: ∀g,(Value.slice vo k vc).ownBlock=some g→g≠b∧w3.heap.size<g:=fun g hg=>by have:=row_ge hO hg;omega
   have HBK:Hid _:=hbk
   clear hc hp' HX hbk
   obtain⟨C,hC⟩: ∃C:List Value→World→Prop,C=fun st W=>match st with
    |[]=>Tch (fun _=>False) wr W
    |[y]=>y= .agg #[.string c.nm,.int .i64 c.k,.bool c.nl]∧RD W b S p'.1 p'.2∧Tch (fun i=>i=b) wr W
    |[_,z]=>(∃g,z= .slice (some ⟨g,0,none⟩) 1 1∧At W g 0 [.string c.nm,.int .i64 c.k,.bool c.nl])∧RD W b S p'.1 p'.2∧Tch (fun i=>i=b) wr W
    |[_,_,u]=>(∃vo' vc',u= .slice vo' (k+1) vc'∧W.ownsRow (w3.heap.size+1) 43 3 (.slice vo' (k+1) vc') (k+1) (ccl (l++[c])))∧RD W b S p'.1 p'.2∧Tch (fun i=>i=b∨(Value.slice vo k vc).ownBlock=some i) wr W
    |_=>False:=⟨_,rfl⟩
   have h0':C [] wr.drew:=by rw[hC];exact(Tch.refl _ _).drew
   have hKT: ∀s W,C s W→Tch (fun i=>i=b∨(Value.slice vo k vc).ownBlock=some i) wr W:=fun s W h=>by
    rw[hC] at h
    match s,h with
    |[],h=>exact Tch.mono h (fun _ _ h=>h.elim)
    |[y],h=>exact h.2.2.mono (fun _ _ h=>Or.inl h)
    |[_,z],h=>exact h.2.2.mono (fun _ _ h=>Or.inl h)
    |[_,_,u],h=>exact h.2.2
   have hKM: ∀s W,C s W→W.heap[w3.heap.size]? =some (.cells #[.int .i64 i1,.int .i64 i2,.string nm,.slice vo k vc,.int .i64 0] 29 (0,0)):=fun s W h=>by
    rw[(hKT s W h).block _ hMb (fun h=>by
     rcases h with h|h
     ·omega
     ·have:=(HBK.out _ h).2;omega)]
    exact hM
   have hK: ∀s W,C s W→W.cell? ⟨w3.heap.size,3,none⟩=some (.slice vo k vc):=fun s W h=>(blk5 (hKM s W h)).2.2.2.1
   have h3': ∀W,C [] W→Calls Tryz.prog 230 #[.pointer (some ⟨b,0,none⟩)] W fun x w'=>x= .returned (.agg #[.string c.nm,.int .i64 c.k,.bool c.nl])∧C [.agg #[.string c.nm,.int .i64 c.k,.bool c.nl]] w':=fun W h=>by
    rw[hC] at h ⊢
    have h:Tch (fun _=>False) wr W:=h
    refine(HQ.out W h).mono ?_
    rintro x w' ⟨rfl,h1,h2⟩
    exact⟨rfl,rfl,h1,(h.mono (fun _ _ h=>h.elim)).trans' h2⟩
   have h4': ∀W,C [.agg #[.string c.nm,.int .i64 c.k,.bool c.nl]] W→C [.agg #[.string c.nm,.int .i64 c.k,.bool c.nl],.slice (some ⟨W.heap.size,0,none⟩) 1 1] (W.alloc (.cells #[.string c.nm,.int .i64 c.k,.bool c.nl] 43)):=fun W h=>by
    rw[hC] at h ⊢
    exact⟨⟨W.heap.size,rfl,blk_at (alloc_new W (.cells ([.string c.nm,.int .i64 c.k,.bool c.nl]:List Value).toArray 43))⟩,RD.no h.2.1 (Tch.alloc _ _ _),h.2.2.allocR _⟩
   have h5': ∀g W,C [.agg #[.string c.nm,.int .i64 c.k,.bool c.nl],.slice (some ⟨g,0,none⟩) 1 1] W→ ∃vo' vc' w',(Builtin.append_ #[22,22] 22 #[.slice vo k vc,.slice (some ⟨g,0,none⟩) 1 1]).run Tryz.prog W= .ok (.slice vo' (k+1) vc') w'∧C [.agg #[.string c.nm,.int .i64 c.k,.bool c.nl],.slice (some ⟨g,0,none⟩) 1 1,.slice vo' (k+1) vc'] w':=fun g W h=>by
    rw[hC] at h
    obtain⟨⟨g',e,hg⟩,hRW,tW⟩:=h
    have e':g=g':=by simpa using e
    subst e'
    have hown:=own_tch hO tW (fun g hg=>(HBK.out g hg).1)
    obtain⟨v',w',hr,hown',hgr,hat,_⟩:=run_append_keeps (P:=Tryz.prog) W (w3.heap.size+1) 22 22 43 j0 (.agg #[.string ⟨#[]⟩,.int .i64 0,.bool false]) 3 32 Tryz.underlying22 HI0.out HZ0.out HZ1.out HZ2.out rfl (by decide) (.slice vo k vc) k (ccl l) hown ⟨g,0,none⟩ 1 1 [.string c.nm,.int .i64 c.k,.bool c.nl] rfl (fun j u hu=>by rw[add_plain];exact hg j u hu) (fun u hu=>by
     simp only[List.mem_cons,List.not_mem_nil,or_false] at hu
     rcases hu with rfl|rfl|rfl<;>rfl) (by have:maxLen=9223372036854775807:=rfl;omega) (by omega) (by have:=tW.size;omega)
    obtain⟨vo',vc',rfl⟩:=row_slice hown'
    refine⟨vo',vc',w',hr,?_⟩
    rw[hC]
    have tG:=grown_at (Tch.refl (fun _=>False) W) hgr
    refine⟨⟨vo',vc',rfl,by rw[ccl_snoc];exact hown'⟩,Go.Proofs.YtaiadknglhemaaaGreatDoor.RD.tch hRW tG (fun h=>(HBK.out _ h).1 rfl),(tW.mono (fun _ _ h=>Or.inl h)).trans' (tG.mono (fun _ _ h=>Or.inr h))⟩
   have hsh3: ∀y W,C [y] W→y= .agg #[.string c.nm,.int .i64 c.k,.bool c.nl]:=fun y W h=>by rw[hC] at h;exact h.1
   have hsh4: ∀y z W,C [y,z] W→ ∃g,z= .slice (some ⟨g,0,none⟩) 1 1:=fun y z W h=>by rw[hC] at h;obtain⟨⟨g,e,_⟩,_⟩:=h;exact⟨g,e⟩
   have hfin: ∀y z u W,C [y,z,u] W→(∃vo' vc',u= .slice vo' (k+1) vc'∧W.ownsRow (w3.heap.size+1) 43 3 (.slice vo' (k+1) vc') (k+1) (ccl (l++[c])))∧RD W b S p'.1 p'.2:=fun y z u W h=>by rw[hC] at h;exact⟨h.1,h.2.1⟩
   have HKM:Hid _:=hKM
   have HKT:Hid _:=hKT
   have HFIN:Hid _:=hfin
   clear hC hKM hKT hfin m0 m1 m2 m3 m4 f3
   go_wp2_with fail
   refine wp_region_ordv [3,4,5] C 6 [0,1,2,3,4,5] (by kernel_rfl) (by kernel_rfl) h0' ?_
   clear h0'
   refine ordv_read rfl (by go_simp) (by rfl) ?_
   apply Exists.intro
   refine⟨fun s' W hW b K Q hK'=>?_,fun K hK'=>?_⟩
   ·have m3:=hK _ W hW
    go_simp
    exact hK' W hW
   go_simp
   refine hK' _ ?_
   clear hK' K
   refine ordv_read rfl (by go_simp) (by rfl) ?_
   apply Exists.intro
   refine⟨fun s' W hW b K Q hK'=>?_,fun K hK'=>?_⟩
   ·have m3:=hK _ W hW
    go_simp
    exact hK' W hW
   go_simp
   refine hK' _ ?_
   clear hK' K
   refine ordv_read rfl (by go_simp) (by rfl) ?_
   apply Exists.intro
   refine⟨fun s' W hW b K Q hK'=>?_,fun K hK'=>?_⟩
   ·have m3:=hK _ W hW
    go_simp
    exact hK' W hW
   go_simp
   refine hK' _ ?_
   clear hK' K
   refine ordv_turn rfl (by go_simp) (by rfl) (fun W hW b K Q hK'=>?_) (fun u hu K hK'=>?_)
   ·go_simp
    refine(h3' W hW).mono ?_
    rintro x w' ⟨rfl,h1⟩
    exact hK' _ _ h1
   obtain⟨W',hW'⟩:=hu
   have hu:=hsh3 u W' hW'
   subst hu
   clear hW' W'
   go_simp
   refine hK' _ ?_
   clear hK' K
   refine ordv_turn rfl (by go_simp) (by rfl) (fun W hW b K Q hK'=>?_) (fun u hu K hK'=>?_)
   ·go_simp
    exact hK' _ _ (h4' W hW)
   obtain⟨g,rfl⟩: ∃g,u= .slice (some ⟨g,0,none⟩) 1 1:=by
    obtain⟨W',hW'⟩:=hu
    exact hsh4 _ u W' hW'
   clear hu
   go_simp
   refine hK' _ ?_
   clear hK' K
   refine ordv_turn rfl (by go_simp) (by rfl) (fun W hW=>?_) (fun u hu K hK'=>?_)
   ·obtain⟨vo',vc',w',hr,h1⟩:=h5' g W hW
    exact yv_append (.tmp 16) (.tmp 19) 22 rfl (.slice vo k vc) (.slice (some ⟨g,0,none⟩) 1 1) rfl rfl hr h1
   obtain⟨vo',vc',rfl⟩: ∃vo' vc',u= .slice vo' (k+1) vc':=by
    obtain⟨W',hW'⟩:=hu
    obtain⟨⟨vo',vc',e,_⟩,_⟩:=HFIN.out _ _ u W' hW'
    exact⟨vo',vc',e⟩
   clear hu
   go_simp
   refine hK' _ ?_
   clear hK' K
   refine ordv_nil ?_
   intro w6 hw6
   have hM6:=HKM.out _ _ hw6
   have hT6:=HKT.out _ _ hw6
   obtain⟨⟨vo2,vc2,e1,hO6⟩,hR6⟩:=HFIN.out _ _ _ _ hw6
   injection e1 with e1 e2 e3
   subst e1 e3
   clear e2 hw6 h3' h4' h5' hsh3 hsh4 hK HKM HKT HFIN HQ
   obtain⟨m0,m1,m2,m3,m4⟩:=blk5 hM6
   have f3:=blk_frozen hM6 3
   obtain⟨w7,hw7⟩: ∃w7,w7=w6.setCell ⟨w3.heap.size,3,none⟩ (.slice vo' (k+1) vc'):=⟨_,rfl⟩
   have t7:Tch (fun i=>i=w3.heap.size) w6 w7:=by rw[hw7];exact Tch.setCell _ _ _ _ rfl
   have hM7:w7.heap[w3.heap.size]? =some (.cells #[.int .i64 i1,.int .i64 i2,.string nm,.slice vo' (k+1) vc',.int .i64 0] 29 (0,0)):=by rw[hw7];exact blk_set hM6 _
   have hO7:=own_tch hO6 t7 (fun g hg h=>by have:=row_ge hO6 hg;omega)
   have hR7:=Go.Proofs.YtaiadknglhemaaaGreatDoor.RD.tch hR6 t7 (by omega)
   have hT7:Tch (fun i=>i=b∨w3.heap.size≤i) w0 w7:=(hT.trans' (hT6.mono (fun i _ h=>by
    rcases h with h|h
    ·exact Or.inl h
    ·exact Or.inr (by have:=(HBK.out _ h).2;omega)))).trans' (t7.mono (fun i _ h=>Or.inr (by omega)))
   have HW7:Hid (w7=w6.setCell ⟨w3.heap.size,3,none⟩ (.slice vo' (k+1) vc')):=hw7
   have HM7:Hid _:=hM7
   have HO7:Hid _:=hO7
   clear hw7 t7 hM7 hO7 hM6 hO6 hR6 hT6 hT hM hO hR
   go_wp2_with fail
   rw[←HW7.out]
   go_roundw
   case rel=>exact⟨k+1,p',l++[c],vo',vc',by go_num,by omega,by rw[List.length_append,List.length_singleton,hlk],HX',hR7,HM7.out,HO7.out,hT7⟩
   case measure=>simp[intOf];omega
  ·have hkn': ¬(k:Int)<n:=by omega
   have hke:k=n:=by omega
   subst hke
   have HX2:Hid (A5=(l,p)):=by
    show _=_
    rw[HX.out,Nat.sub_self];rfl
   have q6:=rbyte_any b S p.1 p.2 wr hR hS
   have e6:byteR S p.1 p.2=A6:=by rw[HA.out.2.2.2,HX2.out]
   rw[e6] at q6
   have HM:Hid _:=hM
   clear e6 HX hM
   go_wp2_with fail
   refine q6.mono ?_
   rintro x w6 ⟨rfl,h6,t6⟩
   clear q6
   have hM6:w6.heap[w3.heap.size]? =some (.cells #[.int .i64 i1,.int .i64 i2,.string nm,.slice vo k vc,.int .i64 0] 29 (0,0)):=by rw[t6.block _ hMb (by omega)];exact HM.out
   have hT6:Tch (fun i=>i=b∨w3.heap.size≤i) w0 w6:=hT.trans' (t6.mono (fun _ _ h=>Or.inl h))
   have hN6:w6.heap[w.heap.size]? =some (.cells #[.int .i64 0,.int .i64 0,.string ⟨#[]⟩,.slice none 0 0,.int .i64 0] 29 (0,0)):=by rw[hT6.block _ (blk_lt HB0.out) (by omega)];exact HB0.out
   have hO6:=own_tch hO t6 (fun g hg h=>by have:=row_ge hO hg;omega)
   obtain⟨m0,m1,m2,m3,m4⟩:=blk5 hM6
   have f4:=blk_frozen hM6 4
   obtain⟨y0,y1,y2,y3,y4⟩:=blk5 hN6
   have g0:=blk_frozen hN6 0;have g1:=blk_frozen hN6 1;have g2:=blk_frozen hN6 2;have g3:=blk_frozen hN6 3;have g4:=blk_frozen hN6 4
   have HV:Hid (∀W,Tch (fun i=>i=w3.heap.size∨i=w.heap.size) w6 W→W.ownsRow w.heap.size 43 3 (.slice vo k vc) l.length (ccl l)∧RD W b S A6.2.1 A6.2.2∧Tch (fun i=>i=b) w W):=fun W tW=>by
    refine⟨?_,Go.Proofs.YtaiadknglhemaaaGreatDoor.RD.tch h6 tW (by omega),?_⟩
    ·rw[hlk]
     exact own_low (own_tch hO6 tW (fun g hg h=>by have:=row_ge hO6 hg;omega)) (by omega)
    ·refine((HT0.out.mono (fun _ _ h=>h.elim)).trans hT6 (fun i hi h=>?_)).trans tW (fun i hi h=>?_)
     ·rcases h with h|h
      ·exact h
      ·omega
     ·omega
   have hne:w3.heap.size≠w.heap.size:=by omega
   have HLK:Hid (l.length=k):=hlk
   clear hM6 hN6 hO6 hO hT hT6 t6 h6 hR hlk HM
   go_wp2_with fail
   rw[HX2.out, ←HI.out.1, ←HI.out.2.1, ←HI.out.2.2]
   have hrs:Tryz.f228.results=#[.cell 2 29]:=by kernel_rfl
   refine bodyPost_ret (v:=tA i1 i2 nm (.slice vo k vc) A6.1) (by simp only[results,hrs];go_simp) rfl ⟨⟨.slice vo k vc,rfl,(HV.out _ ?_).1⟩,(HV.out _ ?_).2⟩
   all_goals exact(((((Tch.setCell (fun i=>i=w3.heap.size∨i=w.heap.size) w6 ⟨w3.heap.size,4,none⟩ _ (Or.inl rfl)).setCellR ⟨w.heap.size,0,none⟩ _ (Or.inr rfl)).setCellR ⟨w.heap.size,1,none⟩ _ (Or.inr rfl)).setCellR ⟨w.heap.size,2,none⟩ _ (Or.inr rfl)).setCellR ⟨w.heap.size,3,none⟩ _ (Or.inr rfl)).setCellR ⟨w.heap.size,4,none⟩ _ (Or.inr rfl)
end Go.Proofs.YtaiadknglhemaaaGreatDoor.C
