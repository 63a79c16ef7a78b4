import Derived.Test.YtaiadknglhemaaaGreatDoorBarred
import Derived.Test.YtaiadknglhemaaaGreatDoorOrdv
import Derived.Test.YtaiadknglhemaaaGreatDoorCCat
set_option maxHeartbeats 4000000
set_option maxRecDepth 100000
namespace Go.Proofs.YtaiadknglhemaaaGreatDoor.C
open Go.RowKit
theorem upd_ok (bs l:List UInt8):upd bs 0 l 0=(bs++l,0):=by simp[upd]
theorem wvar_ok (b:Nat) (bs:List UInt8) (n:Int) (w:World) (h:WS w b bs 0) (h0:0≤n) (hn:n≤9223372036854775807) (hlen:bs.length+10≤140737488355328):
  Calls Tryz.prog 108 #[.pointer (some ⟨b,0,none⟩),.int .i64 n] w fun x w'=>x= .returned (.tuple #[])∧WS w' b (bs++dg n.toNat) 0∧Tch (WT b w) w w':=by
 have q:=wvar_any b bs 0 n w h hn hlen
 have e:upd bs 0 (varL n) (varC n)=(bs++dg n.toNat,0):=by unfold varC varL;rw[if_neg (by omega)];exact upd_ok _ _
 rw[e] at q;exact q
theorem wtext_ok (b:Nat) (bs:List UInt8) (s:ByteArray) (most:Int) (w:World) (h:WS w b bs 0) (hs:(s.size:Int)≤most) (hlen:bs.length+10+s.size≤140737488355328):
  Calls Tryz.prog 74 #[.pointer (some ⟨b,0,none⟩),.string s,.int .i64 most] w fun x w'=>x= .returned (.tuple #[])∧WS w' b (bs++textL s) 0∧Tch (WT b w) w w':=by
 have q:=wtext_any b bs 0 s most w h hlen
 have e:upd bs 0 (textL s) (textC s most)=(bs++textL s,0):=by unfold textC;rw[if_neg (by omega),if_neg (by omega)];exact upd_ok _ _
 rw[e] at q;exact q
theorem wbyte1' (b:Nat) (bs:List UInt8) (n:Int) (z:Nat) (w:World) (h:WS w b bs 0) (hz:w.heap.size=z) (h0:0≤n) (h1:n≤255) (hlen:bs.length+1≤140737488355328):
  Calls Tryz.prog 32 #[.pointer (some ⟨b,0,none⟩),.slice (some ⟨z,0,none⟩) 1 1] (w.alloc (.cells #[.int .i64 n] 3)) fun x w'=>x= .returned (.tuple #[])∧WS w' b (bs++bytesL [n]) 0∧Tch (WT b w) w w':=wbyte1 b bs n z w h hz h0 h1 hlen
theorem wbyte2 (b:Nat) (bs:List UInt8) (n m:Int) (z:Nat) (w:World) (h:WS w b bs 0) (hz:w.heap.size=z) (h0:0≤n∧n≤255) (h1:0≤m∧m≤255) (hlen:bs.length+2≤140737488355328):
  Calls Tryz.prog 32 #[.pointer (some ⟨b,0,none⟩),.slice (some ⟨z,0,none⟩) 2 2] (w.alloc (.cells #[.int .i64 n,.int .i64 m] 3)) fun x w'=>x= .returned (.tuple #[])∧WS w' b (bs++bytesL [n,m]) 0∧Tch (WT b w) w w':=by
 subst hz
 have hb:=h.lt
 have:=wbyte_any b bs 0 [n,m] w.heap.size 2 _ (h.tch (Tch.alloc (fun _=>False) w (.cells #[.int .i64 n,.int .i64 m] 3)) (fun _ _ _ h=>h)) (by simpa using hlen) (by omega) ⟨_,_,heap_new w _⟩ (fun j hj=>by
  have hj2:j<2:=hj
  rcases j with _|_|j
  ·simp
  ·simp
  ·omega)
 refine this.mono ?_
 rintro x w' ⟨hx,h2,h3⟩
 have e:upd bs 0 (bytesL [n,m]) (bytesC [n,m])=(bs++bytesL [n,m],0):=by simp[upd,bytesC,byteOk,h0,h1]
 rw[e] at h2
 exact⟨hx,h2,wt_alloc h3⟩
theorem wt_keep {b:Nat} {w w':World} (t:Tch (WT b w) w w') {i:Nat} {cur:Array Value} {T:TypeId} {fr:Nat×Nat} (h:w.heap[i]? =some (.cells cur T fr)) (hT:T≠5) (hi:i≠b):w'.heap[i]? =some (.cells cur T fr):=by
 rw[t.block i (blk_lt h)]
 ·exact h
 ·rintro(h1|⟨_,c,f,h1⟩)
  ·exact hi h1
  ·rw[h] at h1
   simp at h1
   exact hT h1.2.1
theorem layRow_any (b:Nat) (bs:List UInt8) (vs:List Val) (ao:Option Addr) (c:Nat) (w:World) (h:WS w b bs 0) (hg:HE w) (hr:SL w ao (vcl vs)) (hi: ∀v∈vs,v.i64) (hl:vs.length≤9223372036854775807) (hlen:bs.length+2000≤140737488355328):
  Calls Tryz.prog 199 #[.pointer (some ⟨b,0,none⟩),.slice ao vs.length c] w fun x w'=>x= .returned (.tuple #[])∧WS w' b (bs++rowL vs) 0∧Tch (WT b w) w w':=by
 have q:=encode_row vs ao c w hg hr hi hl
 have hle:=encR_len vs
 have hsz:(⟨(encR vs).1.toArray⟩:ByteArray).size=(encR vs).1.length:=by show(encR vs).1.toArray.size=_;simp
 have q2: ∀w1,Tch (fun _=>False) w w1→Calls Tryz.prog 74 #[.pointer (some ⟨b,0,none⟩),.string ⟨(encR vs).1.toArray⟩,.int .i64 4000] w1 fun x w'=>x= .returned (.tuple #[])∧WS w' b (bs++rowL vs) 0∧Tch (WT b w1) w1 w':=fun w1 t=>
  wtext_ok b bs ⟨(encR vs).1.toArray⟩ 4000 w1 (h.tch t (fun _ _ _ h=>h)) (by rw[hsz];omega) (by rw[hsz];omega)
 obtain⟨E,hE⟩: ∃E,E=(encR vs).2:=⟨_,rfl⟩
 obtain⟨s,hs⟩: ∃s:ByteArray,s=⟨(encR vs).1.toArray⟩:=⟨_,rfl⟩
 rw[←hE, ←hs] at q
 rw[←hs] at q2
 have HQ2:Hid _:=q2
 obtain⟨n,hn⟩: ∃n,n=vs.length:=⟨_,rfl⟩
 rw[←hn] at q ⊢
 clear hn hE hs q2 hsz hle hlen hl hi hr hg h
 go_enter Tryz.func199,Tryz.ntmps199
 go_wp2_with (go_at_call 16;refine q.mono ?_;rintro x w1 ⟨rfl,t1⟩)
 refine(HQ2.out w1 t1).mono ?_
 rintro x w2 ⟨rfl,h2,t2⟩
 go_wp2_with fail
 go_end0
 exact⟨rfl,h2,wt_new t1 t2⟩
theorem colL_len {c:Col} (h:nmOk c.nm=true):(colL c).length≤30:=by
 have h1:=nm_size h
 have h2:=fol_dg_len c.nm.size
 have h3:c.nm.data.toList.length=c.nm.size:=by simp
 have h4:(bytesL [c.k,nb c.nl]).length=2:=rfl
 unfold colL textL
 simp only[List.length_append]
 omega
theorem colsL_len: ∀ {l:List Col},(∀c∈l,nmOk c.nm=true∧kdOk c.k=true)→(colsL l).length≤l.length*30
 |[],_=>by simp[colsL]
 |c::l,h=>by
  have e:colsL (c::l)=colL c++colsL l:=List.flatMap_cons
  have h1:=colL_len (h c (by simp)).1
  have h2:=colsL_len (l:=l) (fun x hx=>h x (by simp[hx]))
  rw[e,List.length_append,List.length_cons];omega
theorem colsL_succ (l:List Col) (k:Nat) (hk:k<l.length):colsL (l.take (k+1))=colsL (l.take k)++colL l[k]:=by
 have h:l.take (k+1)=l.take k++[l[k]]:=(List.take_append_getElem hk).symm
 unfold colsL
 rw[h,List.flatMap_append,List.flatMap_cons,List.flatMap_nil,List.append_nil]
theorem SL.ge {b:Nat} {w w':World} {ao:Option Addr} {cs:List Value} (h:SL w ao cs) (t:Tch (fun i=>b≤i) w w') (hb: ∀g o,ao=some ⟨g,o,none⟩→g<b):SL w' ao cs:=h.tch t (fun g o e hs=>by have:=hb g o e;omega)
theorem blk5 {W:World} {g:Nat} {a b c d e:Value} {T:TypeId} {fr:Nat×Nat} (h:W.heap[g]? =some (.cells #[a,b,c,d,e] T fr)):W.cell? ⟨g,0,none⟩=some a∧W.cell? ⟨g,1,none⟩=some b∧W.cell? ⟨g,2,none⟩=some c∧W.cell? ⟨g,3,none⟩=some d∧W.cell? ⟨g,4,none⟩=some e:=
 ⟨blk_cell h 0,blk_cell h 1,blk_cell h 2,blk_cell h 3,blk_cell h 4⟩
theorem blk3 {W:World} {g:Nat} {a b c:Value} {T:TypeId} {fr:Nat×Nat} (h:W.heap[g]? =some (.cells #[a,b,c] T fr)):W.cell? ⟨g,0,none⟩=some a∧W.cell? ⟨g,1,none⟩=some b∧W.cell? ⟨g,2,none⟩=some c:=
 ⟨blk_cell h 0,blk_cell h 1,blk_cell h 2⟩
theorem layTable_any (b:Nat) (bs:List UInt8) (t:Tbl) (ao:Option Addr) (c:Nat) (w:World) (h:WS w b bs 0) (ht:RT t) (hr:SL w ao (ccl t.cols)) (hb: ∀g o,ao=some ⟨g,o,none⟩→g<b) (hlen:bs.length+1000≤140737488355328):
  Calls Tryz.prog 227 #[.pointer (some ⟨b,0,none⟩),tA t.id t.ver t.nm (.slice ao t.cols.length c) t.key] w fun x w'=>x= .returned (.tuple #[])∧WS w' b (bs++tabL t) 0∧Tch (WT b w) w w':=by
 have i1:=ht.id
 have i2:=ht.ver
 have i3:=nm_size ht.nm
 have i4:=ht.len
 have i5:=ht.key
 have HC:Hid (∀c∈t.cols,nmOk c.nm=true∧kdOk c.k=true):=ht.cols
 obtain⟨n,hn⟩: ∃n,n=t.cols.length:=⟨_,rfl⟩
 have hlt:=h.lt
 obtain⟨w0,hw0⟩: ∃w0,w0=w.alloc (.cells #[.int .i64 t.id,.int .i64 t.ver,.string t.nm,.slice ao n c,.int .i64 t.key] 29):=⟨_,rfl⟩
 have t0:Tch (fun _=>False) w w0:=by rw[hw0];exact Tch.alloc _ _ _
 have b0:w0.heap[w.heap.size]? =some (.cells #[.int .i64 t.id,.int .i64 t.ver,.string t.nm,.slice ao n c,.int .i64 t.key] 29 (0,0)):=by rw[hw0];exact heap_new w _
 have HK:Hid (∀W,Tch (WT b w0) w0 W→W.heap[w.heap.size]? =some (.cells #[.int .i64 t.id,.int .i64 t.ver,.string t.nm,.slice ao n c,.int .i64 t.key] 29 (0,0))∧SL W ao (ccl t.cols)):=fun W T=>
  ⟨wt_keep T b0 (by decide) (by omega),(hr.no t0).ge (wt_le T) hb⟩
 have h0:WS w0 b bs 0:=h.tch t0 (fun _ _ _ h=>h)
 have HT0:Hid (Tch (fun _=>False) w w0):=t0
 have HW0:Hid (w0=w.alloc (.cells #[.int .i64 t.id,.int .i64 t.ver,.string t.nm,.slice ao n c,.int .i64 t.key] 29)):=hw0
 have HNN:Hid (n=t.cols.length):=hn
 obtain⟨e0,e1,e2,e3,e4⟩:=blk5 b0
 rw[←hn] at i4 i5 ⊢
 clear h hr hb ht t0 b0 hn hw0
 go_enter Tryz.func227,Tryz.ntmps227
 go_wp2_with fail
 have q0:=wvar_ok b bs t.id w0 h0 (by omega) (by omega) (by omega)
 rw[HW0.out] at q0
 refine q0.mono ?_
 rintro x w1 ⟨rfl,h1,t1⟩
 rw[←HW0.out] at t1
 clear q0
 have l1:=fol_dg_len t.id.toNat
 obtain⟨b1, -⟩:=HK.out _ t1
 obtain⟨f0,f1,f2,f3,f4⟩:=blk5 b1
 clear e0 e1 e2 e3 e4 h0 b1 HW0
 go_wp2_with fail
 refine(wvar_ok b _ t.ver w1 h1 (by omega) (by omega) (by rw[List.length_append];omega)).mono ?_
 rintro x w2 ⟨rfl,h2,t2⟩
 have l2:=fol_dg_len t.ver.toNat
 have T2:=wt_trans t1 t2
 obtain⟨b1, -⟩:=HK.out _ T2
 clear f0 f1 f2 f3 f4 h1 t1 t2
 obtain⟨f0,f1,f2,f3,f4⟩:=blk5 b1
 clear b1
 go_wp2_with fail
 refine(wtext_ok b _ t.nm 16 w2 h2 (by omega) (by rw[List.length_append,List.length_append];omega)).mono ?_
 rintro x w3 ⟨rfl,h3,t3⟩
 have l3:(textL t.nm).length≤26:=by
  have h2:=fol_dg_len t.nm.size
  have h3:t.nm.data.toList.length=t.nm.size:=by simp
  unfold textL;rw[List.length_append];omega
 have T3:=wt_trans T2 t3
 obtain⟨b1, -⟩:=HK.out _ T3
 clear f0 f1 f2 f3 f4 h2 T2 t3
 obtain⟨f0,f1,f2,f3,f4⟩:=blk5 b1
 clear b1
 go_wp2_with fail
 refine(wbyte1' b _ n _ w3 h3 (by simp) (by omega) (by omega) (by simp only[List.length_append];omega)).mono ?_
 rintro x w4 ⟨rfl,h4,t4⟩
 have T4:=wt_trans T3 t4
 obtain⟨b1, -⟩:=HK.out _ T4
 clear f0 f1 f2 f3 f4 h3 T3 t4
 obtain⟨f0,f1,f2,f3,f4⟩:=blk5 b1
 clear b1
 obtain⟨B,hB⟩: ∃B,B=bs++dg t.id.toNat++dg t.ver.toNat++textL t.nm++bytesL [(n:Int)]:=⟨_,rfl⟩
 have lB:B.length≤bs.length+47:=by
  have:(bytesL [(n:Int)]).length=1:=rfl
  rw[hB];simp only[List.length_append];omega
 rw[←hB] at h4
 have HB:Hid (B=bs++dg t.id.toNat++dg t.ver.toNat++textL t.nm++bytesL [(n:Int)]):=hB
 clear hB l1 l2 l3
 go_wp2_with fail
 go_loopw [27] (fun i wr=> ∃k:Nat,i= .int .i64 k∧k≤n∧WS wr b (B++colsL (t.cols.take k)) 0∧Tch (WT b w0) w0 wr) (fun i _=>n - (intOf i).toNat)
 case atStart=>exact⟨0,rfl,Nat.zero_le _,by simpa[colsL] using h4,T4⟩
 case round=>
  obtain⟨k,rfl,hk,hW,hT⟩:=hrel
  clear h4 T4 f0 f1 f2 f3 f4
  have HCt:Hid (∀c∈t.cols.take k,nmOk c.nm=true∧kdOk c.k=true):=fun c hc=>HC.out c (List.mem_of_mem_take hc)
  have lc:=colsL_len HCt.out
  have lk:(t.cols.take k).length≤8:=by rw[List.length_take];omega
  obtain⟨b1,hs⟩:=HK.out _ hT
  have hwl:=hW.lt
  by_cases hkn:k<n
  ·have hkn':(k:Int)<n:=by omega
   have hkc:k<t.cols.length:=by have:=HNN.out;omega
   obtain⟨g,o,rfl,ha⟩:=hs.col hkc
   obtain⟨c0,c1,c2⟩:=ha.col k hkc
   obtain⟨cl,hcl⟩: ∃cl,cl=t.cols[k]:=⟨_,rfl⟩
   have hcm:=HC.out cl (by rw[hcl];exact List.getElem_mem hkc)
   have hnk:=nm_size hcm.1
   have hkd:=kd_rng hcm.2
   have hnb:=nb_rng cl.nl
   have HS:Hid (colsL (t.cols.take (k+1))=colsL (t.cols.take k)++colL cl):=by show _=_;rw[hcl];exact colsL_succ _ _ hkc
   rw[←hcl] at c0 c1 c2
   clear hcl ha hs b1
   obtain⟨wb,hwb⟩: ∃wb,wb=wr.alloc (.cells #[.string cl.nm,.int .i64 cl.k,.bool cl.nl] 43):=⟨_,rfl⟩
   have tb:Tch (fun _=>False) wr wb:=by rw[hwb];exact Tch.alloc _ _ _
   have bb:wb.heap[wr.heap.size]? =some (.cells #[.string cl.nm,.int .i64 cl.k,.bool cl.nl] 43 (0,0)):=by rw[hwb];exact heap_new wr _
   have hWb:=hW.tch tb (fun _ _ _ h=>h)
   have HWB:Hid (wb=wr.alloc (.cells #[.string cl.nm,.int .i64 cl.k,.bool cl.nl] 43)):=hwb
   have HTB:Hid (Tch (WT b w0) w0 wb):=wt_trans hT (wt_new tb (Tch.refl _ _))
   obtain⟨g0,g1,g2⟩:=blk3 bb
   clear hwb tb hW hT
   go_wp2_with fail
   have q5:=wtext_ok b _ cl.nm 16 wb hWb (by omega) (by rw[List.length_append];omega)
   rw[HWB.out] at q5
   refine q5.mono ?_
   rintro x w5 ⟨rfl,h5,t5⟩
   rw[←HWB.out] at t5
   clear q5
   have l5:(textL cl.nm).length≤26:=by
    have h2:=fol_dg_len cl.nm.size
    have h3:cl.nm.data.toList.length=cl.nm.size:=by simp
    unfold textL;rw[List.length_append];omega
   have bb5:=wt_keep t5 bb (by decide) (by omega)
   have HT5:Hid (Tch (WT b w0) w0 w5):=wt_trans HTB.out t5
   clear g0 g1 g2 c0 c1 c2 hWb bb t5 HTB HWB
   obtain⟨g0,g1,g2⟩:=blk3 bb5
   clear bb5
   have qn:=nullByte_any cl.nl
   obtain⟨C,hC⟩: ∃C:List Value→World→Prop,C=fun st W=>match st with
    |[]=>Tch (fun _=>False) w5 W
    |[y]=> ∃W0,Tch (fun _=>False) w5 W0∧y= .slice (some ⟨W0.heap.size,0,none⟩) 2 2∧W=W0.alloc (.cells #[.int .i64 cl.k,.int .i64 (nb cl.nl)] 3)
    |_=>False:=⟨_,rfl⟩
   have h0':C [] w5.drew:=by rw[hC];exact(Tch.refl _ _).drew
   have hKc: ∀s W,C s W→W.cell? ⟨wr.heap.size,1,none⟩=some (.int .i64 cl.k)∧W.cell? ⟨wr.heap.size,2,none⟩=some (.bool cl.nl):=fun s W h=>by
    have T:Tch (fun _=>False) w5 W:=by
     rw[hC] at h
     match s,h with
     |[],h=>exact h
     |[y],h=>obtain⟨W0,h1,_,rfl⟩:=h;exact h1.allocR _
    exact⟨(T.cell (p:=⟨_,_,none⟩) (cell_lt g1) (fun h=>h)).trans g1,(T.cell (p:=⟨_,_,none⟩) (cell_lt g2) (fun h=>h)).trans g2⟩
   have h6: ∀W,C [] W→C [.slice (some ⟨W.heap.size,0,none⟩) 2 2] (W.alloc (.cells #[.int .i64 cl.k,.int .i64 (nb cl.nl)] 3)):=fun W h=>by
    rw[hC] at h ⊢
    exact⟨W,h,rfl,rfl⟩
   have hsh: ∀y W,C [y] W→ ∃g,y= .slice (some ⟨g,0,none⟩) 2 2:=fun y W h=>by
    rw[hC] at h
    obtain⟨W0,_,e,_⟩:=h
    exact⟨_,e⟩
   have Hfin:Hid (∀g W,C [.slice (some ⟨g,0,none⟩) 2 2] W→ ∃W0,Tch (fun _=>False) w5 W0∧g=W0.heap.size∧W=W0.alloc (.cells #[.int .i64 cl.k,.int .i64 (nb cl.nl)] 3)):=fun g W h=>by
    rw[hC] at h
    obtain⟨W0,h1,e,h2⟩:=h
    have e':g=W0.heap.size:=by simpa using e
    exact⟨W0,h1,e',h2⟩
   clear hC g0 g1 g2
   go_wp2_with fail
   refine wp_region_ordv [6] C 7 [0,1,2,3,4,5,6] (by kernel_rfl) (by kernel_rfl) h0' ?_
   clear h0'
   refine ordv_read rfl (by go_simp) (by rfl) ?_
   apply Exists.intro
   refine⟨fun s' W hW b K Q hK'=>?_,fun K hK'=>?_⟩
   ·obtain⟨g1,g2⟩:=hKc _ W hW
    go_simp
    exact hK' W hW
   go_simp
   refine hK' _ ?_
   clear hK' K
   refine ordv_read rfl (by go_simp) (by rfl) ?_
   apply Exists.intro
   refine⟨fun s' W hW b K Q hK'=>?_,fun K hK'=>?_⟩
   ·obtain⟨g1,g2⟩:=hKc _ W hW
    go_simp
    exact hK' W hW
   go_simp
   refine hK' _ ?_
   clear hK' K
   refine ordv_read rfl (by go_simp) (by rfl) ?_
   apply Exists.intro
   refine⟨fun s' W hW b K Q hK'=>?_,fun K hK'=>?_⟩
   ·obtain⟨g1,g2⟩:=hKc _ W hW
    go_simp
    exact hK' W hW
   go_simp
   refine hK' _ ?_
   clear hK' K
   refine ordv_read rfl (by go_simp) (by rfl) ?_
   apply Exists.intro
   refine⟨fun s' W hW b K Q hK'=>?_,fun K hK'=>?_⟩
   ·obtain⟨g1,g2⟩:=hKc _ W hW
    go_simp
    exact hK' W hW
   go_simp
   refine hK' _ ?_
   clear hK' K
   refine ordv_read rfl (by go_simp) (by rfl) ?_
   apply Exists.intro
   refine⟨fun s' W hW b K Q hK'=>?_,fun K hK'=>?_⟩
   ·obtain⟨g1,g2⟩:=hKc _ W hW
    go_simp
    exact hK' W hW
   go_simp
   refine hK' _ ?_
   clear hK' K
   refine ordv_read rfl (by go_simp) (by rfl) ?_
   apply Exists.intro
   refine⟨fun s' W hW b K Q hK'=>?_,fun K hK'=>?_⟩
   ·obtain⟨g1,g2⟩:=hKc _ W hW
    go_simp
    go_at_call 229
    refine(qn W).mono ?_
    rintro x w6 ⟨rfl,rfl⟩
    exact hK' _ hW
   go_simp
   refine hK' _ ?_
   clear hK' K
   refine ordv_turn rfl (by go_simp) (by rfl) (fun W hW b K Q hK'=>?_) (fun u hu K hK'=>?_)
   ·go_simp
    exact hK' _ _ (h6 W hW)
   obtain⟨g,rfl⟩: ∃g,u= .slice (some ⟨g,0,none⟩) 2 2:=by
    obtain⟨W',hW'⟩:=hu
    exact hsh _ _ hW'
   go_simp
   refine hK' _ ?_
   clear hK' K
   refine ordv_nil ?_
   intro w6 hw6
   obtain⟨W0,tW0,rfl,rfl⟩:=Hfin.out _ _ hw6
   clear hw6 h6 hsh hKc hu Hfin
   go_wp2_with fail
   refine(wbyte2 b _ cl.k (nb cl.nl) _ W0 (h5.tch tW0 (fun _ _ _ h=>h)) rfl hkd hnb (by simp only[List.length_append];omega)).mono ?_
   rintro x w7 ⟨rfl,h7,t7⟩
   have T7:Tch (WT b w0) w0 w7:=wt_trans HT5.out (wt_new tW0 t7)
   clear h5 t7
   go_wp2_with fail
   go_roundw
   case rel=>
    refine⟨k+1,by go_num,by omega,?_,T7⟩
    show WS _ _ _ _
    rw[HS.out]
    unfold colL
    simpa only[List.append_assoc] using h7
   case measure=>simp[intOf];omega
  ·have hkn': ¬(k:Int)<n:=by omega
   have hke:k=n:=by omega
   have HTk:Hid (t.cols.take k=t.cols):=by
    show _=_
    rw[List.take_of_length_le];have:=HNN.out;omega
   obtain⟨f0,f1,f2,f3,f4⟩:=blk5 b1
   clear hs b1
   go_wp2_with fail
   refine(wbyte1' b _ t.key _ wr hW (by simp) (by omega) (by omega) (by simp only[List.length_append];omega)).mono ?_
   rintro x w4 ⟨rfl,h4,t4⟩
   have T4:=wt_trans hT t4
   go_wp2_with fail
   go_end0
   refine⟨rfl,?_,wt_new HT0.out T4⟩
   rw[HTk.out,HB.out] at h4
   unfold tabL
   rw[←HNN.out]
   simpa only[List.append_assoc] using h4
theorem textR_sz (m:Int) (S:ByteArray) (a:Nat) (e:Int):(textR m S a e).1.size≤S.size:=by
 unfold textR
 split
 ·exact Nat.zero_le _
 ·split
  ·exact Nat.zero_le _
  ·rcases hd:dgs 9 127 (S.data.toList.drop a) 0 0 with⟨n,k,c⟩
   simp only
   split
   ·exact Nat.zero_le _
   ·split
    ·exact Nat.zero_le _
    ·split
     ·exact Nat.zero_le _
     ·rw[ByteArray.size_extract];omega
theorem vcl_get (vs:List Val) (cur:Array Value) (hs:cur.size=vs.length*3) (h: ∀k (hk:k<vs.length),cur[k*3]? =some (.int .i64 vs[k].k)∧cur[k*3+1]? =some (.int .i64 vs[k].n)∧cur[k*3+2]? =some (.string vs[k].s)):cur.toList=vcl vs:=by
 apply List.ext_getElem?
 intro j
 by_cases hj:j<vs.length*3
 ·obtain⟨k,i,hi,rfl⟩: ∃k i,i<3∧j=k*3+i:=⟨j / 3,j % 3,by omega,by omega⟩
  have hk:k<vs.length:=by omega
  obtain⟨h0,h1,h2⟩:=h k hk
  obtain⟨g0,g1,g2⟩:=f3_get (fun v:Val=>Value.int .i64 v.k) (fun v=>.int .i64 v.n) (fun v=>.string v.s) vs k hk
  have e: ∀j,cur.toList[j]? =cur[j]? :=fun j=>Array.getElem?_toList
  rw[e]
  unfold vcl
  rcases(by omega:i=0∨i=1∨i=2) with rfl|rfl|rfl
  ·exact h0.trans g0.symm
  ·exact h1.trans g1.symm
  ·exact h2.trans g2.symm
 ·rw[List.getElem?_eq_none (by simp;omega),List.getElem?_eq_none (by rw[vcl_len];omega)]
theorem own_row {W:World} {base R:Nat} {vs:List Val} (h:RowNew W R vs) (hb:base≤R) (hl:vs.length≤8):W.ownsRow base 58 3 (.slice (some ⟨R,0,none⟩) vs.length vs.length) vs.length (vcl vs):=by
 obtain⟨ha,cur,hh,hs⟩:=h
 refine⟨vcl_len vs,Or.inr ⟨R,vs.length,cur,rfl,hb,hh,Nat.le_refl _,?_,hs,?_⟩⟩
 ·have:maxLen=9223372036854775807:=rfl
  omega
 ·rw[List.take_of_length_le (by simp[hs])]
  refine vcl_get vs cur hs (fun k hk=>?_)
  have:=ha k hk
  simp only[Nat.zero_add] at this
  rw[blk_cell hh,blk_cell hh,blk_cell hh] at this
  exact this
theorem tkRow_len (S:ByteArray) (p:Nat×Int):(tkRow S p).1.length≤8:=by
 unfold tkRow
 simp only
 rcases hd:decR (textR 4000 S p.1 p.2).1 with _|vs
 ·simp
 ·exact(dec_enc hd).2.1
theorem takeRow_any (b:Nat) (S:ByteArray) (a:Nat) (e:Int) (w:World) (h:RD w b S a e) (hg:HE w) (hgb:1≠b) (hS:S.size≤281474976710656):
  Calls Tryz.prog 200 #[.pointer (some ⟨b,0,none⟩)] w fun x w'=>(∃v,x= .returned v∧w'.ownsRow w.heap.size 58 3 v (tkRow S (a,e)).1.length (vcl (tkRow S (a,e)).1))∧RD w' b S (tkRow S (a,e)).2.1 (tkRow S (a,e)).2.2∧Tch (fun i=>i=b) w w':=by
 have q1:=rtext_any b S a e 4000 w h hS
 have hsz:=textR_sz 4000 S a e
 have q2: ∀w1,Tch (fun i=>i=b) w w1→Calls Tryz.prog 201 #[.string (textR 4000 S a e).1] w1 fun x w'=>DecOut (textR 4000 S a e).1 w1 x w'∧Tch (fun _=>False) w1 w':=fun w1 t=>
  decode_any (textR 4000 S a e).1 w1 (hg.tch t hgb) (by omega)
 have HQ2:Hid _:=q2
 have e1:(tkRow S (a,e)).2=(textR 4000 S a e).2:=rfl
 have e2:(tkRow S (a,e)).1=(decR (textR 4000 S a e).1).getD []:=rfl
 have hl:=tkRow_len S (a,e)
 have hb:=cell_lt h.st.c0
 rw[e2] at hl
 rw[e1,e2]
 obtain⟨T,hT⟩: ∃T,T=(textR 4000 S a e).1:=⟨_,rfl⟩
 rw[←hT] at q1 HQ2 hl ⊢
 obtain⟨A,hA⟩: ∃A,A=(textR 4000 S a e).2:=⟨_,rfl⟩
 rw[←hA] at q1 ⊢
 obtain⟨V,hV⟩: ∃V,V=(decR T).getD []:=⟨_,rfl⟩
 rw[←hV] at hl ⊢
 have HV:Hid (V=(decR T).getD []):=hV
 clear hA hT e1 e2 hsz q2 h hg hV
 go_enter Tryz.func200,Tryz.ntmps200
 go_wp2_with fail
 refine q1.mono ?_
 rintro x w1 ⟨rfl,h1,t1⟩
 go_wp2_with fail
 refine(HQ2.out w1 t1).mono ?_
 rintro x w2 ⟨h2,t2⟩
 have HR:Hid (RD w2 b S A.1 A.2):=h1.tch t2 (fun h=>h)
 have HT:Hid (Tch (fun i=>i=b) w w2):=t1.trans t2 (fun _ _ h=>h.elim)
 have hz:=t1.size
 unfold DecOut at h2
 rcases hd:decR T with _|vs
 ·have hV:=HV.out
  rw[hd] at h2 hV
  simp only[Option.getD_none] at h2 hV
  subst h2 hV
  go_wp2_with fail
  go_ret
  exact⟨⟨_,rfl,rfl,Or.inl ⟨rfl,rfl⟩⟩,HR.out,HT.out⟩
 ·have hV:=HV.out
  rw[hd] at h2 hV
  simp only[Option.getD_some] at h2 hV
  subst hV
  obtain⟨R,hR,rfl,hN⟩:=h2
  have HN:Hid _:=own_row hN (Nat.le_trans hz hR) hl
  clear hN hl
  go_wp2_with fail
  go_ret
  exact⟨⟨_,rfl,HN.out⟩,HR.out,HT.out⟩
theorem RD.no {w w':World} {b:Nat} {S:ByteArray} {a:Nat} {e:Int} (h:RD w b S a e) (t:Tch (fun _=>False) w w'):RD w' b S a e:=Go.Proofs.YtaiadknglhemaaaGreatDoor.RD.tch h t (fun h=>h)
theorem byteR_int (S:ByteArray) (a:Nat) (e:Int):((byteR S a e).1:Int)≤255:=by have:=byteR_lt S a e;omega
theorem takeColumn_any (b:Nat) (S:ByteArray) (a:Nat) (e:Int) (w:World) (h:RD w b S a e) (hS:S.size≤281474976710656):
  Calls Tryz.prog 230 #[.pointer (some ⟨b,0,none⟩)] w fun x w'=>x= .returned (.agg #[.string (tkCol S (a,e)).1.nm,.int .i64 (tkCol S (a,e)).1.k,.bool (tkCol S (a,e)).1.nl])∧RD w' b S (tkCol S (a,e)).2.1 (tkCol S (a,e)).2.2∧Tch (fun i=>i=b) w w':=by
 have hb:=cell_lt h.st.c0
 have h0:=RD.no h (Tch.alloc (fun _=>False) w (.cells #[.string ⟨#[]⟩,.int .i64 0,.bool false] 43))
 have b0:=heap_new w (.cells #[.string ⟨#[]⟩,.int .i64 0,.bool false] 43)
 obtain⟨w0,hw0⟩: ∃w0,w0=w.alloc (.cells #[.string ⟨#[]⟩,.int .i64 0,.bool false] 43):=⟨_,rfl⟩
 have t0:Tch (fun i=>i=b) w w0:=by rw[hw0];exact Tch.alloc _ _ _
 rw[←hw0] at h0 b0
 have q1:=rtext_any b S a e 16 w0 h0 hS
 rw[hw0] at q1
 have HW0:Hid (w0=w.alloc (.cells #[.string ⟨#[]⟩,.int .i64 0,.bool false] 43)):=hw0
 unfold tkCol
 simp only
 obtain⟨A,hA⟩: ∃A,A=textR 16 S a e:=⟨_,rfl⟩
 rw[←hA] at q1 ⊢
 obtain⟨B,hB⟩: ∃B,B=byteR S A.2.1 A.2.2:=⟨_,rfl⟩
 have hB1:=byteR_int S A.2.1 A.2.2
 rw[←hB] at hB1 ⊢
 obtain⟨D,hD⟩: ∃D,D=byteR S B.2.1 B.2.2:=⟨_,rfl⟩
 have hD1:=byteR_int S B.2.1 B.2.2
 rw[←hD] at hD1 ⊢
 have HB:Hid (B=byteR S A.2.1 A.2.2∧D=byteR S B.2.1 B.2.2):=⟨hB,hD⟩
 clear hA hB hD hw0 h0 h
 go_enter Tryz.func230,Tryz.ntmps230
 go_wp2_with fail
 refine q1.mono ?_
 rintro x w1 ⟨rfl,h1,t1⟩
 rw[←HW0.out] at t1
 clear q1
 have q2:=rbyte_any b S A.2.1 A.2.2 w1 h1 hS
 rw[←HB.out.1] at q2
 go_wp2_with fail
 refine q2.mono ?_
 rintro x w2 ⟨rfl,h2,t2⟩
 clear q2
 have q3:=rbyte_any b S B.2.1 B.2.2 w2 h2 hS
 rw[←HB.out.2] at q3
 go_wp2_with fail
 refine q3.mono ?_
 rintro x w3 ⟨rfl,h3,t3⟩
 clear q3
 have HT:Hid (Tch (fun i=>i=b) w0 w3):=(t1.trans' t2).trans' t3
 have b3:w3.heap[w.heap.size]? =some (.cells #[.string ⟨#[]⟩,.int .i64 0,.bool false] 43 (0,0)):=by
  rw[HT.out.block _ (blk_lt b0) (by omega)];exact b0
 obtain⟨y0,y1,y2⟩:=blk3 b3
 have g0:=blk_frozen b3 0
 have g1:=blk_frozen b3 1
 have g2:=blk_frozen b3 2
 have HR:Hid (∀W,Tch (fun i=>i=w.heap.size) w3 W→RD W b S D.2.1 D.2.2∧Tch (fun i=>i=b) w W):=fun W tW=>
  ⟨Go.Proofs.YtaiadknglhemaaaGreatDoor.RD.tch h3 tW (by omega),(t0.trans' HT.out).trans tW (fun i hi h=>by omega)⟩
 clear h1 h2 h3 t1 t2 t3 b0 b3 t0
 have qn:=nullByte_any true w3
 go_wp2_with (go_at_call 229;refine qn.mono ?_;rintro x w4 ⟨rfl,rfl⟩)
 have hrs:Tryz.f230.results=#[.cell 2 43]:=by kernel_rfl
 have hd:((D.1:Int)==nb true)=decide (D.1=1):=by
  have e:nb true=1:=rfl
  rw[e]
  apply bd
  simp
  omega
 refine bodyPost_ret (v:= .agg #[.string A.1,.int .i64 B.1,.bool (decide (D.1=1))]) (by simp only[results,hrs];rw[←hd];go_simp) rfl ⟨rfl,HR.out _ ?_⟩
 exact((Tch.setCell (fun i=>i=w.heap.size) _ ⟨w.heap.size,0,none⟩ _ rfl).setCellR ⟨w.heap.size,1,none⟩ _ rfl).setCellR ⟨w.heap.size,2,none⟩ _ rfl
open Go
structure TO (W:World) (base:Nat) (tv:Value) (P:List (Tbl×Value)):Prop where
 own:W.ownsRow base 29 5 tv P.length (tcl P)
 col: ∀i (hi:i<P.length),W.ownsRow base 43 3 P[i].2 P[i].1.cols.length (ccl P[i].1.cols)
 sep: ∀i (hi:i<P.length) g,P[i].2.ownBlock=some g→tv.ownBlock≠some g
 dis: ∀i j (hi:i<P.length) (hj:j<P.length) g,i≠j→P[i].2.ownBlock=some g→P[j].2.ownBlock≠some g
theorem own_none {W:World} {base sz n:Nat} {t:TypeId} {c:Nat} {xs:List Value} (h:W.ownsRow base t sz (.slice none n c) n xs):n=0∧c=0∧xs=[]:=by
 rcases h.2 with⟨h1,h2⟩|⟨g,c',cur,h1,_⟩
 ·injection h1 with _ _ h3
  exact⟨h2,h3,List.eq_nil_of_length_eq_zero (by rw[h.1,h2];simp)⟩
 ·injection h1 with h1;cases h1
theorem own_cap {W:World} {base sz n:Nat} {t:TypeId} {ao:Option Addr} {c:Nat} {xs:List Value} (h:W.ownsRow base t sz (.slice ao n c) n xs):n≤c:=by
 rcases h.2 with⟨h1,h2⟩|⟨g,c',cur,h1,_,_,h3,_⟩
 ·omega
 ·injection h1 with _ _ h4;omega
theorem own_ck {W:World} {base:Nat} {p:Tbl×Value} (h:W.ownsRow base 43 3 p.2 p.1.cols.length (ccl p.1.cols)): ∃co cc,CK W (fun i=>i<base) p co cc:=by
 obtain⟨co,cc,e⟩:=row_slice h
 have h':=h
 rw[e] at h'
 refine⟨co,cc,e,own_sl h',fun e2=>?_,own_cap h',fun _ g o e2=>?_⟩
 ·subst e2
  obtain⟨h1,h2,_⟩:=own_none h'
  exact⟨List.eq_nil_of_length_eq_zero h1,h2⟩
 ·have:=h'.lt g (by rw[e2];rfl)
  omega
theorem TO.toTL {W:World} {base:Nat} {to:Option Addr} {tc:Nat} {P:List (Tbl×Value)} (h:TO W base (.slice to P.length tc) P):TL W (fun i=>i<base) to P:=
 ⟨own_sl h.own,fun _ g o e=>by have:=h.own.lt g (by rw[e];rfl);omega,fun i hi=>own_ck (h.col i hi)⟩
theorem TO.tch {S:Nat→Prop} {W W':World} {base:Nat} {tv:Value} {P:List (Tbl×Value)} (h:TO W base tv P) (t:Tch S W W') (hS: ∀i,base≤i→i<W.heap.size→ ¬S i):TO W' base tv P:=
 ⟨own_tch h.own t (fun g e=>hS g (h.own.lt g e).1 (h.own.lt g e).2),fun i hi=>own_tch (h.col i hi) t (fun g e=>hS g ((h.col i hi).lt g e).1 ((h.col i hi).lt g e).2),h.sep,h.dis⟩
theorem set5_step (cur:Array Value) (q n:Nat) (L:List Value) (a b c d e:Value) (hs:cur.size=n*5) (hq:q<n) (hL:L.length=q*5) (h:cur.toList.take (q*5)=L):(((((cur.setIfInBounds (q*5) a).setIfInBounds (q*5+1) b).setIfInBounds (q*5+2) c).setIfInBounds (q*5+3) d).setIfInBounds (q*5+4) e).toList.take ((q+1)*5)=L++[a,b,c,d,e]:=by
 apply List.ext_getElem?
 intro j
 rw[List.getElem?_take]
 rcases Nat.lt_or_ge j (q*5) with h1|h1
 ·rw[if_pos (by omega),List.getElem?_append_left (by omega), ←h,List.getElem?_take,if_pos h1,Array.getElem?_toList,Array.getElem?_toList,Array.getElem?_setIfInBounds_ne (by omega),Array.getElem?_setIfInBounds_ne (by omega),Array.getElem?_setIfInBounds_ne (by omega),Array.getElem?_setIfInBounds_ne (by omega),Array.getElem?_setIfInBounds_ne (by omega)]
 ·rw[List.getElem?_append_right (by omega),hL]
  rcases Nat.lt_or_ge j ((q+1)*5) with h2|h2
  ·rw[if_pos h2,Array.getElem?_toList]
   rcases(by omega:j=q*5∨j=q*5+1∨j=q*5+2∨j=q*5+3∨j=q*5+4) with rfl|rfl|rfl|rfl|rfl
   ·rw[Array.getElem?_setIfInBounds_ne (by omega),Array.getElem?_setIfInBounds_ne (by omega),Array.getElem?_setIfInBounds_ne (by omega),Array.getElem?_setIfInBounds_ne (by omega),Array.getElem?_setIfInBounds_self_of_lt (by omega),Nat.sub_self];rfl
   ·rw[Array.getElem?_setIfInBounds_ne (by omega),Array.getElem?_setIfInBounds_ne (by omega),Array.getElem?_setIfInBounds_ne (by omega),Array.getElem?_setIfInBounds_self_of_lt (by simp;omega),show q*5+1 - q*5=1 by omega];rfl
   ·rw[Array.getElem?_setIfInBounds_ne (by omega),Array.getElem?_setIfInBounds_ne (by omega),Array.getElem?_setIfInBounds_self_of_lt (by simp;omega),show q*5+2 - q*5=2 by omega];rfl
   ·rw[Array.getElem?_setIfInBounds_ne (by omega),Array.getElem?_setIfInBounds_self_of_lt (by simp;omega),show q*5+3 - q*5=3 by omega];rfl
   ·rw[Array.getElem?_setIfInBounds_self_of_lt (by simp;omega),show q*5+4 - q*5=4 by omega];rfl
  ·rw[if_neg (by omega),List.getElem?_eq_none (by simp;omega)]
theorem set5_cells {W:World} {g n q:Nat} {t:TypeId} {cur:Array Value} (hh:W.heap[g]? =some (.cells cur t (0,0))) (hs:cur.size=n*5) (hq:q<n) (v0 v1 v2 v3:Value):
  (∃y,W.cell? ⟨g,q*5,none⟩=some y)∧(∃y,(W.setCell ⟨g,q*5,none⟩ v0).cell? ⟨g,q*5+1,none⟩=some y)∧(∃y,((W.setCell ⟨g,q*5,none⟩ v0).setCell ⟨g,q*5+1,none⟩ v1).cell? ⟨g,q*5+2,none⟩=some y)∧(∃y,(((W.setCell ⟨g,q*5,none⟩ v0).setCell ⟨g,q*5+1,none⟩ v1).setCell ⟨g,q*5+2,none⟩ v2).cell? ⟨g,q*5+3,none⟩=some y)∧(∃y,((((W.setCell ⟨g,q*5,none⟩ v0).setCell ⟨g,q*5+1,none⟩ v1).setCell ⟨g,q*5+2,none⟩ v2).setCell ⟨g,q*5+3,none⟩ v3).cell? ⟨g,q*5+4,none⟩=some y)∧ ∀j,W.frozen? ⟨g,j,none⟩=false:=by
 have key: ∀(W':World) (j:Nat),j<5→(∀i,W'.heap[g]? =some (.cells i t (0,0))→i.size=n*5→True)→(∃cu,W'.heap[g]? =some (.cells cu t (0,0))∧cu.size=n*5)→ ∃y,W'.cell? ⟨g,q*5+j,none⟩=some y:=fun W' j hj _ ⟨cu,h1,h2⟩=>⟨cu[q*5+j]'(by omega),by rw[blk_cell h1];exact Array.getElem?_eq_getElem _⟩
 have s0:=hh
 have s1:=blk_set (i:=q*5) s0 v0
 have s2:=blk_set (i:=q*5+1) s1 v1
 have s3:=blk_set (i:=q*5+2) s2 v2
 have s4:=blk_set (i:=q*5+3) s3 v3
 exact⟨key _ 0 (by omega) (fun _ _ _=>trivial) ⟨_,s0,hs⟩,key _ 1 (by omega) (fun _ _ _=>trivial) ⟨_,s1,by simp[hs]⟩,key _ 2 (by omega) (fun _ _ _=>trivial) ⟨_,s2,by simp[hs]⟩,key _ 3 (by omega) (fun _ _ _=>trivial) ⟨_,s3,by simp[hs]⟩,key _ 4 (by omega) (fun _ _ _=>trivial) ⟨_,s4,by simp[hs]⟩,fun j=>blk_frozen hh j⟩
theorem info_tbl:(Tryz.prog.info? 29).map (fun i=>(i.zero,i.size,i.bytes))=some (some (.agg #[.int .i64 0,.int .i64 0,.string ⟨#[]⟩,.slice none 0 0,.int .i64 0]),5,64):=by kernel_rfl
end Go.Proofs.YtaiadknglhemaaaGreatDoor.C
