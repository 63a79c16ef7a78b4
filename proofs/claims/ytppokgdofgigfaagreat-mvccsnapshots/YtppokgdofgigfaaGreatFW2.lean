import Derived.Test.YtppokgdofgigfaaGreatFP6
set_option maxHeartbeats 4000000
set_option maxRecDepth 100000
namespace Go.Proofs.YtppokgdofgigfaaGreat.F
open Go.RowKit Go Go.Sort
set_option maxRecDepth 100000
def W1 (w0:Fr) (wA:World) (qb hb mb nq:Nat) (m:Mg) (q:Mo) (A:Nat→Sx) (F:Nat→Prop) (κ v E:Nat) (K:Nat→List Vn) (l:List Value) (W:World):Prop:=match l with
 |[]=>Tch (fun _=>False) wA W
 |[y]=>y= .string (keyB κ)∧Tch (fun _=>False) wA W
 |[_,u]=>(∃(ro:Option Addr) (rc:Nat),u= .slice ro 1 rc∧RdR W ro 1 rc (rowC v))∧Tch (fun _=>False) wA W
 |[_,_,z]=>z= .int .i64 E∧ ∃L',LW w0 W qb hb mb (nq+3) m L' q A F∧HK L' K
 |_=>False
theorem writes_insC {w0:Fr} {w:World} {qb hb mb nq:Nat} {m:Mg} {L:HL} {q:Mo} {A:Nat→Sx} {F:Nat→Prop} {K:Nat→List Vn} (h:LW w0 w qb hb mb nq m L q A F) (hI:Iv m q K) (hK:HK L K) {k:Nat} {s:Se} (hs:q.l[k]? =some s) (ho:s.op=true) {t:Tx} (ht:SesTx m s t) (hpp:s.pp=false) (hq:nq≤1000) (hn:m.nx≤1000000) (hol:s.on.length≤1000000) {who key n:Int} (hki: -9223372036854775808≤key∧key≤9223372036854775807) (hni: -9223372036854775808≤n∧n≤9223372036854775807) (hcf:confB q k s (pkN key 6)=true):
  Calls Tryz.prog 22 #[.pointer (some ⟨qb,0,none⟩),.int .i64 k,actV 6 who key n] w fun x w'=> ∃b,x= .returned (.bool b)∧b=true∧ ∃L',LW w0 w' qb hb mb (nq+3) m L' q A F∧HK L' K:=by
 have hk5:k<5:=by have:=(List.getElem?_eq_some_iff.1 hs).1;have:=h.ln;omega
 obtain⟨N,hN⟩: ∃N,N=w.heap.size:=⟨_,rfl⟩
 obtain⟨wA,hwA⟩: ∃wA,wA=w.alloc (.cells #[.int .i64 6,.int .i64 who,.int .i64 key,.int .i64 n] 29):=⟨_,rfl⟩
 have bA:wA.heap[N]? =some (.cells #[.int .i64 6,.int .i64 who,.int .i64 key,.int .i64 n] 29 (0,0)):=by rw[hwA,hN];exact alloc_new _ _
 have tA:Tch (fun _=>False) w wA:=by rw[hwA];exact Tch.alloc _ _ _
 have hA:=h.no tA
 obtain⟨κ,hκ⟩: ∃κ,κ=pkN key 6:=⟨_,rfl⟩
 obtain⟨v,hv⟩: ∃v,v=pkN n 1000:=⟨_,rfl⟩
 have hk6:κ<6:=by rw[hκ];exact pkN_lt key (by decide)
 rw[←hκ] at hcf
 have HP:Hid (∀W,Calls Tryz.prog 7 #[.int .i64 key,.int .i64 6] W fun x w'=>x= .returned (.int .i64 κ)∧w'=W):=fun W=>by
  rw[hκ];exact pick9_any key 6 W hki.1 hki.2 (by decide) (by decide)
 have HP2:Hid (∀W,Calls Tryz.prog 7 #[.int .i64 n,.int .i64 1000] W fun x w'=>x= .returned (.int .i64 v)∧w'=W):=fun W=>by
  rw[hv];exact pick9_any n 1000 W hni.1 hni.2 (by decide) (by decide)
 have HL:Hid (∀W,Tch (fun _=>False) wA W→LW w0 W qb hb mb nq m L q A F):=fun W tt=>hA.no tt
 have HA:Hid (∀W,Tch (fun _=>False) wA W→W.cell? ⟨N,0,none⟩=some (.int .i64 6)∧W.cell? ⟨N,2,none⟩=some (.int .i64 key)∧W.cell? ⟨N,3,none⟩=some (.int .i64 n)):=fun W tt=>by
  have:=tt.block N (blk_lt bA) (fun e=>e)
  rw[blk_cell (by rw[this];exact bA),blk_cell (by rw[this];exact bA),blk_cell (by rw[this];exact bA)];exact⟨rfl,rfl,rfl⟩
 have hbd:=hA.bd k s hs
 have qw:=writer_any wA qb (2+k*15) s (A k) (hA.mor.se k s hs)
 have HQ:Hid (∀W,Tch (fun _=>False) wA W→Calls Tryz.prog 42 #[.pointer (some ⟨qb,2+k*15,none⟩),.int .i64 κ] W fun x w'=>x= .returned (.int .i64 (seesS s κ))∧Tch (fun _=>False) wA w'):=fun W tt=>by
  refine(sees_any W qb (2+k*15) s (A k) ((HL.out W tt).mor.se k s hs) κ hk6 (hbd.ba κ hk6)).mono ?_
  rintro x w' ⟨rfl,t2⟩
  exact⟨rfl,tt.trans' t2⟩
 have HCf:Hid (∀W,Tch (fun _=>False) wA W→Calls Tryz.prog 48 #[.pointer (some ⟨qb,0,none⟩),.int .i64 k,.int .i64 κ] W fun x w'=>x= .returned (.bool true)∧Tch (fun _=>False) wA w'):=fun W tt=>by
  have:=conflict_any W qb mb hb q A (HL.out W tt).mor k κ s hs hk6
  rw[hcf] at this
  refine this.mono ?_
  rintro x w' ⟨rfl,t2⟩
  exact⟨rfl,tt.trans' t2⟩
 have hE:wantE q k s κ true=92:=by unfold wantE;rw[hcf];rfl
 have hadd: ∀u,addK K κ u (wantE q k s κ true)=K:=fun u=>by rw[hE];rfl
 obtain⟨C,hC⟩: ∃C:List Value→World→Prop,C=W1 w0 wA qb hb mb nq m q A F κ v 92 K:=⟨_,rfl⟩
 have hC1:Hid (∀s1 W,C s1 W→W.cell? ⟨qb,1,none⟩=some (.pointer (some ⟨hb,0,none⟩))∧W.cell? ⟨qb,2+k*15+3,none⟩=some (.int .i64 s.mn)∧W.cell? ⟨qb,2+k*15+4,none⟩=some (.int .i64 s.mx)∧W.cell? ⟨qb,2+k*15+5,none⟩=some (.slice (A k).so s.on.length (A k).sc)):=fun s1 W hW=>by
  rw[hC] at hW
  have hm:MoR W qb mb hb q A:=by
   match s1,hW with
   |[],hW=>exact(HL.out W hW).mor
   |[_],hW=>exact(HL.out W hW.2).mor
   |[_,_],hW=>exact(HL.out W hW.2).mor
   |[_,_,_],hW=>obtain⟨_,_,h9,_⟩:=hW;exact h9.mor
  exact⟨hm.ch,(hm.se k s hs).c 3 _ rfl,(hm.se k s hs).c 4 _ rfl,(hm.se k s hs).c 5 _ rfl⟩
 have c0:Hid (∀W,C [] W→Calls Tryz.prog 11 #[.int .i64 κ] W fun x W'=> ∃y,x= .returned y∧C [y] W'):=fun W hW=>by
  rw[hC] at hW ⊢
  refine(keyOf_any κ hk6 W).mono ?_
  rintro x W' ⟨rfl,tt⟩
  exact⟨_,rfl,rfl,Tch.trans' hW tt⟩
 have s0:Hid (∀y W,C [y] W→y= .string (keyB κ)):=fun y W hW=>by
  rw[hC] at hW;exact hW.1
 have c1:Hid (∀y W,C [y] W→Calls Tryz.prog 17 #[.int .i64 v] W fun x W'=> ∃u,x= .returned u∧C [y,u] W'):=fun y W hW=>by
  rw[hC] at hW ⊢
  refine(row_any v W).mono ?_
  rintro x W' ⟨rfl,rfl⟩
  exact⟨_,rfl,⟨_,_,rfl,row_rd v W⟩,hW.2.trans' (Tch.alloc _ _ _)⟩
 have s1:Hid (∀y u W,C [y,u] W→ ∃(ro:Option Addr) (rc:Nat),u= .slice ro 1 rc):=fun y u W hW=>by
  rw[hC] at hW
  obtain⟨⟨ro,rc,e,_⟩,_⟩:=hW
  exact⟨ro,rc,e⟩
 have c2:Hid (∀y ro rc W,C [y,.slice ro 1 rc] W→Calls Tryz.prog 16 #[.pointer (some ⟨hb,0,none⟩),.agg #[.int .i64 s.mn,.int .i64 s.mx,.slice (A k).so s.on.length (A k).sc],.int .i64 (wrN s (innS s)),.int .i64 1,.string (keyB κ),.slice ro 1 rc] W fun x W'=> ∃z,x= .returned z∧C [y,.slice ro 1 rc,z] W'):=fun y ro rc W hW=>by
  rw[hC] at hW ⊢
  obtain⟨⟨ro',rc',e,hr⟩,tt⟩:=hW
  injection e with e1 _ e2
  subst e1 e2
  refine((HL.out W tt).inserts hI hK hs ho ht hpp hq hn hol hk6 hr).mono ?_
  rintro x W' ⟨rfl,L',h9,hk9, -⟩
  rw[hadd] at hk9
  rw[hE]
  exact⟨_,rfl,rfl,L',h9,hk9⟩
 have s2:Hid (∀y u z W,C [y,u,z] W→z= .int .i64 92):=fun y u z W hW=>by
  rw[hC] at hW;exact hW.1
 have HF:Hid (∀y u z W,C [y,u,z] W→ ∃L',LW w0 W qb hb mb (nq+3) m L' q A F∧HK L' K):=fun y u z W hW=>by
  rw[hC] at hW;exact hW.2
 have h00:Hid (∀W,Tch (fun _=>False) wA W→C [] W.drew):=fun W tt=>by
  rw[hC];exact Tch.drew tt
 have HWA:Hid (wA=_):=hwA
 have HN:Hid (N=w.heap.size):=hN
 have aa:=HA.out wA (Tch.refl _ _)
 have a2:=aa.2.1
 have qp:=HP.out wA
 unfold actV
 clear hwA hN bA tA hA h hI hK hs ho ht hpp hC hbd hκ hv hE hadd hcf aa
 go_enter Tryz.func22,Tryz.ntmps22
 go_upto_region 1 with(fail)
 rw[←HWA.out, ←HN.out]
 go_wp2_with fail
 refine qp.mono ?_
 clear qp a2
 rintro x w2 ⟨rfl,rfl⟩
 go_wp2_with fail
 refine qw.mono ?_
 clear qw
 rintro x w3 ⟨rfl,t3⟩
 have cs:=HQ.out w3 t3
 clear t3
 go_wp2_with fail
 refine cs.mono ?_
 clear cs
 rintro x w4 ⟨rfl,t4⟩
 have cf:=HCf.out w4 t4
 clear t4
 go_wp2_with fail
 refine cf.mono ?_
 clear cf
 rintro x w5 ⟨rfl,t5⟩
 have a5:=(HA.out w5 t5).1
 have a6:=(HA.out w5 t5).2.2
 have qp2:=HP2.out w5
 have H5:Hid (Tch (fun _=>False) w2 w5):=t5
 clear t5 HP HP2 HQ HCf
 go_upto_region 13 with(fail)
 go_wp2_with fail
 refine qp2.mono ?_
 clear qp2
 rintro x w6 ⟨rfl,rfl⟩
 go_upto_region 19 with(fail)
 refine wp_region_ordv [10,12,13] C 14 [0,1,2,3,4,5,6,7,8,9,11,10,12,13] (by kernel_rfl) (by kernel_rfl) (h00.out _ H5.out) ?_
 clear a5 a6
 iterate 11
  refine ordv_read rfl (by go_simp) (by rfl) ?_
  apply Exists.intro
  refine⟨fun s' W hW b K Q hK'=>?_,fun K hK'=>?_⟩
  ·obtain⟨q0,q2,q3,q4⟩:=hC1.out _ W hW
   go_simp
   exact hK' W hW
  go_simp
  refine hK' _ ?_
  clear hK' K
 refine ordv_turn rfl (by go_simp) (by rfl) (fun W hW b K Q hK'=>?_) (fun u hu K hK'=>?_)
 ·go_simp
  go_at_call 11
  refine(c0.out W hW).mono ?_
  rintro x w' ⟨y,rfl,h1⟩
  exact hK' y w' h1
 obtain rfl:u= .string (keyB κ):=by
  obtain⟨W',hW'⟩:=hu
  exact s0.out u W' hW'
 clear hu c0 s0
 go_simp
 refine hK' _ ?_
 clear hK' K
 refine ordv_turn rfl (by go_simp) (by rfl) (fun W hW b K Q hK'=>?_) (fun u hu K hK'=>?_)
 ·go_simp
  go_at_call 17
  refine(c1.out _ W hW).mono ?_
  rintro x w' ⟨y,rfl,h1⟩
  exact hK' y w' h1
 obtain⟨ro,rc,rfl⟩: ∃(ro:Option Addr) (rc:Nat),u= .slice ro 1 rc:=by
  obtain⟨W',hW'⟩:=hu
  exact s1.out _ u W' hW'
 clear hu c1 s1
 go_simp
 refine hK' _ ?_
 clear hK' K
 refine ordv_turn rfl (by go_simp) (by rfl) (fun W hW b K Q hK'=>?_) (fun u hu K hK'=>?_)
 ·go_simp
  go_at_call 16
  refine(c2.out _ _ _ W hW).mono ?_
  rintro x w' ⟨y,rfl,h1⟩
  exact hK' y w' h1
 obtain rfl:u= .int .i64 92:=by
  obtain⟨W',hW'⟩:=hu
  exact s2.out _ _ u W' hW'
 clear hu c2 s2
 go_simp
 refine hK' _ ?_
 clear hK' K
 refine ordv_nil ?_
 intro w7 hw7
 have H7:Hid (∃L',LW w0 w7 qb hb mb (nq+3) m L' q A F∧HK L' K):=HF.out _ _ _ w7 hw7
 clear HF hw7 h00 hC1
 go_wp2_with fail
 go_ret
 exact⟨true,rfl,rfl,H7.out⟩
theorem writes_insS {w0:Fr} {w:World} {qb hb mb nq:Nat} {m:Mg} {L:HL} {q:Mo} {A:Nat→Sx} {F:Nat→Prop} {K:Nat→List Vn} (h:LW w0 w qb hb mb nq m L q A F) (hI:Iv m q K) (hK:HK L K) {k:Nat} {s:Se} (hs:q.l[k]? =some s) (ho:s.op=true) {t:Tx} (ht:SesTx m s t) (hpp:s.pp=false) (hq:nq≤1000) (hn:m.nx≤1000000) (hol:s.on.length≤1000000) {who key n:Int} (hki: -9223372036854775808≤key∧key≤9223372036854775807) (hni: -9223372036854775808≤n∧n≤9223372036854775807) (hcf:confB q k s (pkN key 6)=false) (hsn:seesS s (pkN key 6)≠0):
  Calls Tryz.prog 22 #[.pointer (some ⟨qb,0,none⟩),.int .i64 k,actV 6 who key n] w fun x w'=> ∃b,x= .returned (.bool b)∧b=true∧ ∃L',LW w0 w' qb hb mb (nq+3) m L' q A F∧HK L' K:=by
 have hk5:k<5:=by have:=(List.getElem?_eq_some_iff.1 hs).1;have:=h.ln;omega
 obtain⟨N,hN⟩: ∃N,N=w.heap.size:=⟨_,rfl⟩
 obtain⟨wA,hwA⟩: ∃wA,wA=w.alloc (.cells #[.int .i64 6,.int .i64 who,.int .i64 key,.int .i64 n] 29):=⟨_,rfl⟩
 have bA:wA.heap[N]? =some (.cells #[.int .i64 6,.int .i64 who,.int .i64 key,.int .i64 n] 29 (0,0)):=by rw[hwA,hN];exact alloc_new _ _
 have tA:Tch (fun _=>False) w wA:=by rw[hwA];exact Tch.alloc _ _ _
 have hA:=h.no tA
 obtain⟨κ,hκ⟩: ∃κ,κ=pkN key 6:=⟨_,rfl⟩
 obtain⟨v,hv⟩: ∃v,v=pkN n 1000:=⟨_,rfl⟩
 have hk6:κ<6:=by rw[hκ];exact pkN_lt key (by decide)
 rw[←hκ] at hcf hsn
 have HP:Hid (∀W,Calls Tryz.prog 7 #[.int .i64 key,.int .i64 6] W fun x w'=>x= .returned (.int .i64 κ)∧w'=W):=fun W=>by
  rw[hκ];exact pick9_any key 6 W hki.1 hki.2 (by decide) (by decide)
 have HP2:Hid (∀W,Calls Tryz.prog 7 #[.int .i64 n,.int .i64 1000] W fun x w'=>x= .returned (.int .i64 v)∧w'=W):=fun W=>by
  rw[hv];exact pick9_any n 1000 W hni.1 hni.2 (by decide) (by decide)
 have HL:Hid (∀W,Tch (fun _=>False) wA W→LW w0 W qb hb mb nq m L q A F):=fun W tt=>hA.no tt
 have HA:Hid (∀W,Tch (fun _=>False) wA W→W.cell? ⟨N,0,none⟩=some (.int .i64 6)∧W.cell? ⟨N,2,none⟩=some (.int .i64 key)∧W.cell? ⟨N,3,none⟩=some (.int .i64 n)):=fun W tt=>by
  have:=tt.block N (blk_lt bA) (fun e=>e)
  rw[blk_cell (by rw[this];exact bA),blk_cell (by rw[this];exact bA),blk_cell (by rw[this];exact bA)];exact⟨rfl,rfl,rfl⟩
 have hbd:=hA.bd k s hs
 have qw:=writer_any wA qb (2+k*15) s (A k) (hA.mor.se k s hs)
 have HQ:Hid (∀W,Tch (fun _=>False) wA W→Calls Tryz.prog 42 #[.pointer (some ⟨qb,2+k*15,none⟩),.int .i64 κ] W fun x w'=>x= .returned (.int .i64 (seesS s κ))∧Tch (fun _=>False) wA w'):=fun W tt=>by
  refine(sees_any W qb (2+k*15) s (A k) ((HL.out W tt).mor.se k s hs) κ hk6 (hbd.ba κ hk6)).mono ?_
  rintro x w' ⟨rfl,t2⟩
  exact⟨rfl,tt.trans' t2⟩
 have HCf:Hid (∀W,Tch (fun _=>False) wA W→Calls Tryz.prog 48 #[.pointer (some ⟨qb,0,none⟩),.int .i64 k,.int .i64 κ] W fun x w'=>x= .returned (.bool false)∧Tch (fun _=>False) wA w'):=fun W tt=>by
  have:=conflict_any W qb mb hb q A (HL.out W tt).mor k κ s hs hk6
  rw[hcf] at this
  refine this.mono ?_
  rintro x w' ⟨rfl,t2⟩
  exact⟨rfl,tt.trans' t2⟩
 have hE:wantE q k s κ true=91:=by unfold wantE;rw[hcf,if_neg (by decide),if_pos rfl,if_neg hsn]
 have hadd: ∀u,addK K κ u (wantE q k s κ true)=K:=fun u=>by rw[hE];rfl
 obtain⟨C,hC⟩: ∃C:List Value→World→Prop,C=W1 w0 wA qb hb mb nq m q A F κ v 91 K:=⟨_,rfl⟩
 have hC1:Hid (∀s1 W,C s1 W→W.cell? ⟨qb,1,none⟩=some (.pointer (some ⟨hb,0,none⟩))∧W.cell? ⟨qb,2+k*15+3,none⟩=some (.int .i64 s.mn)∧W.cell? ⟨qb,2+k*15+4,none⟩=some (.int .i64 s.mx)∧W.cell? ⟨qb,2+k*15+5,none⟩=some (.slice (A k).so s.on.length (A k).sc)):=fun s1 W hW=>by
  rw[hC] at hW
  have hm:MoR W qb mb hb q A:=by
   match s1,hW with
   |[],hW=>exact(HL.out W hW).mor
   |[_],hW=>exact(HL.out W hW.2).mor
   |[_,_],hW=>exact(HL.out W hW.2).mor
   |[_,_,_],hW=>obtain⟨_,_,h9,_⟩:=hW;exact h9.mor
  exact⟨hm.ch,(hm.se k s hs).c 3 _ rfl,(hm.se k s hs).c 4 _ rfl,(hm.se k s hs).c 5 _ rfl⟩
 have c0:Hid (∀W,C [] W→Calls Tryz.prog 11 #[.int .i64 κ] W fun x W'=> ∃y,x= .returned y∧C [y] W'):=fun W hW=>by
  rw[hC] at hW ⊢
  refine(keyOf_any κ hk6 W).mono ?_
  rintro x W' ⟨rfl,tt⟩
  exact⟨_,rfl,rfl,Tch.trans' hW tt⟩
 have s0:Hid (∀y W,C [y] W→y= .string (keyB κ)):=fun y W hW=>by
  rw[hC] at hW;exact hW.1
 have c1:Hid (∀y W,C [y] W→Calls Tryz.prog 17 #[.int .i64 v] W fun x W'=> ∃u,x= .returned u∧C [y,u] W'):=fun y W hW=>by
  rw[hC] at hW ⊢
  refine(row_any v W).mono ?_
  rintro x W' ⟨rfl,rfl⟩
  exact⟨_,rfl,⟨_,_,rfl,row_rd v W⟩,hW.2.trans' (Tch.alloc _ _ _)⟩
 have s1:Hid (∀y u W,C [y,u] W→ ∃(ro:Option Addr) (rc:Nat),u= .slice ro 1 rc):=fun y u W hW=>by
  rw[hC] at hW
  obtain⟨⟨ro,rc,e,_⟩,_⟩:=hW
  exact⟨ro,rc,e⟩
 have c2:Hid (∀y ro rc W,C [y,.slice ro 1 rc] W→Calls Tryz.prog 16 #[.pointer (some ⟨hb,0,none⟩),.agg #[.int .i64 s.mn,.int .i64 s.mx,.slice (A k).so s.on.length (A k).sc],.int .i64 (wrN s (innS s)),.int .i64 1,.string (keyB κ),.slice ro 1 rc] W fun x W'=> ∃z,x= .returned z∧C [y,.slice ro 1 rc,z] W'):=fun y ro rc W hW=>by
  rw[hC] at hW ⊢
  obtain⟨⟨ro',rc',e,hr⟩,tt⟩:=hW
  injection e with e1 _ e2
  subst e1 e2
  refine((HL.out W tt).inserts hI hK hs ho ht hpp hq hn hol hk6 hr).mono ?_
  rintro x W' ⟨rfl,L',h9,hk9, -⟩
  rw[hadd] at hk9
  rw[hE]
  exact⟨_,rfl,rfl,L',h9,hk9⟩
 have s2:Hid (∀y u z W,C [y,u,z] W→z= .int .i64 91):=fun y u z W hW=>by
  rw[hC] at hW;exact hW.1
 have HF:Hid (∀y u z W,C [y,u,z] W→ ∃L',LW w0 W qb hb mb (nq+3) m L' q A F∧HK L' K):=fun y u z W hW=>by
  rw[hC] at hW;exact hW.2
 have h00:Hid (∀W,Tch (fun _=>False) wA W→C [] W.drew):=fun W tt=>by
  rw[hC];exact Tch.drew tt
 have hz: ¬((seesS s κ:Nat):Int)=0:=by omega
 have HWA:Hid (wA=_):=hwA
 have HN:Hid (N=w.heap.size):=hN
 have aa:=HA.out wA (Tch.refl _ _)
 have a2:=aa.2.1
 have qp:=HP.out wA
 unfold actV
 clear hwA hN bA tA hA h hI hK hs ho ht hpp hC hbd hκ hv hE hadd hcf hsn aa
 go_enter Tryz.func22,Tryz.ntmps22
 go_upto_region 1 with(fail)
 rw[←HWA.out, ←HN.out]
 go_wp2_with fail
 refine qp.mono ?_
 clear qp a2
 rintro x w2 ⟨rfl,rfl⟩
 go_wp2_with fail
 refine qw.mono ?_
 clear qw
 rintro x w3 ⟨rfl,t3⟩
 have cs:=HQ.out w3 t3
 clear t3
 go_wp2_with fail
 refine cs.mono ?_
 clear cs
 rintro x w4 ⟨rfl,t4⟩
 have cf:=HCf.out w4 t4
 clear t4
 go_wp2_with fail
 refine cf.mono ?_
 clear cf
 rintro x w5 ⟨rfl,t5⟩
 have a5:=(HA.out w5 t5).1
 have a6:=(HA.out w5 t5).2.2
 have qp2:=HP2.out w5
 have H5:Hid (Tch (fun _=>False) w2 w5):=t5
 clear t5 HP HP2 HQ HCf
 go_upto_region 13 with(fail)
 go_wp2_with fail
 refine qp2.mono ?_
 clear qp2
 rintro x w6 ⟨rfl,rfl⟩
 go_upto_region 19 with(fail)
 refine wp_region_ordv [10,12,13] C 14 [0,1,2,3,4,5,6,7,8,9,11,10,12,13] (by kernel_rfl) (by kernel_rfl) (h00.out _ H5.out) ?_
 clear a5 a6
 iterate 11
  refine ordv_read rfl (by go_simp) (by rfl) ?_
  apply Exists.intro
  refine⟨fun s' W hW b K Q hK'=>?_,fun K hK'=>?_⟩
  ·obtain⟨q0,q2,q3,q4⟩:=hC1.out _ W hW
   go_simp
   exact hK' W hW
  go_simp
  refine hK' _ ?_
  clear hK' K
 refine ordv_turn rfl (by go_simp) (by rfl) (fun W hW b K Q hK'=>?_) (fun u hu K hK'=>?_)
 ·go_simp
  go_at_call 11
  refine(c0.out W hW).mono ?_
  rintro x w' ⟨y,rfl,h1⟩
  exact hK' y w' h1
 obtain rfl:u= .string (keyB κ):=by
  obtain⟨W',hW'⟩:=hu
  exact s0.out u W' hW'
 clear hu c0 s0
 go_simp
 refine hK' _ ?_
 clear hK' K
 refine ordv_turn rfl (by go_simp) (by rfl) (fun W hW b K Q hK'=>?_) (fun u hu K hK'=>?_)
 ·go_simp
  go_at_call 17
  refine(c1.out _ W hW).mono ?_
  rintro x w' ⟨y,rfl,h1⟩
  exact hK' y w' h1
 obtain⟨ro,rc,rfl⟩: ∃(ro:Option Addr) (rc:Nat),u= .slice ro 1 rc:=by
  obtain⟨W',hW'⟩:=hu
  exact s1.out _ u W' hW'
 clear hu c1 s1
 go_simp
 refine hK' _ ?_
 clear hK' K
 refine ordv_turn rfl (by go_simp) (by rfl) (fun W hW b K Q hK'=>?_) (fun u hu K hK'=>?_)
 ·go_simp
  go_at_call 16
  refine(c2.out _ _ _ W hW).mono ?_
  rintro x w' ⟨y,rfl,h1⟩
  exact hK' y w' h1
 obtain rfl:u= .int .i64 91:=by
  obtain⟨W',hW'⟩:=hu
  exact s2.out _ _ u W' hW'
 clear hu c2 s2
 go_simp
 refine hK' _ ?_
 clear hK' K
 refine ordv_nil ?_
 intro w7 hw7
 have H7:Hid (∃L',LW w0 w7 qb hb mb (nq+3) m L' q A F∧HK L' K):=HF.out _ _ _ w7 hw7
 clear HF hw7 h00 hC1
 go_wp2_with fail
 go_ret
 exact⟨true,rfl,rfl,H7.out⟩
set_option maxRecDepth 100000
def W2 (w0:Fr) (wA:World) (qb hb mb nq:Nat) (m:Mg) (q:Mo) (A:Nat→Sx) (F:Nat→Prop) (κ v E:Nat) (K:Nat→List Vn) (l:List Value) (W:World):Prop:=match l with
 |[]=>Tch (fun _=>False) wA W
 |[y]=>y= .string (keyB κ)∧Tch (fun _=>False) wA W
 |[_,u]=>(∃(ro:Option Addr) (rc:Nat),u= .slice ro 1 rc∧RdR W ro 1 rc (rowC v))∧Tch (fun _=>False) wA W
 |[_,_,z]=>(∃ro rc,z= .tuple #[.slice ro 0 rc,.int .i64 E])∧ ∃L',LW w0 W qb hb mb (nq+3) m L' q A F∧HK L' K
 |_=>False
theorem writes_updC {w0:Fr} {w:World} {qb hb mb nq:Nat} {m:Mg} {L:HL} {q:Mo} {A:Nat→Sx} {F:Nat→Prop} {K:Nat→List Vn} (h:LW w0 w qb hb mb nq m L q A F) (hI:Iv m q K) (hK:HK L K) {k:Nat} {s:Se} (hs:q.l[k]? =some s) (ho:s.op=true) {t:Tx} (ht:SesTx m s t) (hpp:s.pp=false) (hq:nq≤1000) (hn:m.nx≤1000000) (hol:s.on.length≤1000000) {who key n:Int} (hki: -9223372036854775808≤key∧key≤9223372036854775807) (hni: -9223372036854775808≤n∧n≤9223372036854775807) (hcf:confB q k s (pkN key 6)=true):
  Calls Tryz.prog 22 #[.pointer (some ⟨qb,0,none⟩),.int .i64 k,actV 7 who key n] w fun x w'=> ∃b,x= .returned (.bool b)∧b=true∧ ∃L',LW w0 w' qb hb mb (nq+3) m L' q A F∧HK L' K:=by
 have hk5:k<5:=by have:=(List.getElem?_eq_some_iff.1 hs).1;have:=h.ln;omega
 obtain⟨N,hN⟩: ∃N,N=w.heap.size:=⟨_,rfl⟩
 obtain⟨wA,hwA⟩: ∃wA,wA=w.alloc (.cells #[.int .i64 7,.int .i64 who,.int .i64 key,.int .i64 n] 29):=⟨_,rfl⟩
 have bA:wA.heap[N]? =some (.cells #[.int .i64 7,.int .i64 who,.int .i64 key,.int .i64 n] 29 (0,0)):=by rw[hwA,hN];exact alloc_new _ _
 have tA:Tch (fun _=>False) w wA:=by rw[hwA];exact Tch.alloc _ _ _
 have hA:=h.no tA
 obtain⟨κ,hκ⟩: ∃κ,κ=pkN key 6:=⟨_,rfl⟩
 obtain⟨v,hv⟩: ∃v,v=pkN n 1000:=⟨_,rfl⟩
 have hk6:κ<6:=by rw[hκ];exact pkN_lt key (by decide)
 rw[←hκ] at hcf
 have HP:Hid (∀W,Calls Tryz.prog 7 #[.int .i64 key,.int .i64 6] W fun x w'=>x= .returned (.int .i64 κ)∧w'=W):=fun W=>by
  rw[hκ];exact pick9_any key 6 W hki.1 hki.2 (by decide) (by decide)
 have HP2:Hid (∀W,Calls Tryz.prog 7 #[.int .i64 n,.int .i64 1000] W fun x w'=>x= .returned (.int .i64 v)∧w'=W):=fun W=>by
  rw[hv];exact pick9_any n 1000 W hni.1 hni.2 (by decide) (by decide)
 have HL:Hid (∀W,Tch (fun _=>False) wA W→LW w0 W qb hb mb nq m L q A F):=fun W tt=>hA.no tt
 have HA:Hid (∀W,Tch (fun _=>False) wA W→W.cell? ⟨N,0,none⟩=some (.int .i64 7)∧W.cell? ⟨N,2,none⟩=some (.int .i64 key)∧W.cell? ⟨N,3,none⟩=some (.int .i64 n)):=fun W tt=>by
  have:=tt.block N (blk_lt bA) (fun e=>e)
  rw[blk_cell (by rw[this];exact bA),blk_cell (by rw[this];exact bA),blk_cell (by rw[this];exact bA)];exact⟨rfl,rfl,rfl⟩
 have hbd:=hA.bd k s hs
 have qw:=writer_any wA qb (2+k*15) s (A k) (hA.mor.se k s hs)
 have HQ:Hid (∀W,Tch (fun _=>False) wA W→Calls Tryz.prog 42 #[.pointer (some ⟨qb,2+k*15,none⟩),.int .i64 κ] W fun x w'=>x= .returned (.int .i64 (seesS s κ))∧Tch (fun _=>False) wA w'):=fun W tt=>by
  refine(sees_any W qb (2+k*15) s (A k) ((HL.out W tt).mor.se k s hs) κ hk6 (hbd.ba κ hk6)).mono ?_
  rintro x w' ⟨rfl,t2⟩
  exact⟨rfl,tt.trans' t2⟩
 have HCf:Hid (∀W,Tch (fun _=>False) wA W→Calls Tryz.prog 48 #[.pointer (some ⟨qb,0,none⟩),.int .i64 k,.int .i64 κ] W fun x w'=>x= .returned (.bool true)∧Tch (fun _=>False) wA w'):=fun W tt=>by
  have:=conflict_any W qb mb hb q A (HL.out W tt).mor k κ s hs hk6
  rw[hcf] at this
  refine this.mono ?_
  rintro x w' ⟨rfl,t2⟩
  exact⟨rfl,tt.trans' t2⟩
 have hE:wantE q k s κ false=92:=by unfold wantE;rw[hcf];rfl
 have hadd: ∀u,addK K κ u (wantE q k s κ false)=K:=fun u=>by rw[hE];rfl
 obtain⟨C,hC⟩: ∃C:List Value→World→Prop,C=W2 w0 wA qb hb mb nq m q A F κ v 92 K:=⟨_,rfl⟩
 have hC1:Hid (∀s1 W,C s1 W→W.cell? ⟨qb,1,none⟩=some (.pointer (some ⟨hb,0,none⟩))∧W.cell? ⟨qb,2+k*15+3,none⟩=some (.int .i64 s.mn)∧W.cell? ⟨qb,2+k*15+4,none⟩=some (.int .i64 s.mx)∧W.cell? ⟨qb,2+k*15+5,none⟩=some (.slice (A k).so s.on.length (A k).sc)):=fun s1 W hW=>by
  rw[hC] at hW
  have hm:MoR W qb mb hb q A:=by
   match s1,hW with
   |[],hW=>exact(HL.out W hW).mor
   |[_],hW=>exact(HL.out W hW.2).mor
   |[_,_],hW=>exact(HL.out W hW.2).mor
   |[_,_,_],hW=>obtain⟨_,_,h9,_⟩:=hW;exact h9.mor
  exact⟨hm.ch,(hm.se k s hs).c 3 _ rfl,(hm.se k s hs).c 4 _ rfl,(hm.se k s hs).c 5 _ rfl⟩
 have c0:Hid (∀W,C [] W→Calls Tryz.prog 11 #[.int .i64 κ] W fun x W'=> ∃y,x= .returned y∧C [y] W'):=fun W hW=>by
  rw[hC] at hW ⊢
  refine(keyOf_any κ hk6 W).mono ?_
  rintro x W' ⟨rfl,tt⟩
  exact⟨_,rfl,rfl,Tch.trans' hW tt⟩
 have s0:Hid (∀y W,C [y] W→y= .string (keyB κ)):=fun y W hW=>by
  rw[hC] at hW;exact hW.1
 have c1:Hid (∀y W,C [y] W→Calls Tryz.prog 17 #[.int .i64 v] W fun x W'=> ∃u,x= .returned u∧C [y,u] W'):=fun y W hW=>by
  rw[hC] at hW ⊢
  refine(row_any v W).mono ?_
  rintro x W' ⟨rfl,rfl⟩
  exact⟨_,rfl,⟨_,_,rfl,row_rd v W⟩,hW.2.trans' (Tch.alloc _ _ _)⟩
 have s1:Hid (∀y u W,C [y,u] W→ ∃(ro:Option Addr) (rc:Nat),u= .slice ro 1 rc):=fun y u W hW=>by
  rw[hC] at hW
  obtain⟨⟨ro,rc,e,_⟩,_⟩:=hW
  exact⟨ro,rc,e⟩
 have c2:Hid (∀y ro rc W,C [y,.slice ro 1 rc] W→Calls Tryz.prog 49 #[.pointer (some ⟨hb,0,none⟩),.agg #[.int .i64 s.mn,.int .i64 s.mx,.slice (A k).so s.on.length (A k).sc],.int .i64 (wrN s (innS s)),.int .i64 1,.string (keyB κ),.slice ro 1 rc] W fun x W'=> ∃z,x= .returned z∧C [y,.slice ro 1 rc,z] W'):=fun y ro rc W hW=>by
  rw[hC] at hW ⊢
  obtain⟨⟨ro',rc',e,hr⟩,tt⟩:=hW
  injection e with e1 _ e2
  subst e1 e2
  refine((HL.out W tt).updates hI hK hs ho ht hpp hq hn hol hk6 hr).mono ?_
  rintro x W' ⟨⟨ro9,rn9,rc9,rfl,_,e9⟩,L',h9,hk9, -⟩
  rw[hadd] at hk9
  have e9:=e9 (by rw[hE];decide)
  subst e9
  rw[hE]
  exact⟨_,rfl,⟨_,_,rfl⟩,L',h9,hk9⟩
 have s2:Hid (∀y u z W,C [y,u,z] W→ ∃(ro:Option Addr) (rc:Nat),z= .tuple #[.slice ro 0 rc,.int .i64 92]):=fun y u z W hW=>by
  rw[hC] at hW;exact hW.1
 have HF:Hid (∀y u z W,C [y,u,z] W→ ∃L',LW w0 W qb hb mb (nq+3) m L' q A F∧HK L' K):=fun y u z W hW=>by
  rw[hC] at hW;exact hW.2
 have h00:Hid (∀W,Tch (fun _=>False) wA W→C [] W.drew):=fun W tt=>by
  rw[hC];exact Tch.drew tt
 have HWA:Hid (wA=_):=hwA
 have HN:Hid (N=w.heap.size):=hN
 have aa:=HA.out wA (Tch.refl _ _)
 have a2:=aa.2.1
 have qp:=HP.out wA
 unfold actV
 clear hwA hN bA tA hA h hI hK hs ho ht hpp hC hbd hκ hv hE hadd hcf aa
 go_enter Tryz.func22,Tryz.ntmps22
 go_upto_region 1 with(fail)
 rw[←HWA.out, ←HN.out]
 go_wp2_with fail
 refine qp.mono ?_
 clear qp a2
 rintro x w2 ⟨rfl,rfl⟩
 go_wp2_with fail
 refine qw.mono ?_
 clear qw
 rintro x w3 ⟨rfl,t3⟩
 have cs:=HQ.out w3 t3
 clear t3
 go_wp2_with fail
 refine cs.mono ?_
 clear cs
 rintro x w4 ⟨rfl,t4⟩
 have cf:=HCf.out w4 t4
 clear t4
 go_wp2_with fail
 refine cf.mono ?_
 clear cf
 rintro x w5 ⟨rfl,t5⟩
 have a5:=(HA.out w5 t5).1
 have a6:=(HA.out w5 t5).2.2
 have qp2:=HP2.out w5
 have H5:Hid (Tch (fun _=>False) w2 w5):=t5
 clear t5 HP HP2 HQ HCf
 go_upto_region 13 with(fail)
 go_wp2_with fail
 refine qp2.mono ?_
 clear qp2
 rintro x w6 ⟨rfl,rfl⟩
 go_upto_region 21 with(fail)
 refine wp_region_ordv [10,12,13] C 18 [0,1,2,3,4,5,6,7,8,9,11,10,12,13,14,15,16,17] (by kernel_rfl) (by kernel_rfl) (h00.out _ H5.out) ?_
 clear a5 a6
 iterate 11
  refine ordv_read rfl (by go_simp) (by rfl) ?_
  apply Exists.intro
  refine⟨fun s' W hW b K Q hK'=>?_,fun K hK'=>?_⟩
  ·obtain⟨q0,q2,q3,q4⟩:=hC1.out _ W hW
   go_simp
   exact hK' W hW
  go_simp
  refine hK' _ ?_
  clear hK' K
 refine ordv_turn rfl (by go_simp) (by rfl) (fun W hW b K Q hK'=>?_) (fun u hu K hK'=>?_)
 ·go_simp
  go_at_call 11
  refine(c0.out W hW).mono ?_
  rintro x w' ⟨y,rfl,h1⟩
  exact hK' y w' h1
 obtain rfl:u= .string (keyB κ):=by
  obtain⟨W',hW'⟩:=hu
  exact s0.out u W' hW'
 clear hu c0 s0
 go_simp
 refine hK' _ ?_
 clear hK' K
 refine ordv_turn rfl (by go_simp) (by rfl) (fun W hW b K Q hK'=>?_) (fun u hu K hK'=>?_)
 ·go_simp
  go_at_call 17
  refine(c1.out _ W hW).mono ?_
  rintro x w' ⟨y,rfl,h1⟩
  exact hK' y w' h1
 obtain⟨ro,rc,rfl⟩: ∃(ro:Option Addr) (rc:Nat),u= .slice ro 1 rc:=by
  obtain⟨W',hW'⟩:=hu
  exact s1.out _ u W' hW'
 clear hu c1 s1
 go_simp
 refine hK' _ ?_
 clear hK' K
 refine ordv_turn rfl (by go_simp) (by rfl) (fun W hW b K Q hK'=>?_) (fun u hu K hK'=>?_)
 ·go_simp
  go_at_call 49
  refine(c2.out _ _ _ W hW).mono ?_
  rintro x w' ⟨y,rfl,h1⟩
  exact hK' y w' h1
 obtain⟨oo,oc,rfl⟩: ∃(ro:Option Addr) (rc:Nat),u= .tuple #[.slice ro 0 rc,.int .i64 92]:=by
  obtain⟨W',hW'⟩:=hu
  exact s2.out _ _ u W' hW'
 clear hu c2 s2
 iterate 4
  go_simp
  refine hK' _ ?_
  clear hK' K
  refine ordv_read rfl (by go_simp) (by rfl) ?_
  apply Exists.intro
  refine⟨fun s' W hW b K Q hK'=>?_,fun K hK'=>?_⟩
  ·obtain⟨q0,q2,q3,q4⟩:=hC1.out _ W hW
   go_simp
   exact hK' W hW
 go_simp
 refine hK' _ ?_
 clear hK' K
 refine ordv_nil ?_
 intro w7 hw7
 have H7:Hid (∃L',LW w0 w7 qb hb mb (nq+3) m L' q A F∧HK L' K):=HF.out _ _ _ w7 hw7
 clear HF hw7 h00 hC1
 go_wp2_with fail
 go_ret
 exact⟨true,rfl,rfl,H7.out⟩
theorem writes_updS {w0:Fr} {w:World} {qb hb mb nq:Nat} {m:Mg} {L:HL} {q:Mo} {A:Nat→Sx} {F:Nat→Prop} {K:Nat→List Vn} (h:LW w0 w qb hb mb nq m L q A F) (hI:Iv m q K) (hK:HK L K) {k:Nat} {s:Se} (hs:q.l[k]? =some s) (ho:s.op=true) {t:Tx} (ht:SesTx m s t) (hpp:s.pp=false) (hq:nq≤1000) (hn:m.nx≤1000000) (hol:s.on.length≤1000000) {who key n:Int} (hki: -9223372036854775808≤key∧key≤9223372036854775807) (hni: -9223372036854775808≤n∧n≤9223372036854775807) (hcf:confB q k s (pkN key 6)=false) (hsn:seesS s (pkN key 6)=0):
  Calls Tryz.prog 22 #[.pointer (some ⟨qb,0,none⟩),.int .i64 k,actV 7 who key n] w fun x w'=> ∃b,x= .returned (.bool b)∧b=true∧ ∃L',LW w0 w' qb hb mb (nq+3) m L' q A F∧HK L' K:=by
 have hk5:k<5:=by have:=(List.getElem?_eq_some_iff.1 hs).1;have:=h.ln;omega
 obtain⟨N,hN⟩: ∃N,N=w.heap.size:=⟨_,rfl⟩
 obtain⟨wA,hwA⟩: ∃wA,wA=w.alloc (.cells #[.int .i64 7,.int .i64 who,.int .i64 key,.int .i64 n] 29):=⟨_,rfl⟩
 have bA:wA.heap[N]? =some (.cells #[.int .i64 7,.int .i64 who,.int .i64 key,.int .i64 n] 29 (0,0)):=by rw[hwA,hN];exact alloc_new _ _
 have tA:Tch (fun _=>False) w wA:=by rw[hwA];exact Tch.alloc _ _ _
 have hA:=h.no tA
 obtain⟨κ,hκ⟩: ∃κ,κ=pkN key 6:=⟨_,rfl⟩
 obtain⟨v,hv⟩: ∃v,v=pkN n 1000:=⟨_,rfl⟩
 have hk6:κ<6:=by rw[hκ];exact pkN_lt key (by decide)
 rw[←hκ] at hcf hsn
 have HP:Hid (∀W,Calls Tryz.prog 7 #[.int .i64 key,.int .i64 6] W fun x w'=>x= .returned (.int .i64 κ)∧w'=W):=fun W=>by
  rw[hκ];exact pick9_any key 6 W hki.1 hki.2 (by decide) (by decide)
 have HP2:Hid (∀W,Calls Tryz.prog 7 #[.int .i64 n,.int .i64 1000] W fun x w'=>x= .returned (.int .i64 v)∧w'=W):=fun W=>by
  rw[hv];exact pick9_any n 1000 W hni.1 hni.2 (by decide) (by decide)
 have HL:Hid (∀W,Tch (fun _=>False) wA W→LW w0 W qb hb mb nq m L q A F):=fun W tt=>hA.no tt
 have HA:Hid (∀W,Tch (fun _=>False) wA W→W.cell? ⟨N,0,none⟩=some (.int .i64 7)∧W.cell? ⟨N,2,none⟩=some (.int .i64 key)∧W.cell? ⟨N,3,none⟩=some (.int .i64 n)):=fun W tt=>by
  have:=tt.block N (blk_lt bA) (fun e=>e)
  rw[blk_cell (by rw[this];exact bA),blk_cell (by rw[this];exact bA),blk_cell (by rw[this];exact bA)];exact⟨rfl,rfl,rfl⟩
 have hbd:=hA.bd k s hs
 have qw:=writer_any wA qb (2+k*15) s (A k) (hA.mor.se k s hs)
 have HQ0:Hid (∀W,Tch (fun _=>False) wA W→Calls Tryz.prog 42 #[.pointer (some ⟨qb,2+k*15,none⟩),.int .i64 κ] W fun x w'=>x= .returned (.int .i64 (seesS s κ))∧Tch (fun _=>False) wA w'):=fun W tt=>by
  refine(sees_any W qb (2+k*15) s (A k) ((HL.out W tt).mor.se k s hs) κ hk6 (hbd.ba κ hk6)).mono ?_
  rintro x w' ⟨rfl,t2⟩
  exact⟨rfl,tt.trans' t2⟩
 have HQ:=HQ0
 rw[hsn] at HQ
 have HCf:Hid (∀W,Tch (fun _=>False) wA W→Calls Tryz.prog 48 #[.pointer (some ⟨qb,0,none⟩),.int .i64 k,.int .i64 κ] W fun x w'=>x= .returned (.bool false)∧Tch (fun _=>False) wA w'):=fun W tt=>by
  have:=conflict_any W qb mb hb q A (HL.out W tt).mor k κ s hs hk6
  rw[hcf] at this
  refine this.mono ?_
  rintro x w' ⟨rfl,t2⟩
  exact⟨rfl,tt.trans' t2⟩
 have hE:wantE q k s κ false=90:=by unfold wantE;rw[hcf,if_neg (by decide),if_neg (by decide),if_pos hsn]
 have hadd: ∀u,addK K κ u (wantE q k s κ false)=K:=fun u=>by rw[hE];rfl
 obtain⟨C,hC⟩: ∃C:List Value→World→Prop,C=W2 w0 wA qb hb mb nq m q A F κ v 90 K:=⟨_,rfl⟩
 have hC1:Hid (∀s1 W,C s1 W→W.cell? ⟨qb,1,none⟩=some (.pointer (some ⟨hb,0,none⟩))∧W.cell? ⟨qb,2+k*15+3,none⟩=some (.int .i64 s.mn)∧W.cell? ⟨qb,2+k*15+4,none⟩=some (.int .i64 s.mx)∧W.cell? ⟨qb,2+k*15+5,none⟩=some (.slice (A k).so s.on.length (A k).sc)):=fun s1 W hW=>by
  rw[hC] at hW
  have hm:MoR W qb mb hb q A:=by
   match s1,hW with
   |[],hW=>exact(HL.out W hW).mor
   |[_],hW=>exact(HL.out W hW.2).mor
   |[_,_],hW=>exact(HL.out W hW.2).mor
   |[_,_,_],hW=>obtain⟨_,_,h9,_⟩:=hW;exact h9.mor
  exact⟨hm.ch,(hm.se k s hs).c 3 _ rfl,(hm.se k s hs).c 4 _ rfl,(hm.se k s hs).c 5 _ rfl⟩
 have c0:Hid (∀W,C [] W→Calls Tryz.prog 11 #[.int .i64 κ] W fun x W'=> ∃y,x= .returned y∧C [y] W'):=fun W hW=>by
  rw[hC] at hW ⊢
  refine(keyOf_any κ hk6 W).mono ?_
  rintro x W' ⟨rfl,tt⟩
  exact⟨_,rfl,rfl,Tch.trans' hW tt⟩
 have s0:Hid (∀y W,C [y] W→y= .string (keyB κ)):=fun y W hW=>by
  rw[hC] at hW;exact hW.1
 have c1:Hid (∀y W,C [y] W→Calls Tryz.prog 17 #[.int .i64 v] W fun x W'=> ∃u,x= .returned u∧C [y,u] W'):=fun y W hW=>by
  rw[hC] at hW ⊢
  refine(row_any v W).mono ?_
  rintro x W' ⟨rfl,rfl⟩
  exact⟨_,rfl,⟨_,_,rfl,row_rd v W⟩,hW.2.trans' (Tch.alloc _ _ _)⟩
 have s1:Hid (∀y u W,C [y,u] W→ ∃(ro:Option Addr) (rc:Nat),u= .slice ro 1 rc):=fun y u W hW=>by
  rw[hC] at hW
  obtain⟨⟨ro,rc,e,_⟩,_⟩:=hW
  exact⟨ro,rc,e⟩
 have c2:Hid (∀y ro rc W,C [y,.slice ro 1 rc] W→Calls Tryz.prog 49 #[.pointer (some ⟨hb,0,none⟩),.agg #[.int .i64 s.mn,.int .i64 s.mx,.slice (A k).so s.on.length (A k).sc],.int .i64 (wrN s (innS s)),.int .i64 1,.string (keyB κ),.slice ro 1 rc] W fun x W'=> ∃z,x= .returned z∧C [y,.slice ro 1 rc,z] W'):=fun y ro rc W hW=>by
  rw[hC] at hW ⊢
  obtain⟨⟨ro',rc',e,hr⟩,tt⟩:=hW
  injection e with e1 _ e2
  subst e1 e2
  refine((HL.out W tt).updates hI hK hs ho ht hpp hq hn hol hk6 hr).mono ?_
  rintro x W' ⟨⟨ro9,rn9,rc9,rfl,_,e9⟩,L',h9,hk9, -⟩
  rw[hadd] at hk9
  have e9:=e9 (by rw[hE];decide)
  subst e9
  rw[hE]
  exact⟨_,rfl,⟨_,_,rfl⟩,L',h9,hk9⟩
 have s2:Hid (∀y u z W,C [y,u,z] W→ ∃(ro:Option Addr) (rc:Nat),z= .tuple #[.slice ro 0 rc,.int .i64 90]):=fun y u z W hW=>by
  rw[hC] at hW;exact hW.1
 have HF:Hid (∀y u z W,C [y,u,z] W→ ∃L',LW w0 W qb hb mb (nq+3) m L' q A F∧HK L' K):=fun y u z W hW=>by
  rw[hC] at hW;exact hW.2
 have h00:Hid (∀W,Tch (fun _=>False) wA W→C [] W.drew):=fun W tt=>by
  rw[hC];exact Tch.drew tt
 have HWA:Hid (wA=_):=hwA
 have HN:Hid (N=w.heap.size):=hN
 have aa:=HA.out wA (Tch.refl _ _)
 have a2:=aa.2.1
 have qp:=HP.out wA
 unfold actV
 clear hwA hN bA tA hA h hI hK hs ho ht hpp hC hbd hκ hv hE hadd hcf hsn HQ0 aa
 go_enter Tryz.func22,Tryz.ntmps22
 go_upto_region 1 with(fail)
 rw[←HWA.out, ←HN.out]
 go_wp2_with fail
 refine qp.mono ?_
 clear qp a2
 rintro x w2 ⟨rfl,rfl⟩
 go_wp2_with fail
 refine qw.mono ?_
 clear qw
 rintro x w3 ⟨rfl,t3⟩
 have cs:=HQ.out w3 t3
 clear t3
 go_wp2_with fail
 refine cs.mono ?_
 clear cs
 rintro x w4 ⟨rfl,t4⟩
 have cf:=HCf.out w4 t4
 clear t4
 go_wp2_with fail
 refine cf.mono ?_
 clear cf
 rintro x w5 ⟨rfl,t5⟩
 have a5:=(HA.out w5 t5).1
 have a6:=(HA.out w5 t5).2.2
 have qp2:=HP2.out w5
 have H5:Hid (Tch (fun _=>False) w2 w5):=t5
 clear t5 HP HP2 HQ HCf
 go_upto_region 13 with(fail)
 go_wp2_with fail
 refine qp2.mono ?_
 clear qp2
 rintro x w6 ⟨rfl,rfl⟩
 go_upto_region 21 with(fail)
 refine wp_region_ordv [10,12,13] C 18 [0,1,2,3,4,5,6,7,8,9,11,10,12,13,14,15,16,17] (by kernel_rfl) (by kernel_rfl) (h00.out _ H5.out) ?_
 clear a5 a6
 iterate 11
  refine ordv_read rfl (by go_simp) (by rfl) ?_
  apply Exists.intro
  refine⟨fun s' W hW b K Q hK'=>?_,fun K hK'=>?_⟩
  ·obtain⟨q0,q2,q3,q4⟩:=hC1.out _ W hW
   go_simp
   exact hK' W hW
  go_simp
  refine hK' _ ?_
  clear hK' K
 refine ordv_turn rfl (by go_simp) (by rfl) (fun W hW b K Q hK'=>?_) (fun u hu K hK'=>?_)
 ·go_simp
  go_at_call 11
  refine(c0.out W hW).mono ?_
  rintro x w' ⟨y,rfl,h1⟩
  exact hK' y w' h1
 obtain rfl:u= .string (keyB κ):=by
  obtain⟨W',hW'⟩:=hu
  exact s0.out u W' hW'
 clear hu c0 s0
 go_simp
 refine hK' _ ?_
 clear hK' K
 refine ordv_turn rfl (by go_simp) (by rfl) (fun W hW b K Q hK'=>?_) (fun u hu K hK'=>?_)
 ·go_simp
  go_at_call 17
  refine(c1.out _ W hW).mono ?_
  rintro x w' ⟨y,rfl,h1⟩
  exact hK' y w' h1
 obtain⟨ro,rc,rfl⟩: ∃(ro:Option Addr) (rc:Nat),u= .slice ro 1 rc:=by
  obtain⟨W',hW'⟩:=hu
  exact s1.out _ u W' hW'
 clear hu c1 s1
 go_simp
 refine hK' _ ?_
 clear hK' K
 refine ordv_turn rfl (by go_simp) (by rfl) (fun W hW b K Q hK'=>?_) (fun u hu K hK'=>?_)
 ·go_simp
  go_at_call 49
  refine(c2.out _ _ _ W hW).mono ?_
  rintro x w' ⟨y,rfl,h1⟩
  exact hK' y w' h1
 obtain⟨oo,oc,rfl⟩: ∃(ro:Option Addr) (rc:Nat),u= .tuple #[.slice ro 0 rc,.int .i64 90]:=by
  obtain⟨W',hW'⟩:=hu
  exact s2.out _ _ u W' hW'
 clear hu c2 s2
 iterate 4
  go_simp
  refine hK' _ ?_
  clear hK' K
  refine ordv_read rfl (by go_simp) (by rfl) ?_
  apply Exists.intro
  refine⟨fun s' W hW b K Q hK'=>?_,fun K hK'=>?_⟩
  ·obtain⟨q0,q2,q3,q4⟩:=hC1.out _ W hW
   go_simp
   exact hK' W hW
 go_simp
 refine hK' _ ?_
 clear hK' K
 refine ordv_nil ?_
 intro w7 hw7
 have H7:Hid (∃L',LW w0 w7 qb hb mb (nq+3) m L' q A F∧HK L' K):=HF.out _ _ _ w7 hw7
 clear HF hw7 h00 hC1
 go_wp2_with fail
 go_ret
 exact⟨true,rfl,rfl,H7.out⟩
end Go.Proofs.YtppokgdofgigfaaGreat.F
