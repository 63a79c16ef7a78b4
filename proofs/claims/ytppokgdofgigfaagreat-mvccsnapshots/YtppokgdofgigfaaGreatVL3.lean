import Derived.Test.YtppokgdofgigfaaGreatFT2
import Derived.Test.YtppokgdofgigfaaGreatFS0
import Derived.BigQuiet
set_option maxHeartbeats 8000000
set_option maxRecDepth 100000
namespace Go.Proofs.YtppokgdofgigfaaGreat.F
open Go.RowKit Go Go.Sort Go.Maps
def mo0:Mo:=⟨[se0,se0,se0,se0,se0],[0,0,0,0,0,0],[0,0,0,0,0,0],0⟩
def fr0 (w:World):Fr:=⟨w,w,fun _=>False,fun _ h=>h.elim⟩
theorem model_st (w:World):Calls Tryz.prog 5 #[] w fun x w'=> ∃qb hb mb,x= .returned (.pointer (some ⟨qb,0,none⟩))∧w.heap.size≤qb∧St w w' hb mb ⟨1,[],[]⟩ [] 0 [(qb,.cells (moC mo0 mb hb (fun _=>sx0)).toArray 46 (0,0))]:=by
 have qN:=new_ok 1 w (by omega) (by omega)
 go_enter Tryz.func5,Tryz.ntmps5
 go_wp2_with fail
 refine qN.mono ?_
 rintro x w1 ⟨⟨mb,rfl,hmb,hM⟩,t1⟩
 clear qN
 have hM1:=hM (fun i=>i<w.heap.size) (fun _ h=>h)
 have qH:=mnew_any mb ⟨1,[],[]⟩ w1 _ hM1
 clear hM hM1
 go_wp2_with fail
 refine qH.mono ?_
 rintro x w2 ⟨⟨hb,rfl,hhb,hS⟩,t2⟩
 clear qH
 have ST2:Hid (St w w2 hb mb ⟨1,[],[]⟩ [] 0 []):=St.first hS (t1.trans' t2)
 clear hS t1 t2 hmb hhb
 go_wp2
 go_ret
 have st:=ST2.out.alloc (.cells ((Tryz.zeroCells46.setIfInBounds 0 (.pointer (some ⟨mb,0,none⟩))).setIfInBounds 1 (.pointer (some ⟨hb,0,none⟩))) 46)
 exact⟨w2.heap.size,hb,mb,rfl,ST2.out.tch.size,st⟩
theorem wf0:Wf ⟨1,[],[]⟩:=
 ⟨by decide,by decide,(nofun),(nofun),(nofun),(nofun),(nofun),List.Pairwise.nil,List.Pairwise.nil,(nofun),rfl⟩
theorem se0_at {k:Nat} {s:Se} (h:mo0.l[k]? =some s):s=se0:=by
 have hk:=(List.getElem?_eq_some_iff.1 h).1
 have hk:k<5:=hk
 rcases(by omega:k=0∨k=1∨k=2∨k=3∨k=4) with rfl|rfl|rfl|rfl|rfl<;>(injection h with h;exact h.symm)
theorem n6_zero {κ:Nat} (h:κ<6):([0,0,0,0,0,0]:List Nat).getD κ 0=0:=by
 rcases(by omega:κ=0∨κ=1∨κ=2∨κ=3∨κ=4∨κ=5) with rfl|rfl|rfl|rfl|rfl|rfl<;>rfl
theorem inv0:Inv ⟨1,[],[]⟩ mo0 (fun _=>[]) (fun _=>0):=by
 have hc: ∀ {k:Nat} {s:Se},mo0.l[k]? =some s→s.op=true→False:=fun h ho=>by
  rw[se0_at h] at ho;cases ho
 refine⟨wf0,rfl,fun k s hs ho=>(hc hs ho).elim,fun k s hs ho=>(hc hs ho).elim,fun k k' s s' hs _ ho=>(hc hs ho).elim,(nofun),fun k s hs ho=>(hc hs ho).elim,fun κ hκ=>⟨[],none,?_⟩⟩
 exact⟨(nofun),rfl,(nofun),(nofun),fun k s hs ho=>(hc hs ho).elim,n6_zero hκ,n6_zero hκ,List.Pairwise.nil,fun k s hs ho=>(hc hs ho).elim⟩
theorem sb0:SB 0 0 ⟨1,[],[]⟩ mo0:=
 ⟨Nat.le_refl _,Nat.le_refl _,Nat.le_refl _,Nat.le_refl _,fun κ hκ=>by show([0,0,0,0,0,0]:List Nat).getD κ 0≤1000;rw[n6_zero hκ];omega,fun κ hκ=>by show([0,0,0,0,0,0]:List Nat).getD κ 0≤0;rw[n6_zero hκ];exact Nat.le_refl _,fun k s hs=>by rw[se0_at hs];exact⟨Nat.le_refl _,Nat.zero_le _,Nat.le_refl _⟩⟩
theorem hk0:HK [] (fun _=>[]):=⟨fun _ _=>rfl,(nofun)⟩
theorem lw0 {w w':World} {qb hb mb:Nat} (hq:w.heap.size≤qb) (h:St w w' hb mb ⟨1,[],[]⟩ [] 0 [(qb,.cells (moC mo0 mb hb (fun _=>sx0)).toArray 46 (0,0))]): ∃F,LW (fr0 w) w' qb hb mb 0 ⟨1,[],[]⟩ [] mo0 (fun _=>sx0) F:=by
 obtain⟨F,h1,h2,h3,h4⟩:=h
 obtain⟨b1,b2⟩:=h3 _ List.mem_cons_self
 refine⟨F,h1,fun i hi=>hi.elim (h2 i) (fun e=>e.elim),b2,hq,b1,rfl,fun k s hs=>?_,fun k s hs=>?_,fun k k' hne h5 h5' a a'=>⟨(nofun),(nofun)⟩,⟨h4,fun i hi=>hi.elim⟩⟩
 ·rw[se0_at hs];exact se0_in _ _ _
 ·rw[se0_at hs];exact se0_bd
end Go.Proofs.YtppokgdofgigfaaGreat.F
namespace Go.Proofs.YtppokgdofgigfaaGreat
open Go.RowKit Go Go.Sort Go.Maps
abbrev mg0:Mg:=⟨1,[],[]⟩
abbrev mg1:Mg:=⟨2,[1],[⟨1,1,[]⟩]⟩
abbrev mg2:Mg:=⟨3,[1,2],[⟨1,1,[]⟩,⟨2,1,[]⟩]⟩
abbrev aw3:Mg:=⟨3,[2],[⟨1,3,[]⟩,⟨2,1,[]⟩]⟩
abbrev awV:Ver:=⟨1,true,1,rowC 5⟩
abbrev awL:HL:=[((7,[107]),[awV])]
theorem aw_i1:insE mg1 1 1 [] 1 (chL [] 7 [107])=0:=rfl
theorem aw_i2:insE mg2 1 2 [1] 2 (chL awL 7 [107])=92:=rfl
theorem aw_g1:getV mg2 1 1 [] 1 (chL awL 7 [107])=some awV:=rfl
theorem aw_g2:getV mg2 1 2 [1] 2 (chL awL 7 [107])=none:=rfl
theorem awake_any (w:World):Calls Tryz.prog 4 #[] w fun x w'=>x= .returned (.bool true)∧Tch (fun _=>False) w w':=by
 have qN:=new_ok 1 w (by omega) (by omega)
 go_enter Tryz.func4,Tryz.ntmps4
 go_wp2_with fail
 refine qN.mono ?_
 rintro x w1 ⟨⟨mb,rfl,hmb,hM⟩,t1⟩
 clear qN
 have hM1:=hM (fun i=>i<w.heap.size) (fun _ h=>h)
 have qH:=mnew_any mb mg0 w1 _ hM1
 clear hM hM1
 go_wp2_with fail
 refine qH.mono ?_
 rintro x w2 ⟨⟨hb,rfl,hhb,hS⟩,t2⟩
 clear qH
 have st2:St w w2 hb mb mg0 [] 0 []:=St.first hS (t1.trans' t2)
 clear hS t1 t2 hmb hhb
 have qS:=snap_s st2
 go_wp2_with fail
 refine qS.mono ?_
 rintro x w3 ⟨so,sc,nb,rfl,st3,t3,J1,I1⟩
 clear qS st2 t3
 simp only[List.nil_append,List.headD_nil,List.length_nil] at st3 ⊢
 have st4:=st3.alloc (.cells #[.int .i64 1,.int .i64 1,.slice so 0 sc] 38)
 obtain⟨sb,hsb⟩: ∃sb,sb=w3.heap.size:=⟨_,rfl⟩
 obtain⟨w4,hw4⟩: ∃w4,w4=w3.alloc (.cells #[.int .i64 1,.int .i64 1,.slice so 0 sc] 38):=⟨_,rfl⟩
 rw[←hw4, ←hsb] at st4
 obtain⟨BX,hBX⟩: ∃BX,BX=nb++[(sb,Obj.cells #[.int .i64 1,.int .i64 1,.slice so 0 sc] 38 (0,0))]:=⟨_,rfl⟩
 rw[←hBX] at st4
 have M1:(sb,Obj.cells #[.int .i64 1,.int .i64 1,.slice so 0 sc] 38 (0,0))∈BX:=by rw[hBX];simp
 have N1: ∀p∈nb,p∈BX:=fun p hp=>by rw[hBX];exact List.mem_append.2 (.inl hp)
 have J1': ∀a,so=some a→ ∃o,(a.block,o)∈BX:=fun a ha=>by obtain⟨o,ho⟩:=J1 a ha;exact⟨o,N1 _ ho⟩
 clear J1 hBX st3
 have qB:Calls Tryz.prog 15 #[.pointer (some ⟨mb,0,none⟩)] w4 fun x w'=>x= .returned (.tuple #[.int .i64 1,.int .i64 0])∧St w w' hb mb mg1 [] 0 BX:=begin_s st4 (by decide)
 rw[hw4] at qB
 have Hw4:Hid _:=hw4
 clear hw4 st4
 go_wp2_with fail
 refine qB.mono ?_
 rw[←hsb]
 rintro x wA ⟨rfl,hst⟩
 clear qB Hw4 hsb
 have J1:=J1'
 go_wp2_with fail
 obtain⟨C,hC⟩: ∃C:List Value→World→Prop,C=fun s W=>match s with
  |[]=>St w W hb mb mg1 [] 0 BX
  |[y]=>St w W hb mb mg1 [] 0 BX∧ ∃g,y= .slice (some ⟨g,0,none⟩) 1 1∧RdR W (some ⟨g,0,none⟩) 1 1 (rowC 5)
  |[_,x]=>x= .int .i64 0∧St w W hb mb mg1 awL (0+3) BX
  |_=>False:=⟨_,rfl⟩
 have hK: ∀s W,C s W→W.cell? ⟨sb,0,none⟩=some (.int .i64 1)∧W.cell? ⟨sb,1,none⟩=some (.int .i64 1)∧W.cell? ⟨sb,2,none⟩=some (.slice so 0 sc):=fun s W hW=>by
  rw[hC] at hW
  have hbb:W.heap[sb]? =some (.cells #[.int .i64 1,.int .i64 1,.slice so 0 sc] 38 (0,0)):=by
   match s,hW with
   |[],hW=>exact St.box hW M1
   |[_],hW=>exact St.box hW.1 M1
   |[_,_],hW=>exact St.box hW.2 M1
  exact⟨by rw[blk_cell hbb];rfl,by rw[blk_cell hbb];rfl,by rw[blk_cell hbb];rfl⟩
 have h0':C [] wA.drew:=by rw[hC];exact hst.no (Tch.refl _ _).drew
 have c1: ∀W,C [] W→Calls Tryz.prog 17 #[.int .i64 5] W fun x W'=> ∃y,x= .returned y∧C [y] W':=fun W hW=>by
  rw[hC] at hW ⊢
  refine(row_any 5 W).mono ?_
  rintro x W' ⟨rfl,rfl⟩
  exact⟨_,rfl,St.no hW (Tch.alloc _ _ _),_,rfl,row_rd 5 W⟩
 have s1: ∀y W,C [y] W→ ∃g,y= .slice (some ⟨g,0,none⟩) 1 1:=fun y W hW=>by
  rw[hC] at hW
  obtain⟨_,g,e,_⟩:=hW
  exact⟨g,e⟩
 have c2: ∀y W,C [y] W→Calls Tryz.prog 16 #[.pointer (some ⟨hb,0,none⟩),.agg #[.int .i64 1,.int .i64 1,.slice so 0 sc],.int .i64 1,.int .i64 7,.string ⟨#[107]⟩,y] W fun x W'=> ∃u,x= .returned u∧C [y,u] W':=fun y W hW=>by
  rw[hC] at hW ⊢
  obtain⟨h1,g,rfl,h2⟩:=hW
  have q:=insert_s h1 (by omega) 7 (by omega) (by omega) ⟨#[107]⟩ (by decide) 1 1 [] so sc 1 (by omega) (by omega) (by simp) (I1 W (fun p hp=>St.box h1 (N1 p hp))) J1 _ 1 1 _ h2
  rw[show(⟨#[107]⟩:ByteArray).data.toList=[107] from rfl,aw_i1] at q
  refine Calls.mono q ?_
  rintro x W' ⟨rfl,h3⟩
  exact⟨_,rfl,rfl,h3⟩
 have HF:Hid (∀y u W,C [y,u] W→u= .int .i64 0∧St w W hb mb mg1 awL (0+3) BX):=fun y u W hW=>by
  rw[hC] at hW
  exact hW
 clear hC
 refine wp_region_ordv [3,4] C 5 [0,1,2,3,4] (by kernel_rfl) (by kernel_rfl) h0' ?_
 clear h0'
 iterate 3
  refine ordv_read rfl (by go_simp) (by rfl) ?_
  apply Exists.intro
  refine⟨fun s' W hW b K Q hK'=>?_,fun K hK'=>?_⟩
  ·obtain⟨q0,q1,q2⟩:=hK _ W hW
   go_simp
   exact hK' W hW
  go_simp
  refine hK' _ ?_
  clear hK' K
 refine ordv_turn rfl (by go_simp) (by rfl) (fun W hW b K Q hK'=>?_) (fun u hu K hK'=>?_)
 ·go_simp
  go_at_call 17
  refine(c1 W hW).mono ?_
  rintro x w' ⟨y,rfl,h1⟩
  exact hK' y w' h1
 obtain⟨g9,rfl⟩: ∃g,u= .slice (some ⟨g,0,none⟩) 1 1:=by
  obtain⟨W',hW'⟩:=hu
  exact s1 u W' hW'
 clear hu c1 s1
 go_simp
 refine hK' _ ?_
 clear hK' K
 refine ordv_turn rfl (by go_simp) (by rfl) (fun W hW b K Q hK'=>?_) (fun u hu K hK'=>?_)
 ·go_simp
  go_at_call 16
  refine(c2 _ W hW).mono ?_
  rintro x w' ⟨y,rfl,h1⟩
  exact hK' y w' h1
 obtain rfl:u= .int .i64 0:=by
  obtain⟨W',hW'⟩:=hu
  exact(HF.out _ u W' hW').1
 clear hu c2
 go_simp
 refine hK' _ ?_
 clear hK' K
 refine ordv_nil ?_
 intro wB hwB
 have hstB:=(HF.out _ _ wB hwB).2
 clear hK HF hwB C
 clear hst
 have qS:=snap_s hstB
 go_wp2_with fail
 refine qS.mono ?_
 rintro x w5 ⟨so2,sc2,nb2,rfl,st5,t5,J2,I2⟩
 clear qS hstB t5
 simp only[List.headD_cons,List.length_cons,List.length_nil] at st5 ⊢
 have st6:=st5.alloc (.cells #[.int .i64 1,.int .i64 2,.slice so2 1 sc2] 38)
 obtain⟨sb2,hsb2⟩: ∃sb2,sb2=w5.heap.size:=⟨_,rfl⟩
 rw[←hsb2] at st6
 obtain⟨BX2,hBX2⟩: ∃BX2,BX2=BX++nb2++[(sb2,Obj.cells #[.int .i64 1,.int .i64 2,.slice so2 1 sc2] 38 (0,0))]:=⟨_,rfl⟩
 rw[←hBX2] at st6
 have M2:(sb2,Obj.cells #[.int .i64 1,.int .i64 2,.slice so2 1 sc2] 38 (0,0))∈BX2:=by rw[hBX2];simp
 have N2: ∀p∈nb2,p∈BX2:=fun p hp=>by rw[hBX2];simp[hp]
 have N12: ∀p∈BX,p∈BX2:=fun p hp=>by rw[hBX2];simp[hp]
 have J2': ∀a,so2=some a→ ∃o,(a.block,o)∈BX2:=fun a ha=>by obtain⟨o,ho⟩:=J2 a ha;exact⟨o,N2 _ ho⟩
 clear J2 hBX2 st5
 have qB:Calls Tryz.prog 15 #[.pointer (some ⟨mb,0,none⟩)] (w5.alloc (.cells #[.int .i64 1,.int .i64 2,.slice so2 1 sc2] 38)) fun x w'=>x= .returned (.tuple #[.int .i64 2,.int .i64 0])∧St w w' hb mb mg2 awL 3 BX2:=begin_s st6 (by decide)
 go_wp2_with fail
 refine qB.mono ?_
 rw[←hsb2]
 rintro x w7 ⟨rfl,st7⟩
 clear qB st6 hsb2
 have J2:=J2'
 have r1:=st7.box (N12 _ M1)
 have a0:w7.cell? ⟨sb,0,none⟩=some (.int .i64 1):=by rw[blk_cell r1];rfl
 have a1:w7.cell? ⟨sb,1,none⟩=some (.int .i64 1):=by rw[blk_cell r1];rfl
 have a2:w7.cell? ⟨sb,2,none⟩=some (.slice so 0 sc):=by rw[blk_cell r1];rfl
 obtain⟨F7,hs7⟩:=st7.hs
 have qG:=get_f hs7 (by omega) 7 (by omega) (by omega) ⟨#[107]⟩ (by decide) 1 1 [] so sc 1 (by omega) (by omega) (by simp) (I1 w7 (fun p hp=>st7.box (N12 _ (N1 _ hp))))
 rw[show(⟨#[107]⟩:ByteArray).data.toList=[107] from rfl,aw_g1] at qG
 have ST7:Hid (St w w7 hb mb mg2 awL 3 BX2):=st7
 clear r1 hs7 st7
 go_wp2_with fail
 refine qG.mono ?_
 rintro x w8 ⟨⟨ro8,rc8,rfl,ho8⟩,t8⟩
 have st8:=ST7.out.no t8
 obtain⟨g8,cap8,cur8,e8,gg8,hg8,p81,p82,p83,p84⟩:=ho8.2.resolve_left (fun h=>by cases h.2)
 cases e8
 have st8':=ST7.out.add t8 [(g8,.cells cur8 79 (0,0))] (fun p hp=>by obtain rfl:=List.mem_singleton.1 hp;exact⟨gg8,hg8⟩)
 obtain⟨BX3,hBX3⟩: ∃BX3,BX3=BX2++[(g8,Obj.cells cur8 79 (0,0))]:=⟨_,rfl⟩
 rw[←hBX3] at st8'
 have N23: ∀p∈BX2,p∈BX3:=fun p hp=>by rw[hBX3];simp[hp]
 have HR8:Hid (∀W:World,W.heap[g8]? =some (.cells cur8 79 (0,0))→RdR W (some ⟨g8,0,none⟩) 1 rc8 (rowC 5)):=fun W hW=>RdR.of_own (base:=w7.heap.size) ⟨ho8.1,.inr ⟨g8,_,cur8,rfl,gg8,hW,p81,p82,p83,p84⟩⟩ (by simp[rowC,Value.oneCell']) (by omega)
 have M8:(g8,Obj.cells cur8 79 (0,0))∈BX3:=by rw[hBX3];simp
 clear ho8 t8 st8 hg8 p81 p82 p83 p84 gg8 qG a0 a1 a2 ST7 hBX3
 have r2:=st8'.box (N23 _ M2)
 have b0:w8.cell? ⟨sb2,0,none⟩=some (.int .i64 1):=by rw[blk_cell r2];rfl
 have b1:w8.cell? ⟨sb2,1,none⟩=some (.int .i64 2):=by rw[blk_cell r2];rfl
 have b2:w8.cell? ⟨sb2,2,none⟩=some (.slice so2 1 sc2):=by rw[blk_cell r2];rfl
 obtain⟨F8,hs8⟩:=st8'.hs
 have qG:=get_f hs8 (by omega) 7 (by omega) (by omega) ⟨#[107]⟩ (by decide) 1 2 [1] so2 sc2 2 (by omega) (by omega) (by simp) (I2 w8 (fun p hp=>st8'.box (N23 _ (N2 _ hp))))
 rw[show(⟨#[107]⟩:ByteArray).data.toList=[107] from rfl,aw_g2] at qG
 simp only[List.length_cons,List.length_nil,Nat.zero_add] at qG
 have ST8:Hid (St w w8 hb mb mg2 awL 3 BX3):=st8'
 clear r2 hs8 st8'
 go_wp2_with fail
 refine qG.mono ?_
 rintro x wA ⟨rfl,t9⟩
 have hst:=ST8.out.no t9
 clear t9 qG b0 b1 b2 ST8
 obtain⟨BXo,hBXo⟩: ∃BXo,BXo=BX:=⟨_,rfl⟩
 obtain⟨Mo2,No2,Jo2⟩:((sb2,Obj.cells #[.int .i64 1,.int .i64 2,.slice so2 1 sc2] 38 (0,0))∈BX3)∧(∀p∈nb2,p∈BX3)∧(∀a,so2=some a→ ∃o,(a.block,o)∈BX3):=⟨N23 _ M2,fun p hp=>N23 _ (N2 p hp),fun a ha=>by obtain⟨o,ho⟩:=J2 a ha;exact⟨o,N23 _ ho⟩⟩
 clear M1 N1 J1 J1' I1 N12 M2 N2 J2 J2' N23 hBXo BXo
 obtain⟨M2,N2,J2⟩:=And.intro Mo2 (And.intro No2 Jo2)
 go_wp2_with fail
 obtain⟨C,hC⟩: ∃C:List Value→World→Prop,C=fun s W=>match s with
  |[]=>St w W hb mb mg2 awL 3 BX3
  |[y]=>St w W hb mb mg2 awL 3 BX3∧ ∃g,y= .slice (some ⟨g,0,none⟩) 1 1∧RdR W (some ⟨g,0,none⟩) 1 1 (rowC 6)
  |[_,x]=>x= .int .i64 92∧St w W hb mb mg2 awL (3+3) BX3
  |_=>False:=⟨_,rfl⟩
 have hK: ∀s W,C s W→W.cell? ⟨sb2,0,none⟩=some (.int .i64 1)∧W.cell? ⟨sb2,1,none⟩=some (.int .i64 2)∧W.cell? ⟨sb2,2,none⟩=some (.slice so2 1 sc2):=fun s W hW=>by
  rw[hC] at hW
  have hbb:W.heap[sb2]? =some (.cells #[.int .i64 1,.int .i64 2,.slice so2 1 sc2] 38 (0,0)):=by
   match s,hW with
   |[],hW=>exact St.box hW M2
   |[_],hW=>exact St.box hW.1 M2
   |[_,_],hW=>exact St.box hW.2 M2
  exact⟨by rw[blk_cell hbb];rfl,by rw[blk_cell hbb];rfl,by rw[blk_cell hbb];rfl⟩
 have h0':C [] wA.drew:=by rw[hC];exact hst.no (Tch.refl _ _).drew
 have c1: ∀W,C [] W→Calls Tryz.prog 17 #[.int .i64 6] W fun x W'=> ∃y,x= .returned y∧C [y] W':=fun W hW=>by
  rw[hC] at hW ⊢
  refine(row_any 6 W).mono ?_
  rintro x W' ⟨rfl,rfl⟩
  exact⟨_,rfl,St.no hW (Tch.alloc _ _ _),_,rfl,row_rd 6 W⟩
 have s1: ∀y W,C [y] W→ ∃g,y= .slice (some ⟨g,0,none⟩) 1 1:=fun y W hW=>by
  rw[hC] at hW
  obtain⟨_,g,e,_⟩:=hW
  exact⟨g,e⟩
 have c2: ∀y W,C [y] W→Calls Tryz.prog 16 #[.pointer (some ⟨hb,0,none⟩),.agg #[.int .i64 1,.int .i64 2,.slice so2 1 sc2],.int .i64 2,.int .i64 7,.string ⟨#[107]⟩,y] W fun x W'=> ∃u,x= .returned u∧C [y,u] W':=fun y W hW=>by
  rw[hC] at hW ⊢
  obtain⟨h1,g,rfl,h2⟩:=hW
  have q:=insert_s h1 (by omega) 7 (by omega) (by omega) ⟨#[107]⟩ (by decide) 1 2 [1] so2 sc2 2 (by omega) (by omega) (by simp) (I2 W (fun p hp=>St.box h1 (N2 p hp))) J2 _ 1 1 _ h2
  rw[show(⟨#[107]⟩:ByteArray).data.toList=[107] from rfl,aw_i2] at q
  refine Calls.mono q ?_
  rintro x W' ⟨rfl,h3⟩
  exact⟨_,rfl,rfl,h3⟩
 have HF:Hid (∀y u W,C [y,u] W→u= .int .i64 92∧St w W hb mb mg2 awL (3+3) BX3):=fun y u W hW=>by
  rw[hC] at hW
  exact hW
 clear hC
 refine wp_region_ordv [3,4] C 5 [0,1,2,3,4] (by kernel_rfl) (by kernel_rfl) h0' ?_
 clear h0'
 iterate 3
  refine ordv_read rfl (by go_simp) (by rfl) ?_
  apply Exists.intro
  refine⟨fun s' W hW b K Q hK'=>?_,fun K hK'=>?_⟩
  ·obtain⟨q0,q1,q2⟩:=hK _ W hW
   go_simp
   exact hK' W hW
  go_simp
  refine hK' _ ?_
  clear hK' K
 refine ordv_turn rfl (by go_simp) (by rfl) (fun W hW b K Q hK'=>?_) (fun u hu K hK'=>?_)
 ·go_simp
  go_at_call 17
  refine(c1 W hW).mono ?_
  rintro x w' ⟨y,rfl,h1⟩
  exact hK' y w' h1
 obtain⟨g9,rfl⟩: ∃g,u= .slice (some ⟨g,0,none⟩) 1 1:=by
  obtain⟨W',hW'⟩:=hu
  exact s1 u W' hW'
 clear hu c1 s1
 go_simp
 refine hK' _ ?_
 clear hK' K
 refine ordv_turn rfl (by go_simp) (by rfl) (fun W hW b K Q hK'=>?_) (fun u hu K hK'=>?_)
 ·go_simp
  go_at_call 16
  refine(c2 _ W hW).mono ?_
  rintro x w' ⟨y,rfl,h1⟩
  exact hK' y w' h1
 obtain rfl:u= .int .i64 92:=by
  obtain⟨W',hW'⟩:=hu
  exact(HF.out _ u W' hW').1
 clear hu c2
 go_simp
 refine hK' _ ?_
 clear hK' K
 refine ordv_nil ?_
 intro wB hwB
 have hstB:=(HF.out _ _ wB hwB).2
 clear hK HF hwB C
 clear hst
 have qC:Calls Tryz.prog 18 #[.pointer (some ⟨mb,0,none⟩),.int .i64 1] wB fun x w'=>x= .returned (.int .i64 0)∧St w w' hb mb aw3 awL (3+3) BX3:=hstB.kept (X:=fun x=>x= .returned (.int .i64 0)) (fun _ hs _ _=>commit_h (t:=⟨1,1,[]⟩) hs rfl (by decide) (by omega) (by omega))
 clear hstB
 go_wp2_with fail
 refine qC.mono ?_
 rintro x wC ⟨rfl,stC⟩
 clear qC
 have qS:=snap_s stC
 go_wp2_with fail
 refine qS.mono ?_
 rintro x wD ⟨so4,sc4,nb4,rfl,stD,tD,J4,I4⟩
 clear qS stC tD J4
 simp only[List.headD_cons,List.length_cons,List.length_nil] at stD ⊢
 obtain⟨F9,hs9⟩:=stD.hs
 have qG:Calls Tryz.prog 9 #[.pointer (some ⟨hb,0,none⟩),.agg #[.int .i64 2,.int .i64 3,.slice so4 1 sc4],.int .i64 0,.int .i64 7,.string ⟨#[107]⟩] wD fun x w'=>GetOut wD (some awV) x w':=get_f hs9 (by omega) 7 (by omega) (by omega) ⟨#[107]⟩ (by decide) 2 3 [2] so4 sc4 0 (by omega) (by omega) (by simp) (I4 wD (fun p hp=>stD.box (List.mem_append.2 (.inr hp))))
 have STD:Hid (St w wD hb mb aw3 awL (3+3) (BX3++nb4)):=stD
 clear hs9 stD
 go_wp2_with fail
 refine qG.mono ?_
 rintro x wE ⟨⟨roE,rcE,rfl,hoE⟩,tE⟩
 have hE8:wE.heap[g8]? =some (.cells cur8 79 (0,0)):=(STD.out.no tE).box (List.mem_append.2 (.inl M8))
 have hrE:RdR wE roE 1 rcE (rowC 5):=RdR.of_own hoE (by simp[rowC,Value.oneCell']) (by omega)
 have hr8:=HR8.out wE hE8
 have TE:Hid (Tch (fun _=>False) w wE):=(STD.out.no tE).tch
 have q1:=row_any 5 wE
 clear qG hoE tE STD hE8 HR8 M8 I2 Mo2 No2 Jo2 M2 N2 J2 I4
 have HrE:Hid (RdR wE roE 1 rcE (rowC 5)):=hrE
 have Hr8:Hid (RdR wE (some ⟨g8,0,none⟩) 1 rc8 (rowC 5)):=hr8
 clear hrE hr8
 go_wp2_with fail
 refine q1.mono ?_
 rintro x wF ⟨rfl,hF⟩
 clear q1
 have tF:Tch (fun _=>False) wE wF:=by rw[hF];exact Tch.alloc _ _ _
 have q2:=same_any 5 (some ⟨g8,0,none⟩) (some ⟨wE.heap.size,0,none⟩) rc8 1 wF (Hr8.out.no tF) (by rw[hF];exact row_rd 5 wE)
 have TF:Hid (Tch (fun _=>False) wE wF):=tF
 clear tF hF
 go_wp2_with fail
 refine q2.mono ?_
 rintro x wG ⟨rfl,tG⟩
 clear q2
 have TG:Hid (Tch (fun _=>False) wE wG):=TF.out.trans' tG
 clear tG
 have q3:=row_any 5 wG
 go_wp2_with fail
 refine q3.mono ?_
 rintro x wH ⟨rfl,hH⟩
 clear q3
 have tH:Tch (fun _=>False) wG wH:=by rw[hH];exact Tch.alloc _ _ _
 have q4:=same_any 5 roE (some ⟨wG.heap.size,0,none⟩) rcE 1 wH (HrE.out.no (TG.out.trans' tH)) (by rw[hH];exact row_rd 5 wG)
 have TH:Hid (Tch (fun _=>False) w wH):=TE.out.trans' (TG.out.trans' tH)
 clear tH hH
 go_wp2_with fail
 refine q4.mono ?_
 rintro x wI ⟨rfl,tI⟩
 clear q4
 have TI:Hid (Tch (fun _=>False) w wI):=TH.out.trans' tI
 clear tI
 go_wp2
 go_ret
 exact⟨rfl,TI.out⟩
end Go.Proofs.YtppokgdofgigfaaGreat
namespace Go.Proofs.YtppokgdofgigfaaGreat.F
open Go.RowKit Go Go.Sort
set_option maxRecDepth 100000
structure Ac where
 kd:Int
 who:Int
 key:Int
 n:Int
def AcOk (a:Ac):Prop:=(-9223372036854775808≤a.kd∧a.kd≤9223372036854775807)∧(-9223372036854775808≤a.who∧a.who≤9223372036854775807)∧(-9223372036854775808≤a.key∧a.key≤9223372036854775807)∧(-9223372036854775808≤a.n∧a.n≤9223372036854775807)
def AcR (W:World) (so:Option Addr) (acs:List Ac):Prop:= ∀(i:Nat) (a:Ac),acs[i]? =some a→ ∃g o,so=some ⟨g,o,none⟩∧g<W.heap.size∧W.cell? ⟨g,o+i*4,none⟩=some (.int .i64 a.kd)∧W.cell? ⟨g,o+i*4+1,none⟩=some (.int .i64 a.who)∧W.cell? ⟨g,o+i*4+2,none⟩=some (.int .i64 a.key)∧W.cell? ⟨g,o+i*4+3,none⟩=some (.int .i64 a.n)
theorem AcR.no {W W':World} {so:Option Addr} {acs:List Ac} (h:AcR W so acs) (t:Tch (fun _=>False) W W'):AcR W' so acs:=fun i a ha=>by
 obtain⟨g,o,e,hg,h0,h1,h2,h3⟩:=h i a ha
 have c: ∀j u,W.cell? ⟨g,j,none⟩=some u→W'.cell? ⟨g,j,none⟩=some u:=fun j u hu=>(t.cell (p:=⟨g,j,none⟩) hg (fun e=>e)).trans hu
 exact⟨g,o,e,Nat.lt_of_lt_of_le hg t.size,c _ _ h0,c _ _ h1,c _ _ h2,c _ _ h3⟩
def SL (w1 W:World) (qb hb mb i:Nat):Prop:=PV (fr0 w1) qb hb mb i true W
section
variable {w1 W W':World} {qb hb mb i:Nat}
theorem SL.t (h:SL w1 W qb hb mb i):Tch (fun _=>False) w1 W:=by
 obtain⟨_,nq,m,L,q,A,F,K,h1,_⟩:=h
 exact h1.t.t
theorem SL.no (h:SL w1 W qb hb mb i) (t:Tch (fun _=>False) W W'):SL w1 W' qb hb mb i:=by
 obtain⟨e,nq,m,L,q,A,F,K,h1,h2⟩:=h
 exact⟨e,nq,m,L,q,A,F,K,h1.no t,h2⟩
theorem SL.does (h:SL w1 W qb hb mb i) (hi:i<200) {a:Ac} (ha:AcOk a):Calls Tryz.prog 6 #[.pointer (some ⟨qb,0,none⟩),.agg #[.int .i64 a.kd,.int .i64 a.who,.int .i64 a.key,.int .i64 a.n]] W fun x w'=>x= .returned (.bool true)∧SL w1 w' qb hb mb (i+1):=by
 obtain⟨_,nq,m,L,q,A,F,K,h1,h2,h3,h4⟩:=h
 obtain⟨s,hs⟩: ∃s,q.l[pkN a.who 5]? =some s:=⟨_,List.getElem?_eq_getElem (by rw[h2.ln];exact pkN_lt a.who (by decide))⟩
 obtain⟨a1,a2,a3,a4⟩:=ha
 refine(does_stepV h1 h2 h3 h4 hi a1 a2 a3 a4 hs).mono ?_
 rintro x w' ⟨b,rfl,hp⟩
 have hb:=hp.1
 subst hb
 exact⟨rfl,hp⟩
theorem SL.vac (h:SL w1 W qb hb mb i) (hi:i≤200):Calls Tryz.prog 8 #[.pointer (some ⟨qb,0,none⟩)] W fun x w'=>x= .returned (.bool true)∧SL w1 w' qb hb mb i:=by
 obtain⟨_,nq,m,L,q,A,F,K,h1,h2,h3,h4⟩:=h
 exact vacuums_any h1 h2 h3 h4 hi
theorem IL.zero0:IL ⟨1,[],[]⟩ mo0 (fun _=>[]):=IL.zero inv0 (fun k s hs ho=>by rw[se0_at hs] at ho;cases ho)
theorem sl0 {F:Nat→Prop} (h:LW (fr0 w1) W qb hb mb 0 ⟨1,[],[]⟩ [] mo0 (fun _=>sx0) F):SL w1 W qb hb mb 0:=
 ⟨rfl,0,_,_,_,_,F,_,h,IL.zero0,hk0,sb0⟩
def N1 (wA:World) (m:Mg) (v κ:Nat) (l:List Value) (W:World):Prop:=match l with
 |[]=>Tch (fun _=>False) wA W
 |[y]=>(∃so sc,y= .agg #[.int .i64 (m.on.headD m.nx:Nat),.int .i64 m.nx,.slice so m.on.length sc]∧IR W so (m.on.map Int.ofNat))∧Tch (fun _=>False) wA W
 |[y,z]=>(∃so sc,y= .agg #[.int .i64 (m.on.headD m.nx:Nat),.int .i64 m.nx,.slice so m.on.length sc]∧IR W so (m.on.map Int.ofNat))∧z= .string (keyB κ)∧Tch (fun _=>False) wA W
 |[_,_,u]=>((v=0∧u= .tuple #[.slice none 0 0,.int .i64 90])∨ ∃(n:Nat) (ro:Option Addr) (rc:Nat),v=n+1∧u= .tuple #[.slice ro 1 rc,.int .i64 0]∧RdR W ro 1 rc (rowC n))∧Tch (fun _=>False) wA W
 |_=>False
theorem N1.t {wA:World} {m:Mg} {v κ:Nat} {l:List Value} {W:World} (h:N1 wA m v κ l W):Tch (fun _=>False) wA W:=by
 match l,h with
 |[],h=>exact h
 |[_],h=>exact h.2
 |[_,_],h=>exact h.2.2
 |[_,_,_],h=>exact h.2
theorem SL.now (h:SL w1 W qb hb mb i) (hi:i≤200) {κ:Nat} (hκ:κ<6): ∃m v,v≤1000∧(∀W',Tch (fun _=>False) W W'→W'.cell? ⟨qb,0,none⟩=some (.pointer (some ⟨mb,0,none⟩))∧W'.cell? ⟨qb,1,none⟩=some (.pointer (some ⟨hb,0,none⟩))∧W'.cell? ⟨qb,77+κ,none⟩=some (.int .i64 (v:Nat)))∧
  (∀W',N1 W m v κ [] W'→Calls Tryz.prog 10 #[.pointer (some ⟨mb,0,none⟩)] W' fun x W2=> ∃y,x= .returned y∧N1 W m v κ [y] W2)∧
  (∀y W',N1 W m v κ [y] W'→Calls Tryz.prog 11 #[.int .i64 κ] W' fun x W2=> ∃z,x= .returned z∧N1 W m v κ [y,z] W2)∧
  (∀y z W',N1 W m v κ [y,z] W'→Calls Tryz.prog 9 #[.pointer (some ⟨hb,0,none⟩),y,.int .i64 0,.int .i64 1,z] W' fun x W2=> ∃u,x= .returned u∧N1 W m v κ [y,z,u] W2):=by
 obtain⟨_,nq,m,L,q,A,F,K,h1,h2,h3,h4⟩:=h
 refine⟨m,q.now.getD κ 0,h4.now κ hκ,fun W' t=>⟨(h1.no t).mor.cm,(h1.no t).mor.ch,(h1.no t).mor.now κ hκ⟩,fun W' hW=>?_,fun y W' hW=>?_,fun y z W' hW=>?_⟩
 ·refine(snapshot_h (h1.no hW.t).hs).mono ?_
  rintro x W2 ⟨⟨v',rfl,ho⟩,t2⟩
  obtain⟨so,sc,rfl⟩:=row_slice ho
  exact⟨_,rfl,⟨so,sc,rfl,IR.of_own ho⟩,hW.t.trans' t2⟩
 ·refine(keyOf_any κ hκ W').mono ?_
  rintro x W2 ⟨rfl,t2⟩
  obtain⟨⟨so,sc,e,hir⟩,t1⟩:=hW
  exact⟨_,rfl,⟨so,sc,e,hir.no t2⟩,rfl,t1.trans' t2⟩
 ·obtain⟨⟨so,sc,rfl,hir⟩,rfl,t1⟩:=hW
  have b1:=h4.nq
  have b2:=h4.on
  have q1:=get_f (h1.no t1).hs (by omega) 1 (by omega) (by omega) (keyB κ) (keyB_max κ) ((m.on.headD m.nx:Nat):Int) m.nx (m.on.map Int.ofNat) so sc 0 (by omega) (by omega) (by rw[List.length_map];omega) hir
  rw[List.length_map] at q1
  have e1:=h2.now hκ
  rw[←h3.1 κ hκ] at e1
  refine q1.mono ?_
  rintro x w' ⟨hx,tk⟩
  rcases e1 with⟨e1,e2⟩|⟨n,wr,e1,e2⟩
  ·rw[e1] at hx
   exact⟨_,hx,.inl ⟨e2,rfl⟩,t1.trans' tk⟩
  ·rw[e1] at hx
   obtain⟨ro,rc,hx,how⟩:=hx
   exact⟨_,hx,.inr ⟨n,ro,rc,e2,rfl,RdR.of_own how (by simp[rowC,Value.oneCell']) (by omega)⟩,t1.trans' tk⟩
end
set_option maxRecDepth 100000
theorem snaps_law (w:World) (so:Option Addr) (sc:Nat) (acs:List Ac) (hr:AcR w so acs) (hok: ∀a∈acs,AcOk a) (vo:Option Addr) (vc:Nat) (vs:List Int) (hv:IR w vo vs) (hvr: ∀v∈vs, -9223372036854775808≤v∧v≤9223372036854775807) (hvl:vs.length≤9223372036854775807):
  Calls Tryz.prog 3 #[.slice so acs.length sc,.slice vo vs.length vc] w fun x w'=>x= .returned (.bool true)∧Tch (fun _=>False) w w':=by
 obtain⟨n9,hn9⟩: ∃n9,n9=acs.length:=⟨_,rfl⟩
 obtain⟨vl,hvl9⟩: ∃vl,vl=vs.length:=⟨_,rfl⟩
 have Hn9:Hid (n9=acs.length∧vl=vs.length):=⟨hn9,hvl9⟩
 have Hok:Hid ((∀a∈acs,AcOk a)∧ ∀v∈vs, -9223372036854775808≤v∧v≤9223372036854775807):=⟨hok,hvr⟩
 rw[←hvl9] at hvl
 rw[←hn9, ←hvl9]
 have qa:=awake_any w
 have HR:Hid (∀W,Tch (fun _=>False) w W→AcR W so acs∧IR W vo vs):=fun W t=>⟨hr.no t,hv.no t⟩
 clear hn9 hok hvl9 hr hv hvr
 go_enter Tryz.func3,Tryz.ntmps3
 go_wp2_with fail
 refine qa.mono ?_
 clear qa
 rintro x w1 ⟨rfl,t1⟩
 have HT1:Hid (Tch (fun _=>False) w w1):=t1
 have qm:=model_st w1
 clear t1
 go_wp2_with fail
 refine qm.mono ?_
 clear qm
 rintro x w2 ⟨qb,hb,mb,rfl,hq,hst⟩
 obtain⟨F0,hl0⟩:=lw0 hq hst
 have HL0:Hid (SL w1 w2 qb hb mb 0):=sl0 hl0
 clear hl0 hst hq
 go_wp2_with fail
 go_loopw [7] (fun v7 wr=> ∃i:Nat,v7= .int .i64 i∧i≤200∧i≤n9∧Hid (SL w1 wr qb hb mb i)) (fun v7 _=>(n9 - intOf v7).toNat)
 case atStart=>exact⟨0,rfl,by omega,by omega,HL0⟩
 case round=>
  obtain⟨i,rfl,hi,hin,HLS⟩:=hrel
  obtain⟨wV,hwV⟩: ∃wV,wV=wr:=⟨_,rfl⟩
  subst hwV
  clear HL0
  have HTV:Hid (Tch (fun _=>False) w wV):=HT1.out.trans' HLS.out.t
  by_cases hgo:i<n9∧i<200
  ·obtain⟨hg1,hg2⟩:=hgo
   obtain⟨a,ha⟩: ∃a,acs[i]? =some a:=⟨_,List.getElem?_eq_getElem (by have:=Hn9.out.1;omega)⟩
   have HA:Hid (AcOk a):=Hok.out.1 a (List.mem_of_getElem? ha)
   obtain⟨sg,o,hso,_,c0,c1,c2,c3⟩:=(HR.out wV HTV.out).1 i a ha
   have qd:=HLS.out.does hg2 HA.out
   subst hso
   have hiI:(i:Int)<(n9:Int):=by omega
   have hi2:(i:Int)<200:=by omega
   clear ha HLS HTV
   go_wp2_with fail
   refine qd.mono ?_
   rintro x w3 ⟨rfl,h3⟩
   have HS3:Hid (SL w1 w3 qb hb mb (i+1)):=h3
   clear qd c0 c1 c2 c3 h3
   go_wp2_with fail
   go_loopw [9] (fun v9 wr=> ∃k:Nat,v9= .int .i64 k∧k≤vl∧Hid (SL w1 wr qb hb mb (i+1))) (fun v9 _=>(vl - intOf v9).toNat)
   case atStart=>exact⟨0,rfl,by omega,HS3⟩
   case round=>
    obtain⟨k,rfl,hk,HS4⟩:=hrel
    obtain⟨wU,hwU⟩: ∃wU,wU=wr:=⟨_,rfl⟩
    subst hwU
    clear HS3
    by_cases hlt:(k:Int)<(vl:Int)
    ·obtain⟨v,hv⟩: ∃v,vs[k]? =some v:=⟨_,List.getElem?_eq_getElem (by have:=Hn9.out.2;omega)⟩
     obtain⟨g,o2,hvo,d0⟩:=(HR.out wU (HT1.out.trans' HS4.out.t)).2 k v hv
     obtain⟨b1,b2⟩:=Hok.out.2 v (List.mem_of_getElem? hv)
     have qp:=pick9_any v 200 wU b1 b2 (by decide) (by decide)
     have qv:=HS4.out.vac (by omega)
     obtain⟨pv,hpv⟩: ∃pv,pv=pkN v 200:=⟨_,rfl⟩
     rw[←hpv] at qp
     subst hvo
     clear hv b1 b2 hpv
     go_wp2_with fail
     refine qp.mono ?_
     rintro x w4 ⟨rfl,rfl⟩
     clear qp d0
     by_cases hpi:pv=i
     ·subst hpi
      have hb1:((pv:Int)==(pv:Int))=true:=by simp
      go_wp2_with fail
      refine qv.mono ?_
      rintro x w5 ⟨rfl,h5⟩
      have HS5:Hid (SL w1 w5 qb hb mb (pv+1)):=h5
      clear qv h5 HS4
      go_wp2_with fail
      go_roundw
      case rel=>exact⟨k+1,by go_num,by omega,HS5⟩
      case measure=>(simp[intOf]<;>omega)
     ·have hb1:((pv:Int)==(i:Int))=false:=by simp;omega
      have hb2: ¬(pv:Int)=(i:Int):=by omega
      clear qv
      go_wp2_with fail
      go_roundw
      case rel=>exact⟨k+1,by go_num,by omega,HS4⟩
      case measure=>(simp[intOf]<;>omega)
    ·have hkk:k=vl:=by omega
     subst hkk
     clear hk hlt
     go_wp2_with fail
     go_roundw
     case rel=>exact⟨i+1,by go_num,by omega,by omega,HS4⟩
     case measure=>(simp[intOf]<;>omega)
  ·have hend: ¬((i:Int)<(n9:Int))∨((i:Int)<(n9:Int)∧ ¬((i:Int)<200)):=by omega
   rcases hend with h1|⟨h1,h2⟩
   ·clear hgo
    go_wp2_with fail
    go_loopw [10] (fun v10 wr=> ∃κ:Nat,v10= .int .i64 κ∧κ≤6∧Hid (SL w1 wr qb hb mb i)) (fun v10 _=>(6 - intOf v10).toNat)
    case atStart=>exact⟨0,rfl,by omega,HLS⟩
    case round=>
     obtain⟨κ,rfl,hκ,HS5⟩:=hrel
     obtain⟨wA,hwA⟩: ∃wA,wA=wr:=⟨_,rfl⟩
     subst hwA
     clear HLS
     by_cases hlt:(κ:Int)<6
     ·have hk6:κ<6:=by omega
      obtain⟨m,v,hv,hcells,hc0,hc1,hc2⟩:=HS5.out.now hi hk6
      have Hv:Hid (v≤1000):=hv
      have HT5:Hid (∀W,Tch (fun _=>False) wA W→SL w1 W qb hb mb i):=fun W t=>HS5.out.no t
      have HCe:Hid (∀W,Tch (fun _=>False) wA W→W.cell? ⟨qb,77+κ,none⟩=some (.int .i64 (v:Nat))):=fun W t=>(hcells W t).2.2
      obtain⟨C,hC⟩: ∃C:List Value→World→Prop,C=N1 wA m v κ:=⟨_,rfl⟩
      rw[←hC] at hc0 hc1 hc2
      have hC1:Hid (∀s1 W,C s1 W→W.cell? ⟨qb,0,none⟩=some (.pointer (some ⟨mb,0,none⟩))∧W.cell? ⟨qb,1,none⟩=some (.pointer (some ⟨hb,0,none⟩))):=fun s1 W hW=>by
       rw[hC] at hW
       exact⟨(hcells W hW.t).1,(hcells W hW.t).2.1⟩
      have c0:Hid (∀W,C [] W→Calls Tryz.prog 10 #[.pointer (some ⟨mb,0,none⟩)] W fun x W2=> ∃y,x= .returned y∧C [y] W2):=hc0
      have c1:Hid (∀y W,C [y] W→Calls Tryz.prog 11 #[.int .i64 κ] W fun x W2=> ∃z,x= .returned z∧C [y,z] W2):=hc1
      have c2:Hid (∀y z W,C [y,z] W→Calls Tryz.prog 9 #[.pointer (some ⟨hb,0,none⟩),y,.int .i64 0,.int .i64 1,z] W fun x W2=> ∃u,x= .returned u∧C [y,z,u] W2):=hc2
      have s0:Hid (∀y W,C [y] W→ ∃so sc,y= .agg #[.int .i64 (m.on.headD m.nx:Nat),.int .i64 m.nx,.slice so m.on.length sc]):=fun y W hW=>by
       rw[hC] at hW
       obtain⟨⟨so,sc,e,_⟩,_⟩:=hW
       exact⟨so,sc,e⟩
      have s1:Hid (∀y z W,C [y,z] W→z= .string (keyB κ)):=fun y z W hW=>by
       rw[hC] at hW;exact hW.2.1
      have s2:Hid (∀y z u W,C [y,z,u] W→ ∃ro rn rc e,u= .tuple #[.slice ro rn rc,.int .i64 e]):=fun y z u W hW=>by
       rw[hC] at hW
       rcases hW.1 with⟨_,e⟩|⟨_,ro,rc,_,e,_⟩
       ·exact⟨_,_,_,_,e⟩
       ·exact⟨_,_,_,_,e⟩
      have HF:Hid (∀y z u W,C [y,z,u] W→N1 wA m v κ [y,z,u] W):=fun y z u W hW=>by
       rw[hC] at hW;exact hW
      have h00:Hid (C [] wA.drew):=by
       show C [] _
       rw[hC];exact(Tch.refl _ _).drew
      obtain⟨hd,hhd⟩: ∃hd:Nat,hd=m.on.headD m.nx:=⟨_,rfl⟩
      rw[←hhd] at s0
      clear hv hcells hc0 hc1 hc2 hC hhd
      go_upto_region 21 with(fail)
      refine wp_region_ordv [8,10,11] C 16 [0,1,2,3,4,5,6,7,9,8,10,11,12,13,14,15] (by kernel_rfl) (by kernel_rfl) h00.out ?_
      iterate 9
       refine ordv_read rfl (by go_simp) (by rfl) ?_
       apply Exists.intro
       refine⟨fun s' W hW b K Q hK'=>?_,fun K hK'=>?_⟩
       ·obtain⟨q0,q1⟩:=hC1.out _ W hW
        go_simp
        exact hK' W hW
       go_simp
       refine hK' _ ?_
       clear hK' K
      refine ordv_turn rfl (by go_simp) (by rfl) (fun W hW b K Q hK'=>?_) (fun u hu K hK'=>?_)
      ·go_simp
       go_at_call 10
       refine(c0.out W hW).mono ?_
       rintro x w' ⟨y,rfl,h1⟩
       exact hK' y w' h1
      obtain⟨so9,sc9,rfl⟩: ∃so sc,u= .agg #[.int .i64 (hd:Nat),.int .i64 m.nx,.slice so m.on.length sc]:=by
       obtain⟨W',hW'⟩:=hu
       exact s0.out u W' hW'
      clear hu c0 s0
      go_simp
      refine hK' _ ?_
      clear hK' K
      refine ordv_turn rfl (by go_simp) (by rfl) (fun W hW b K Q hK'=>?_) (fun u hu K hK'=>?_)
      ·go_simp
       go_at_call 11
       refine(c1.out _ W hW).mono ?_
       rintro x w' ⟨y,rfl,h1⟩
       exact hK' y w' h1
      obtain rfl:u= .string (keyB κ):=by
       obtain⟨W',hW'⟩:=hu
       exact s1.out _ u W' hW'
      clear hu c1 s1
      go_simp
      refine hK' _ ?_
      clear hK' K
      refine ordv_turn rfl (by go_simp) (by rfl) (fun W hW b K Q hK'=>?_) (fun u hu K hK'=>?_)
      ·go_simp
       go_at_call 9
       refine(c2.out _ _ W hW).mono ?_
       rintro x w' ⟨y,rfl,h1⟩
       exact hK' y w' h1
      obtain⟨ro,rn,rc,e,rfl⟩: ∃ro rn rc e,u= .tuple #[.slice ro rn rc,.int .i64 e]:=by
       obtain⟨W',hW'⟩:=hu
       exact s2.out _ _ u W' hW'
      clear hu c2 s2
      iterate 4
       go_simp
       refine hK' _ ?_
       clear hK' K
       refine ordv_read rfl (by go_simp) (by rfl) ?_
       apply Exists.intro
       refine⟨fun s' W hW b K Q hK'=>?_,fun K hK'=>?_⟩
       ·obtain⟨q0,q1⟩:=hC1.out _ W hW
        go_simp
        exact hK' W hW
      go_simp
      refine hK' _ ?_
      clear hK' K
      refine ordv_nil ?_
      intro w5 hw5
      have h5:=HF.out _ _ _ w5 hw5
      clear HF hw5 h00 hC1
      obtain⟨h5,t5⟩:=h5
      have HT6:Hid (Tch (fun _=>False) wA w5):=t5
      clear t5
      have HE:Hid ((e=0∨e=90)∧ ∀W,Tch (fun _=>False) w5 W→Calls Tryz.prog 12 #[.slice ro rn rc,.int .i64 e] W fun x w'=>x= .returned (.int .i64 v)∧w'=W):=by
       rcases h5 with⟨e1,e2⟩|⟨nn,ro',rc',e1,e2,hr⟩
       ·injection e2 with e2
        simp only[Array.mk.injEq,List.cons.injEq,Value.slice.injEq,Value.int.injEq,and_true,true_and] at e2
        obtain⟨⟨rfl,rfl,rfl⟩,rfl⟩:=e2
        rw[e1]
        exact⟨.inr rfl,fun W _=>number_none W⟩
       ·injection e2 with e2
        simp only[Array.mk.injEq,List.cons.injEq,Value.slice.injEq,Value.int.injEq,and_true,true_and] at e2
        obtain⟨⟨rfl,rfl,rfl⟩,rfl⟩:=e2
        have hvv:=Hv.out
        rw[e1] at hvv ⊢
        exact⟨.inl rfl,fun W tt=>number_any _ _ nn W (by omega) (hr.no tt)⟩
      clear h5
      have f1: ∀p,Calls Tryz.prog 12 #[.slice ro rn rc,.int .i64 e] (w5.drewN p) fun x w''=>x= .returned (.int .i64 v)∧ ∃m,w''=w5.drewN m:=fun p=>Calls.quiet_of_same (HE.out.2 _ ((Tch.refl _ _).drewN _))
      have d1:w5.cell? ⟨qb,77+κ,none⟩=some (.int .i64 (v:Nat)):=HCe.out w5 HT6.out
      have HE0:Hid (e=0∨e=90):=HE.out.1
      have hvv:((v:Int) !=(v:Int))=false:=by simp
      have hkI:(0:Int)≤(κ:Int):=by omega
      have hkJ:(κ:Int)<6:=by omega
      clear HE HCe Hv
      go_upto_region 22 with(fail)
      go_quiet ((go_at_call 12;exact f1 _))
      have HS6:Hid (SL w1 (w5.drewN nq) qb hb mb i):=HT5.out _ (HT6.out.trans' ((Tch.refl _ _).drewN _))
      clear f1 d1
      go_wp2_with fail
      go_roundw
      case rel=>exact⟨κ+1,by go_num,by omega,HS6⟩
      case measure=>(simp[intOf]<;>omega)
     ·have hkk:κ=6:=by omega
      subst hkk
      clear hκ hlt
      go_wp2_with fail
      go_ret
      exact⟨rfl,HT1.out.trans' HS5.out.t⟩
   ·clear hgo
    go_wp2_with fail
    go_loopw [10] (fun v10 wr=> ∃κ:Nat,v10= .int .i64 κ∧κ≤6∧Hid (SL w1 wr qb hb mb i)) (fun v10 _=>(6 - intOf v10).toNat)
    case atStart=>exact⟨0,rfl,by omega,HLS⟩
    case round=>
     obtain⟨κ,rfl,hκ,HS5⟩:=hrel
     obtain⟨wA,hwA⟩: ∃wA,wA=wr:=⟨_,rfl⟩
     subst hwA
     clear HLS
     by_cases hlt:(κ:Int)<6
     ·have hk6:κ<6:=by omega
      obtain⟨m,v,hv,hcells,hc0,hc1,hc2⟩:=HS5.out.now hi hk6
      have Hv:Hid (v≤1000):=hv
      have HT5:Hid (∀W,Tch (fun _=>False) wA W→SL w1 W qb hb mb i):=fun W t=>HS5.out.no t
      have HCe:Hid (∀W,Tch (fun _=>False) wA W→W.cell? ⟨qb,77+κ,none⟩=some (.int .i64 (v:Nat))):=fun W t=>(hcells W t).2.2
      obtain⟨C,hC⟩: ∃C:List Value→World→Prop,C=N1 wA m v κ:=⟨_,rfl⟩
      rw[←hC] at hc0 hc1 hc2
      have hC1:Hid (∀s1 W,C s1 W→W.cell? ⟨qb,0,none⟩=some (.pointer (some ⟨mb,0,none⟩))∧W.cell? ⟨qb,1,none⟩=some (.pointer (some ⟨hb,0,none⟩))):=fun s1 W hW=>by
       rw[hC] at hW
       exact⟨(hcells W hW.t).1,(hcells W hW.t).2.1⟩
      have c0:Hid (∀W,C [] W→Calls Tryz.prog 10 #[.pointer (some ⟨mb,0,none⟩)] W fun x W2=> ∃y,x= .returned y∧C [y] W2):=hc0
      have c1:Hid (∀y W,C [y] W→Calls Tryz.prog 11 #[.int .i64 κ] W fun x W2=> ∃z,x= .returned z∧C [y,z] W2):=hc1
      have c2:Hid (∀y z W,C [y,z] W→Calls Tryz.prog 9 #[.pointer (some ⟨hb,0,none⟩),y,.int .i64 0,.int .i64 1,z] W fun x W2=> ∃u,x= .returned u∧C [y,z,u] W2):=hc2
      have s0:Hid (∀y W,C [y] W→ ∃so sc,y= .agg #[.int .i64 (m.on.headD m.nx:Nat),.int .i64 m.nx,.slice so m.on.length sc]):=fun y W hW=>by
       rw[hC] at hW
       obtain⟨⟨so,sc,e,_⟩,_⟩:=hW
       exact⟨so,sc,e⟩
      have s1:Hid (∀y z W,C [y,z] W→z= .string (keyB κ)):=fun y z W hW=>by
       rw[hC] at hW;exact hW.2.1
      have s2:Hid (∀y z u W,C [y,z,u] W→ ∃ro rn rc e,u= .tuple #[.slice ro rn rc,.int .i64 e]):=fun y z u W hW=>by
       rw[hC] at hW
       rcases hW.1 with⟨_,e⟩|⟨_,ro,rc,_,e,_⟩
       ·exact⟨_,_,_,_,e⟩
       ·exact⟨_,_,_,_,e⟩
      have HF:Hid (∀y z u W,C [y,z,u] W→N1 wA m v κ [y,z,u] W):=fun y z u W hW=>by
       rw[hC] at hW;exact hW
      have h00:Hid (C [] wA.drew):=by
       show C [] _
       rw[hC];exact(Tch.refl _ _).drew
      obtain⟨hd,hhd⟩: ∃hd:Nat,hd=m.on.headD m.nx:=⟨_,rfl⟩
      rw[←hhd] at s0
      clear hv hcells hc0 hc1 hc2 hC hhd
      go_upto_region 21 with(fail)
      refine wp_region_ordv [8,10,11] C 16 [0,1,2,3,4,5,6,7,9,8,10,11,12,13,14,15] (by kernel_rfl) (by kernel_rfl) h00.out ?_
      iterate 9
       refine ordv_read rfl (by go_simp) (by rfl) ?_
       apply Exists.intro
       refine⟨fun s' W hW b K Q hK'=>?_,fun K hK'=>?_⟩
       ·obtain⟨q0,q1⟩:=hC1.out _ W hW
        go_simp
        exact hK' W hW
       go_simp
       refine hK' _ ?_
       clear hK' K
      refine ordv_turn rfl (by go_simp) (by rfl) (fun W hW b K Q hK'=>?_) (fun u hu K hK'=>?_)
      ·go_simp
       go_at_call 10
       refine(c0.out W hW).mono ?_
       rintro x w' ⟨y,rfl,h1⟩
       exact hK' y w' h1
      obtain⟨so9,sc9,rfl⟩: ∃so sc,u= .agg #[.int .i64 (hd:Nat),.int .i64 m.nx,.slice so m.on.length sc]:=by
       obtain⟨W',hW'⟩:=hu
       exact s0.out u W' hW'
      clear hu c0 s0
      go_simp
      refine hK' _ ?_
      clear hK' K
      refine ordv_turn rfl (by go_simp) (by rfl) (fun W hW b K Q hK'=>?_) (fun u hu K hK'=>?_)
      ·go_simp
       go_at_call 11
       refine(c1.out _ W hW).mono ?_
       rintro x w' ⟨y,rfl,h1⟩
       exact hK' y w' h1
      obtain rfl:u= .string (keyB κ):=by
       obtain⟨W',hW'⟩:=hu
       exact s1.out _ u W' hW'
      clear hu c1 s1
      go_simp
      refine hK' _ ?_
      clear hK' K
      refine ordv_turn rfl (by go_simp) (by rfl) (fun W hW b K Q hK'=>?_) (fun u hu K hK'=>?_)
      ·go_simp
       go_at_call 9
       refine(c2.out _ _ W hW).mono ?_
       rintro x w' ⟨y,rfl,h1⟩
       exact hK' y w' h1
      obtain⟨ro,rn,rc,e,rfl⟩: ∃ro rn rc e,u= .tuple #[.slice ro rn rc,.int .i64 e]:=by
       obtain⟨W',hW'⟩:=hu
       exact s2.out _ _ u W' hW'
      clear hu c2 s2
      iterate 4
       go_simp
       refine hK' _ ?_
       clear hK' K
       refine ordv_read rfl (by go_simp) (by rfl) ?_
       apply Exists.intro
       refine⟨fun s' W hW b K Q hK'=>?_,fun K hK'=>?_⟩
       ·obtain⟨q0,q1⟩:=hC1.out _ W hW
        go_simp
        exact hK' W hW
      go_simp
      refine hK' _ ?_
      clear hK' K
      refine ordv_nil ?_
      intro w5 hw5
      have h5:=HF.out _ _ _ w5 hw5
      clear HF hw5 h00 hC1
      obtain⟨h5,t5⟩:=h5
      have HT6:Hid (Tch (fun _=>False) wA w5):=t5
      clear t5
      have HE:Hid ((e=0∨e=90)∧ ∀W,Tch (fun _=>False) w5 W→Calls Tryz.prog 12 #[.slice ro rn rc,.int .i64 e] W fun x w'=>x= .returned (.int .i64 v)∧w'=W):=by
       rcases h5 with⟨e1,e2⟩|⟨nn,ro',rc',e1,e2,hr⟩
       ·injection e2 with e2
        simp only[Array.mk.injEq,List.cons.injEq,Value.slice.injEq,Value.int.injEq,and_true,true_and] at e2
        obtain⟨⟨rfl,rfl,rfl⟩,rfl⟩:=e2
        rw[e1]
        exact⟨.inr rfl,fun W _=>number_none W⟩
       ·injection e2 with e2
        simp only[Array.mk.injEq,List.cons.injEq,Value.slice.injEq,Value.int.injEq,and_true,true_and] at e2
        obtain⟨⟨rfl,rfl,rfl⟩,rfl⟩:=e2
        have hvv:=Hv.out
        rw[e1] at hvv ⊢
        exact⟨.inl rfl,fun W tt=>number_any _ _ nn W (by omega) (hr.no tt)⟩
      clear h5
      have f1: ∀p,Calls Tryz.prog 12 #[.slice ro rn rc,.int .i64 e] (w5.drewN p) fun x w''=>x= .returned (.int .i64 v)∧ ∃m,w''=w5.drewN m:=fun p=>Calls.quiet_of_same (HE.out.2 _ ((Tch.refl _ _).drewN _))
      have d1:w5.cell? ⟨qb,77+κ,none⟩=some (.int .i64 (v:Nat)):=HCe.out w5 HT6.out
      have HE0:Hid (e=0∨e=90):=HE.out.1
      have hvv:((v:Int) !=(v:Int))=false:=by simp
      have hkI:(0:Int)≤(κ:Int):=by omega
      have hkJ:(κ:Int)<6:=by omega
      clear HE HCe Hv
      go_upto_region 22 with(fail)
      go_quiet ((go_at_call 12;exact f1 _))
      have HS6:Hid (SL w1 (w5.drewN nq) qb hb mb i):=HT5.out _ (HT6.out.trans' ((Tch.refl _ _).drewN _))
      clear f1 d1
      go_wp2_with fail
      go_roundw
      case rel=>exact⟨κ+1,by go_num,by omega,HS6⟩
      case measure=>(simp[intOf]<;>omega)
     ·have hkk:κ=6:=by omega
      subst hkk
      clear hκ hlt
      go_wp2_with fail
      go_ret
      exact⟨rfl,HT1.out.trans' HS5.out.t⟩
end Go.Proofs.YtppokgdofgigfaaGreat.F
