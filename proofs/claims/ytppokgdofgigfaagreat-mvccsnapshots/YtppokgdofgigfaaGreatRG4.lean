import Derived.Test.YtppokgdofgigfaaGreatRG1
import Derived.Test.YtppokgdofgigfaaGreatFP6
set_option maxHeartbeats 8000000
set_option maxRecDepth 100000
namespace Go.Proofs.YtppokgdofgigfaaGreat.R
open Go.RowKit Go Go.Sort Go.Maps Go.Shelf Go.Proofs.YtppokgdofgigfaaGreat.F
attribute [local go_sem] Oper.semAt_some
theorem scL_len (s:Se):(scL s).length≤6:=by
 unfold scL
 exact Nat.le_trans (List.length_filterMap_le _ _) (by simp)
def S1 (W0:World) (hb:Nat) (mn mx:Int) (ol:List Int) (so:Option Addr) (sc:Nat) (own:Int) (G:Nat→Prop) (L:List KN) (l:List Value) (W:World):Prop:=match l with
 |[]=>Tch (fun _=>False) W0 W
 |[y]=>(∃b9,y= .func (.func 57) #[] #[pv b9,pv (b9+1),pv (b9+1+1)]∧SB W hb b9 (b9+1) (b9+1+1) mn mx ol so sc own)∧Tch (fun _=>False) W0 W
 |[_,z]=>(∃N l0,z=pv N∧TW N W N l0∧W0.heap.size≤N∧Mt W G l0 L)∧Tch (fun _=>False) W0 W
 |_=>False
theorem S1.t {W0:World} {hb:Nat} {mn mx:Int} {ol:List Int} {so:Option Addr} {sc:Nat} {own:Int} {G:Nat→Prop} {L:List KN} {l:List Value} {W:World} (h:S1 W0 hb mn mx ol so sc own G L l W):Tch (fun _=>False) W0 W:=by
 match l,h with
 |[],h=>exact h
 |[_],h=>exact h.2
 |[_,_],h=>exact h.2
theorem seenBy_sb (hb:Nat) (mn mx:Int) (so:Option Addr) (ol:List Int) (sc:Nat) (own:Int) (w:World) (ir:IR w so ol):
  Calls Tryz.prog 30 #[pv hb,.agg #[.int .i64 mn,.int .i64 mx,.slice so ol.length sc],.int .i64 own] w fun x w'=>(∃b9,x= .returned (.func (.func 57) #[] #[pv b9,pv (b9+1),pv (b9+1+1)])∧SB w' hb b9 (b9+1) (b9+1+1) mn mx ol so sc own)∧Tch (fun _=>False) w w':=by
 refine(seenBy_any hb mn mx so ol.length sc own w).mono ?_
 rintro x w' ⟨rfl,hw'⟩
 have t1:Tch (fun _=>False) w w':=by rw[hw'];exact((Tch.alloc _ _ _).allocR _).allocR _
 refine⟨⟨w.heap.size,rfl,⟨?_,?_,?_,ir.no t1⟩⟩,t1⟩
 ·rw[hw',al_old _ (by simp only[al_size];omega),al_old _ (by simp only[al_size];omega)];exact alloc_new _ _
 ·rw[hw',al_old _ (by simp only[al_size];omega)]
  have:=alloc_new (w.alloc (.cells #[.pointer (some ⟨hb,0,none⟩)] 36)) (.cells #[.int .i64 mn,.int .i64 mx,.slice so ol.length sc] 38)
  rwa [al_size] at this
 ·rw[hw']
  have:=alloc_new ((w.alloc (.cells #[.pointer (some ⟨hb,0,none⟩)] 36)).alloc (.cells #[.int .i64 mn,.int .i64 mx,.slice so ol.length sc] 38)) (.cells #[.int .i64 own] 3)
  simp only[al_size] at this
  exact this
def S2 (Wb:World) (n:Nat) (l:List Value) (W:World):Prop:=match l with
 |[]=>Tch (fun _=>False) Wb W
 |[y]=>(∃ro rc,y= .slice ro 1 rc∧RdR W ro 1 rc (rowC n))∧Tch (fun _=>False) Wb W
 |_=>False
theorem S2.t {Wb:World} {n:Nat} {l:List Value} {W:World} (h:S2 Wb n l W):Tch (fun _=>False) Wb W:=by
 match l,h with
 |[],h=>exact h
 |[_],h=>exact h.2
theorem scan1_any {w0:Go.Proofs.YtppokgdofgigfaaGreat.F.Fr} {w:World} {qb hb mb nq:Nat} {m:Mg} {L:HL} {q:Mo} {A:Nat→Sx} {F:Nat→Prop} {K:Nat→List Vn} {k:Nat} {s:Se} {t:Tx} (h:LW w0 w qb hb mb nq m L q A F) (hI:Iv m q K) (hK:HK L K) (hs:q.l[k]? =some s) (ho:s.op=true) (ht:SesTx m s t) (hpp:s.pp=false) (hq:nq≤2000) (hn:m.nx≤1000000) (hol:s.on.length≤1000000)
  (n b:Nat) (so:Option Addr) (sc:Nat) (hbx:SC w hb b s.mn s.mx (onI s) so sc (wrN s (innS s))) (X:Nat→Prop) (hX: ∀k,X k→F k∧ ¬(b≤k∧k≤b+1+1+1)):
  SeqR n Tryz.prog 76 #[pv b,pv (b+1+1+1),pv (b+1),pv (b+1+1)] (fun k=>k<w.heap.size∧ ¬X k) (scL s) w:=by
 intro l J Jx T Z W hl hlW tW hT hZ aJ aJx hY h0
 obtain⟨Y,hYd⟩: ∃Y:Nat→Prop,Y=fun k=>k<w.heap.size∧ ¬X k:=⟨_,rfl⟩
 rw[←hYd] at hT hZ
 have hYw: ∀k,Y k→k<w.heap.size:=fun k hk=>by rw[hYd] at hk;exact hk.1
 obtain⟨G,hG⟩: ∃G:Nat→Prop,G=fun k=> ¬F k∧k<w.heap.size:=⟨_,rfl⟩
 have HG:Hid (∀k, ¬Y k→ ¬G k):=fun k hk hg=>by
  rw[hG] at hg
  rw[hYd] at hk
  exact hk ⟨hg.2,fun hx=>hg.1 (hX k hx).1⟩
 have HGw:Hid (∀k,G k→k<w.heap.size):=fun k hg=>by rw[hG] at hg;exact hg.2
 obtain⟨yb,hyb⟩: ∃yb,yb=W.heap.size:=⟨_,rfl⟩
 obtain⟨W0,hW0⟩: ∃W0,W0=W.alloc (.cells #[yF l] 134):=⟨_,rfl⟩
 have t0:Tch (fun _=>False) W W0:=by rw[hW0];exact Tch.alloc _ _ _
 have HS0:Hid (WS w l Y yb [] Z W0):=⟨(tW.trans' t0).mono (fun _ _ h=>h.elim),by omega,fun h=>by have:=(hZ _ h).1;omega,by rw[hW0,hyb];exact alloc_new _ _,fun d hd=>(by cases hd),List.nodup_nil,fun k hk=>⟨Nat.lt_of_lt_of_le (hZ k hk).1 t0.size,(hZ k hk).2⟩⟩
 have HJ0:Hid (J [] Z W0):=aJ _ _ _ _ h0 (t0.mono (fun _ _ h=>h.elim))
 have HaJ:Hid (Abl l J∧Abl l Jx):=⟨aJ,aJx⟩
 have HY:Hid (∀m pre x ro rc Z1 W1,pre++[x]<+:scL s→J pre Z1 W1→RdR W1 ro 1 rc (rowC x.2)→YieldAt Fence.wide m Tryz.prog l (eR x ro rc) W1 (Rnd T Z1 W1 (J (pre++[x])) (Jx (pre++[x])))):=hY
 have HT:Hid (∀k,T k→k≤l∧ ¬Y k):=hT
 have HYw:Hid (∀k,Y k→k<w.heap.size):=hYw
 have HlW:Hid (l<W0.heap.size):=Nat.lt_trans HS0.out.ylt (blk_lt HS0.out.yc)
 have hbx0:=hbx.no (tW.trans' t0)
 have HOrd:Hid (∀W b9,Tch (fun _=>False) W0 W→SB W hb b9 (b9+1) (b9+1+1) s.mn s.mx (onI s) so sc (wrN s (innS s))→Calls Tryz.prog 77 #[pv hb,.int .i64 1,.func (.func 57) #[] #[pv b9,pv (b9+1),pv (b9+1+1)]] W fun x w'=> ∃l0,x= .returned (pv W.heap.size)∧TW W.heap.size w' W.heap.size l0∧Tch (fun _=>False) W w'∧Mt w' G l0 (scL s)):=fun W1 b9 t1 sb=>by
  rw[hG]
  exact order_any h hI hK hs ho ht hpp hq hn hol ((tW.trans' t0).trans' t1) sb
 obtain⟨C,hC⟩: ∃C:List Value→World→Prop,C=S1 W0 hb s.mn s.mx (onI s) so sc (wrN s (innS s)) G (scL s):=⟨_,rfl⟩
 obtain⟨ln,hln⟩: ∃ln,ln=(onI s).length:=⟨_,rfl⟩
 have hKC:Hid (∀s1 W,C s1 W→W.cell? ⟨b,0,none⟩=some (pv hb)∧W.cell? ⟨b+1+1+1,0,none⟩=some (.int .i64 1)∧(W.cell? ⟨b+1,0,none⟩=some (.int .i64 s.mn)∧W.cell? ⟨b+1,1,none⟩=some (.int .i64 s.mx)∧W.cell? ⟨b+1,2,none⟩=some (.slice so ln sc))∧W.cell? ⟨b+1+1,0,none⟩=some (.int .i64 (wrN s (innS s)))):=fun s1 W1 hW=>by
  rw[hC] at hW
  have h9:=hbx0.no hW.t
  exact⟨by rw[blk_cell h9.h];rfl,by rw[blk_cell h9.t];rfl,⟨by rw[blk_cell h9.s];rfl,by rw[blk_cell h9.s];rfl,by rw[blk_cell h9.s,hln];rfl⟩,by rw[blk_cell h9.x];rfl⟩
 have c0:Hid (∀W,C [] W→Calls Tryz.prog 30 #[pv hb,.agg #[.int .i64 s.mn,.int .i64 s.mx,.slice so ln sc],.int .i64 (wrN s (innS s))] W fun x W'=> ∃y,x= .returned y∧C [y] W'):=fun W1 hW=>by
  rw[hC] at hW ⊢
  rw[hln]
  refine(seenBy_sb hb s.mn s.mx so (onI s) sc (wrN s (innS s)) W1 (hbx0.no hW.t).ir).mono ?_
  rintro x W2 ⟨⟨b9,rfl,sb⟩,t2⟩
  exact⟨_,rfl,⟨b9,rfl,sb⟩,hW.t.trans' t2⟩
 have s0:Hid (∀y W,C [y] W→ ∃b9,y= .func (.func 57) #[] #[pv b9,pv (b9+1),pv (b9+1+1)]):=fun y W1 hW=>by
  rw[hC] at hW
  obtain⟨⟨b9,e,_⟩,_⟩:=hW
  exact⟨b9,e⟩
 have c1:Hid (∀b9 W,C [.func (.func 57) #[] #[pv b9,pv (b9+1),pv (b9+1+1)]] W→Calls Tryz.prog 77 #[pv hb,.int .i64 1,.func (.func 57) #[] #[pv b9,pv (b9+1),pv (b9+1+1)]] W fun x W'=> ∃y,x= .returned y∧C [.func (.func 57) #[] #[pv b9,pv (b9+1),pv (b9+1+1)],y] W'):=fun b9 W1 hW=>by
  rw[hC] at hW ⊢
  obtain⟨⟨b8,e,sb⟩,t1⟩:=hW
  have e8:b9=b8:=by
   injection e with _ _ e
   have e:=congrArg (fun a:Array Value=>a.getD 0 undef) e
   injection e with e
   injection e with e
   injection e
  subst e8
  refine(HOrd.out W1 b9 t1 sb).mono ?_
  rintro x W2 ⟨l0,rfl,htw,t2,hm⟩
  exact⟨_,rfl,⟨_,l0,rfl,htw,t1.size,hm⟩,t1.trans' t2⟩
 have s1:Hid (∀y z W,C [y,z] W→ ∃N,z=pv N):=fun y z W1 hW=>by
  rw[hC] at hW
  obtain⟨⟨N,l0,e,_⟩,_⟩:=hW
  exact⟨N,e⟩
 have HF:Hid (∀y N W,C [y,pv N] W→ ∃l0,TW N W N l0∧W0.heap.size≤N∧Mt W G l0 (scL s)∧Tch (fun _=>False) W0 W):=fun y N W1 hW=>by
  rw[hC] at hW
  obtain⟨⟨N',l0,e,h1,h2,h3⟩,h4⟩:=hW
  have e':N=N':=by
   injection e with e
   injection e with e
   injection e
  subst e'
  exact⟨l0,h1,h2,h3,h4⟩
 have h00:Hid (C [] W0.drew):=by rw[hC];exact(Tch.refl _ _).drew
 have HYd:Hid (Y=fun k=>k<w.heap.size∧ ¬X k):=hYd
 have HW0:Hid (W0=W.alloc (.cells #[yF l] 134)):=hW0
 have HYb:Hid (yb=W.heap.size):=hyb
 refine callsIn_of_wp_marks Tryz.func76 rfl trivial ?_ rfl
 simp only[Tryz.ntmps76,List.size_toArray,List.length_cons,List.length_nil,Nat.reduceAdd,Nat.reduceSub,Array.replicate_succ,Array.replicate_zero,List.push_toArray,List.append_toArray,List.nil_append,List.cons_append]
 refine wpIn_wide.2 ?_
 clear hC hW0 hyb h hI hK hs ho ht hpp hq hn hol hbx hbx0 hX tW t0 h0 hZ aJ aJx hY hT hYw hYd hl hlW hln hG
 go_upto_region 1 with(fail)
 have hw:=HW0.out
 change W0=W.alloc (Obj.cells #[Value.func (Fn.yield l) #[] #[]] 134) at hw
 rw[←hw]
 have hyb:=HYb.out
 rw[←hyb]
 clear hw hyb HYb HW0
 refine wp_region_ordv [5,6] C 7 [0,1,2,3,4,5,6] (by kernel_rfl) (by kernel_rfl) h00.out ?_
 clear h00
 iterate 5
  refine ordv_read rfl (by go_simp) (by rfl) ?_
  apply Exists.intro
  refine⟨fun s' Wy hW b K Q hK'=>?_,fun K hK'=>?_⟩
  ·obtain⟨v0,v1,⟨v2,v3,v4⟩,v5⟩:=hKC.out _ Wy hW
   go_simp
   exact hK' Wy hW
  go_simp
  refine hK' _ ?_
  clear hK' K
 refine ordv_turn rfl (by go_simp) (by rfl) (fun W hW b K Q hK'=>?_) (fun u hu K hK'=>?_)
 ·go_simp
  go_at_call 30
  refine(c0.out W hW).mono ?_
  rintro x w' ⟨y,rfl,h1⟩
  exact hK' y w' h1
 obtain⟨b9,rfl⟩: ∃b9,u= .func (.func 57) #[] #[pv b9,pv (b9+1),pv (b9+1+1)]:=by
  obtain⟨W',hW'⟩:=hu
  exact s0.out u W' hW'
 clear hu c0 s0
 go_simp
 refine hK' _ ?_
 clear hK' K
 refine ordv_turn rfl (by go_simp) (by rfl) (fun W hW b K Q hK'=>?_) (fun u hu K hK'=>?_)
 ·go_simp
  go_at_call 77
  refine(c1.out b9 W hW).mono ?_
  rintro x w' ⟨y,rfl,h1⟩
  exact hK' y w' h1
 obtain⟨N,rfl⟩: ∃N,u=pv N:=by
  obtain⟨W',hW'⟩:=hu
  exact s1.out _ u W' hW'
 clear hu c1 s1
 go_simp
 refine hK' _ ?_
 clear hK' K
 refine ordv_nil ?_
 intro W2 hW2
 obtain⟨l0,htw,hN,hmt,t2⟩:=HF.out _ N W2 hW2
 have Htw:Hid (TW N W2 N l0):=htw
 have HN:Hid (W0.heap.size≤N):=hN
 have Hmt:Hid (Mt W2 G l0 (scL s)):=hmt
 have HT2:Hid (Tch (fun _=>False) W0 W2):=t2
 have qr:=range_any N eB eB W2
 clear htw hN hmt t2 hW2 HF hKC HOrd
 simp only[List.drop_succ_cons,List.drop_zero]
 go_wp2_with fail
 refine qr.mono ?_
 clear qr
 rintro x W3 ⟨rfl,hW3⟩
 obtain⟨B,hB⟩: ∃B,B=W2.heap.size:=⟨_,rfl⟩
 have t3:Tch (fun _=>False) W2 W3:=by rw[hW3];exact(Tch.alloc _ _ _).allocR _
 have hbB:W3.heap[B]? =some (.cells #[pv N] 135 (0,0)):=by rw[hW3,hB,al_old _ (by simp only[al_size];omega)];exact alloc_new _ _
 have hbB1:W3.heap[B+1]? =some (.cells #[.string eB,.string eB,.bool false] 157 (0,0)):=by
  rw[hW3,hB]
  have:=alloc_new (W2.alloc (.cells #[pv N] 135)) (.cells #[.string eB,.string eB,.bool false] 157)
  rwa [al_size] at this
 rw[←hB]
 have HB:Hid (W0.heap.size≤B∧B=W2.heap.size∧B+1<W3.heap.size):=⟨by rw[hB];exact HT2.out.size,hB,blk_lt hbB1⟩
 have HT3:Hid (Tch (fun _=>False) W0 W3):=HT2.out.trans' t3
 have hl10:l0.length<10:=by have:=Hmt.out.len;have:=scL_len s;omega
 have hse:=over1_any (n - 1) W3 N W2 N l0 B (B+1) ⟨Htw.out,t3.mono (fun _ _ e=>e.elim)⟩ hl10 hbB hbB1
 have Hm3:Hid (Mt W3 G l0 (scL s)):=Hmt.out.tch t3 (fun _ e=>e.elim)
 have HS2:Hid (WS w l Y yb [] Z W3):=HS0.out.new HT3.out
 have HJ2:Hid (J [] Z W3):=HaJ.out.1 _ _ _ _ HJ0.out (HT3.out.mono (fun _ _ h=>h.elim))
 have HZr:Hid (∀y,Z y→y<W0.heap.size∧ ¬Y y):=HS0.out.zb
 obtain⟨Yk,hYk⟩: ∃Yk:Nat→Prop,Yk=fun k=>(N≤k∧k<W2.heap.size)∨k=B∨k=B+1:=⟨_,rfl⟩
 rw[←hYk] at hse
 have HY2:Hid (∀k,Yk k→k<W3.heap.size∧W0.heap.size≤k):=fun x hx=>by
  have h1:=HB.out
  have h2:=HN.out
  rw[hYk] at hx
  rcases hx with hx|rfl|rfl<;>omega
 have HwW:Hid (w.heap.size≤W0.heap.size):=HS0.out.tw.size
 clear HS0 HJ0 hW3 hB t3 hbB hbB1 hl10 Hmt Htw hYk
 go_wp2_with fail
 refine(wpIn_wide (n:=n)).1 ?_
 refine range_l (T:=T) (Z:=Z) rfl (enters_of Tryz.func104 (by kernel_rfl) rfl) hse (fun _=>rfl) (fun x hx=>⟨by have:=(HT.out x hx).1;have:=HlW.out;have:=HT3.out.size;omega,fun hy=>by have:=(HY2.out x hy).2;have:=(HT.out x hx).1;have:=HlW.out;omega⟩) (fun x hx=>⟨(HS2.out.zb x hx).1,fun hy=>by have:=(HY2.out x hy).2;have:=(HZr.out x hx).1;omega⟩) (fun x hx=>(HY2.out x hx).1)
  (fun pre Z' W'=>WS w l Y yb [] Z' W'∧Mt W' G l0 (scL s)∧J ((scL s).take pre.length) Z' W')
  (fun cc pre Z' W'=>cc= .ret∧WS w l Y yb [] Z' W'∧Jx ((scL s).take pre.length) Z' W')
  ?abI ?abX ⟨HS2.out,Hm3.out,HJ2.out⟩ (fun x=> { tmps:=#[yF l,pv b,pv (b+1+1+1),pv (b+1),pv (b+1+1),pv yb,.string x.1,ev x.2,pv hb,.int .i64 1,pv hb,.agg #[.int .i64 s.mn,.int .i64 s.mx,.slice so ln sc],.int .i64 (wrN s (innS s)),.func (.func 57) #[] #[pv b9,pv (b9+1),pv (b9+1+1)],pv N,.func (.func 104) #[] #[pv B,pv (B+1)],.string x.1,ev x.2,undef,undef,undef,undef,undef,undef],defers:=[] }) ?assign ?body ?done ?stop
 case abI=>
  rintro pre Z' W' W'' ⟨hs,hm,hj⟩ tt
  exact⟨hs.tch tt (fun x hx=>⟨fun hy=>by have:=HS2.out.lt HYw.out (.inl hy);omega,fun e=>by have:=HS2.out.lt HYw.out (.inr (.inl e));omega,fun hd=>by cases hd⟩),hm.tch tt (fun x hx hg=>by have:=HGw.out x hg;have:=HwW.out;have:=HT3.out.size;omega),HaJ.out.1 _ _ _ _ hj (tt.mono (fun x _ hx=>⟨by have:=HlW.out;have:=HT3.out.size;omega,hx.2⟩))⟩
 case abX=>
  rintro cc pre Z' W' W'' ⟨hcc,hs,hj⟩ tt
  exact⟨hcc,hs.tch tt (fun x hx=>⟨fun hy=>by have:=HS2.out.lt HYw.out (.inl hy);omega,fun e=>by have:=HS2.out.lt HYw.out (.inr (.inl e));omega,fun hd=>by cases hd⟩),HaJ.out.2 _ _ _ _ hj (tt.mono (fun x _ hx=>⟨by have:=HlW.out;have:=HT3.out.size;omega,hx.2⟩))⟩
 case assign=>
  intro l' x Wx K hK
  clear HJ2 HS2 hse HY2
  gi_wp2
  exact hK
 case body=>
  rintro l' pre x Z' Wb hpre ⟨hs,hm,hj⟩
  have hyc:Wb.cell? ⟨yb,0,none⟩=some (yF l):=by rw[blk_cell hs.yc];rfl
  obtain⟨suf,hsuf⟩:=hpre
  have hxi:l0[pre.length]? =some x:=by rw[←hsuf,List.append_assoc,List.getElem?_append_right (Nat.le_refl _),Nat.sub_self];rfl
  obtain⟨y,hy⟩: ∃y,(scL s)[pre.length]? =some y:=⟨_,List.getElem?_eq_getElem (by have:=hm.len;have:=(List.getElem?_eq_some_iff.1 hxi).1;omega)⟩
  obtain⟨e1,ro,rc,e2,hrd,_⟩:=hm.at_ _ _ _ hxi hy
  have htk:(scL s).take (pre++[x]).length=(scL s).take pre.length++[y]:=by rw[List.length_append,List.length_singleton,List.take_add_one,hy];rfl
  obtain⟨x1,x2⟩:=x
  have e1:x1=y.1:=e1
  have e2:x2=(ro,1,rc):=e2
  subst e1 e2
  have Hs:Hid (WS w l Y yb [] Z' Wb):=hs
  have Hm:Hid (Mt Wb G l0 (scL s)):=hm
  have Hj:Hid (J ((scL s).take pre.length) Z' Wb):=hj
  have Htk:Hid ((scL s).take (pre++[(y.1,((ro,1,rc):GV))]).length=(scL s).take pre.length++[y]):=htk
  have Hpre:Hid ((scL s).take pre.length++[y]<+:scL s):=by rw[←Htk.out];exact List.take_prefix _ _
  obtain⟨C2,hC2⟩: ∃C2:List Value→World→Prop,C2=S2 Wb y.2:=⟨_,rfl⟩
  have hKC:Hid (∀s1 W,C2 s1 W→W.cell? ⟨yb,0,none⟩=some (yF l)):=fun s1 W1 hW=>by
   rw[hC2] at hW
   have h9:=Hs.out.new hW.t
   rw[blk_cell h9.yc];rfl
  have d0:Hid (∀W,C2 [] W→Calls Tryz.prog 31 #[.slice ro 1 rc] W fun x W'=> ∃y,x= .returned y∧C2 [y] W'):=fun W1 hW=>by
   rw[hC2] at hW ⊢
   refine(rclone_any ro 1 rc (rowC y.2) W1 (hrd.no hW.t)).mono ?_
   rintro x W2 ⟨⟨ro2,rc2,rfl,how⟩,t2⟩
   exact⟨_,rfl,⟨ro2,rc2,rfl,RdR.of_own how (by simp[rowC,Value.oneCell']) (by omega)⟩,hW.t.trans' t2⟩
  have e0:Hid (∀z W,C2 [z] W→ ∃ro rc,z= .slice ro 1 rc):=fun z W1 hW=>by
   rw[hC2] at hW
   obtain⟨⟨ro2,rc2,e,_⟩,_⟩:=hW
   exact⟨ro2,rc2,e⟩
  have HF2:Hid (∀ro rc W,C2 [.slice ro 1 rc] W→RdR W ro 1 rc (rowC y.2)∧Tch (fun _=>False) Wb W):=fun ro2 rc2 W1 hW=>by
   rw[hC2] at hW
   obtain⟨⟨ro3,rc3,e,hr⟩,t9⟩:=hW
   injection e with e1 _ e2
   subst e1 e2
   exact⟨hr,t9⟩
  have h01:Hid (C2 [] Wb.drew):=by rw[hC2];exact(Tch.refl _ _).drew
  clear hC2 hs hm hj htk hsuf hxi hy hrd hyc HJ2 HS2 hse HY2
  gi_wp2_with fail
  refine wpIn_region_ordv [3] C2 4 [0,1,2,3] (by kernel_rfl) (by kernel_rfl) h01.out ?_
  iterate 3
   refine ordv_read rfl (by go_simp) (by rfl) ?_
   apply Exists.intro
   refine⟨fun s' Wy hW b K Q hK'=>?_,fun K hK'=>?_⟩
   ·obtain v0:=hKC.out _ Wy hW
    go_simp
    exact hK' Wy hW
   go_simp
   refine hK' _ ?_
   clear hK' K
  refine ordv_turn rfl (by go_simp) (by rfl) (fun W hW b K Q hK'=>?_) (fun u hu K hK'=>?_)
  ·go_simp
   go_at_call 31
   refine(d0.out W hW).mono ?_
   rintro x w' ⟨y,rfl,h1⟩
   exact hK' y w' h1
  obtain⟨wo,wc,rfl⟩: ∃ro rc,u= .slice ro 1 rc:=by
   obtain⟨W',hW'⟩:=hu
   exact e0.out u W' hW'
  clear hu d0 e0
  go_simp
  refine hK' _ ?_
  clear hK' K
  refine ordv_nil ?_
  intro W5 hW5
  obtain⟨hrd,t5⟩:=HF2.out wo wc W5 hW5
  have hs5:=Hs.out.new t5
  have hyc:W5.cell? ⟨yb,0,none⟩=some (yF l):=by rw[blk_cell hs5.yc];rfl
  have hj5:J ((scL s).take pre.length) Z' W5:=HaJ.out.1 _ _ _ _ Hj.out (t5.mono (fun _ _ e=>e.elim))
  obtain⟨fn,tmps,assign,body,hy,hR⟩:=YieldAt.inRound l' (HY.out (n - 1 - 1 - 1) _ y wo wc Z' W5 Hpre.out hj5 hrd)
  have Hs5:Hid (WS w l Y yb [] Z' W5):=hs5
  have Hm5:Hid (Mt W5 G l0 (scL s)):=Hm.out.tch t5 (fun _ e=>e.elim)
  have HZb:Hid (∀k,Z' k→ ¬Y k):=fun k hk=>(hs5.zb k hk).2
  have HT5:Hid (Tch (fun _=>False) Wb W5):=t5
  clear hKC HF2 h01 hW5 hrd t5 hs5 hj5
  simp only[List.drop_succ_cons,List.drop_zero]
  gi_wp2_with fail
  refine⟨fun h=>(by cases h),hR.mono ?_⟩
  rintro e W6 ⟨Z2,hz2,t6,(⟨rfl,hJ6⟩|⟨rfl,hx6⟩)⟩
  ·have HL:Hid (Lft T Z' Wb W6 (fun Z' W'=>WS w l Y yb [] Z' W'∧Mt W' G l0 (scL s)∧J ((scL s).take (pre++[(y.1,((ro,1,rc):GV))]).length) Z' W')):=⟨Z2,(fun k hk=>(hz2 k hk).imp id (fun e=>⟨Nat.le_trans HT5.out.size e.1,e.2⟩)),(HT5.out.mono (fun _ _ e=>e.elim)).trans' t6,Hs5.out.round HYw.out HT.out hz2 t6,Hm5.out.tch t6 (fun k hk=>HG.out k (hk.elim (fun e=>(HT.out k e).2) (HZb.out k))),by rw[Htk.out];exact hJ6⟩
   clear hR hy hyc hJ6 hz2 t6
   gi_wp2_with fail
   exact HL.out
  ·have HL:Hid (Lft T Z' Wb W6 (fun Z' W'=>WS w l Y yb [] Z' W'∧Jx ((scL s).take (pre++[(y.1,((ro,1,rc):GV))]).length) Z' W')):=⟨Z2,(fun k hk=>(hz2 k hk).imp id (fun e=>⟨Nat.le_trans HT5.out.size e.1,e.2⟩)),(HT5.out.mono (fun _ _ e=>e.elim)).trans' t6,Hs5.out.round HYw.out HT.out hz2 t6,by rw[Htk.out];exact hx6⟩
   clear hR hy hyc hx6 hz2 t6
   gi_wp2_with fail
   obtain⟨Z3,g1,g2,g3,g4⟩:=HL.out
   exact⟨Z3,g1,g2,rfl,g3,g4⟩
 case done=>
  rintro D Z' W' hD hzD ⟨hs,hm,hj⟩ hK
  have HS3:Hid (WS w l Y yb [D] Z' W'):=hs.mark D (by have:=HlW.out;have:=HT3.out.size;omega) hzD hK (by simp)
  have HJ3:Hid (J (scL s) Z' W'):=by
   rw[hm.len,List.take_length] at hj
   exact hj
  clear hs hm hj hK hD hzD HJ2 HS2 hse HY2
  gi_wp2_with fail
  refine leaves_marks [D] _ (fun d hd=>(HS3.out.md d hd).2.2) HS3.out.nod (fun W' tt=>?_)
  refine⟨_,results_none rfl _ _ _,⟨_,rfl⟩,Z',.inl (HaJ.out.1 _ _ _ _ HJ3.out (tt.mono (fun d _ hd=>⟨(HS3.out.md d hd).1,(HS3.out.md d hd).2.1⟩)))⟩
 case stop=>
  rintro D cc pre Z' W' hD hzD hpre ⟨rfl,hs,hx⟩ hK
  have HS3:Hid (WS w l Y yb [D] Z' W'):=hs.mark D (by have:=HlW.out;have:=HT3.out.size;omega) hzD hK (by simp)
  have Hx3:Hid (Jx ((scL s).take pre.length) Z' W'):=hx
  clear hs hx hK hD hzD hpre HJ2 HS2 hse HY2
  gi_wp2_with fail
  refine leaves_marks [D] _ (fun d hd=>(HS3.out.md d hd).2.2) HS3.out.nod (fun W' tt=>?_)
  refine⟨_,results_none rfl _ _ _,⟨_,rfl⟩,Z',.inr ⟨_,List.take_prefix _ _,HaJ.out.2 _ _ _ _ Hx3.out (tt.mono (fun d _ hd=>⟨(HS3.out.md d hd).1,(HS3.out.md d hd).2.1⟩))⟩⟩
def scU (s:Se) (n:Nat):List KN:=(List.range n).filterMap (fun κ=>if seesS s κ=0 then none else some (keyB κ,seesS s κ - 1))
theorem scU_all (s:Se):scU s 6=scL s:=rfl
theorem scU_no (s:Se) {n:Nat} (h:seesS s n=0):scU s (n+1)=scU s n:=by
 unfold scU
 rw[List.range_succ,List.filterMap_append]
 simp[h]
theorem scU_yes (s:Se) {n:Nat} (h:seesS s n≠0):scU s (n+1)=scU s n++[(keyB n,seesS s n - 1)]:=by
 unfold scU
 rw[List.range_succ,List.filterMap_append]
 simp[h]
theorem scU_pre (s:Se) (n:Nat): ∀d,scU s n<+:scU s (n+d)
 |0=>List.prefix_refl _
 |d+1=>by
  refine(scU_pre s n d).trans ?_
  by_cases h:seesS s (n+d)=0
  ·rw[←Nat.add_assoc,scU_no s h];exact List.prefix_refl _
  ·rw[←Nat.add_assoc,scU_yes s h];exact List.prefix_append _ _
theorem scU_next (s:Se) {n:Nat} (hn:n<6) (h:seesS s n≠0) {x:KN} (hx:scU s n++[x]<+:scL s):x=(keyB n,seesS s n - 1):=by
 have h1:=scU_pre s (n+1) (6 - (n+1))
 rw[show n+1+(6 - (n+1))=6 by omega,scU_all,scU_yes s h] at h1
 have:=List.prefix_of_prefix_length_le h1 hx (by simp)
 have e:=this.eq_of_length (by simp)
 have:=(List.append_inj' e rfl).2
 injection this with e
 exact e.symm
theorem scU_full (s:Se) {x:KN} (hx:scU s 6++[x]<+:scL s):False:=by
 have:=hx.length_le
 rw[scU_all,List.length_append,List.length_singleton] at this
 omega
theorem scU_end (s:Se) {n:Nat} (h:scU s n=scL s): ∀κ,n≤κ→κ<6→seesS s κ=0:=fun κ h1 h2=>Classical.byContradiction fun hne=>by
 have e1:=(scU_pre s n (κ - n)).length_le
 have e2:=(scU_pre s (κ+1) (6 - (κ+1))).length_le
 rw[show n+(κ - n)=κ by omega,h] at e1
 rw[show κ+1+(6 - (κ+1))=6 by omega,scU_all,scU_yes s hne] at e2
 simp at e2
 omega
attribute [local go_sem] Oper.semAt_some
set_option maxRecDepth 100000
def T1 (W0:World) (hb:Nat) (mn mx:Int) (ol:List Int) (own:Int) (l:List Value) (W:World):Prop:=match l with
 |[]=>Tch (fun _=>False) W0 W
 |[y]=>(∃b so sc,y= .func (.func 76) #[] #[pv b,pv (b+1+1+1),pv (b+1),pv (b+1+1)]∧W0.heap.size≤b∧SC W hb b mn mx ol so sc own)∧Tch (fun _=>False) W0 W
 |_=>False
theorem T1.t {W0:World} {hb:Nat} {mn mx:Int} {ol:List Int} {own:Int} {l:List Value} {W:World} (h:T1 W0 hb mn mx ol own l W):Tch (fun _=>False) W0 W:=by
 match l,h with
 |[],h=>exact h
 |[_],h=>exact h.2
def G3 (Wd:World) (vs l:List Value) (W:World):Prop:=l=vs.take l.length∧Tch (fun _=>False) Wd W
structure BX (w W:World) (N B:Nat) (sv:Value) (c:Nat):Prop where
 t:Tch (fun _=>False) w W
 s:W.heap[N]? =some (.cells #[sv] 61 (0,0))
 r:W.heap[N+1+1]? =some (.cells #[.bool false] 4 (0,0))
 k:W.heap[B]? =some (.cells #[.int .i64 c] 3 (0,0))
theorem BX.no {w W W':World} {N B:Nat} {sv:Value} {c:Nat} (h:BX w W N B sv c) (t:Tch (fun _=>False) W W'):BX w W' N B sv c:=
 ⟨h.t.trans' t,(t.block _ (blk_lt h.s) (fun e=>e)).trans h.s,(t.block _ (blk_lt h.r) (fun e=>e)).trans h.r,(t.block _ (blk_lt h.k) (fun e=>e)).trans h.k⟩
theorem BX.tch {S:Nat→Prop} {w W W':World} {N B:Nat} {sv:Value} {c:Nat} (h:BX w W N B sv c) (t:Tch S W W') (hS: ∀i,S i→w.heap.size≤i∧i≠N∧i≠N+1+1∧i≠B):BX w W' N B sv c:=
 ⟨h.t.trans t (fun i hi e=>by have:=(hS i e).1;omega),(t.block _ (blk_lt h.s) (fun e=>(hS _ e).2.1 rfl)).trans h.s,(t.block _ (blk_lt h.r) (fun e=>(hS _ e).2.2.1 rfl)).trans h.r,(t.block _ (blk_lt h.k) (fun e=>(hS _ e).2.2.2 rfl)).trans h.k⟩
theorem BX.set {w W:World} {N B:Nat} {sv:Value} {c:Nat} (h:BX w W N B sv c) (h1:w.heap.size≤B) (h2:B≠N) (h3:B≠N+1+1) (d:Nat):BX w (W.setCell ⟨B,0,none⟩ (.int .i64 d)) N B sv d:=
 have t9:Tch (fun i=>i=B) W (W.setCell ⟨B,0,none⟩ (.int .i64 d)):=Tch.setCell _ _ _ _ rfl
 ⟨h.t.trans t9 (fun i hi e=>by omega),(t9.block _ (blk_lt h.s) (fun e=>h2 e.symm)).trans h.s,(t9.block _ (blk_lt h.r) (fun e=>h3 e.symm)).trans h.r,by have:=blk_set (i:=0) h.k (.int .i64 d);exact this⟩
theorem BX.cell {w W:World} {N B:Nat} {sv:Value} {c:Nat} (h:BX w W N B sv c):W.cell? ⟨N,0,none⟩=some sv∧W.cell? ⟨N+1+1,0,none⟩=some (.bool false)∧W.cell? ⟨B,0,none⟩=some (.int .i64 c)∧W.frozen? ⟨N+1+1,0,none⟩=false∧W.frozen? ⟨B,0,none⟩=false:=
 ⟨by rw[blk_cell h.s];rfl,by rw[blk_cell h.r];rfl,by rw[blk_cell h.k];rfl,blk_frozen h.r 0,blk_frozen h.k 0⟩
theorem reads_scan {w0:Go.Proofs.YtppokgdofgigfaaGreat.F.Fr} {w:World} {qb hb mb nq:Nat} {m:Mg} {L:HL} {q:Mo} {A:Nat→Sx} {F:Nat→Prop} {K:Nat→List Vn} (h:LW w0 w qb hb mb nq m L q A F) (hI:Iv m q K) (hK:HK L K) {k:Nat} {s:Se} (hs:q.l[k]? =some s) (ho:s.op=true) {t:Tx} (ht:SesTx m s t) (hpp:s.pp=false) (hq:nq≤2000) (hn:m.nx≤1000000) (hol:s.on.length≤1000000) {who key n:Int} :
  Calls Tryz.prog 24 #[.pointer (some ⟨qb,0,none⟩),.pointer (some ⟨qb,2+k*15,none⟩),actV 10 who key n] w fun x w'=> ∃b,x= .returned (.bool b)∧b=true∧Tch (fun _=>False) w w':=by
 obtain⟨N,hN⟩: ∃N,N=w.heap.size:=⟨_,rfl⟩
 obtain⟨sv,hsv⟩: ∃sv:Value,sv= .pointer (some ⟨qb,2+k*15,none⟩):=⟨_,rfl⟩
 obtain⟨wA,hwA⟩: ∃wA,wA=((w.alloc (.cells #[.pointer (some ⟨qb,2+k*15,none⟩)] 61)).alloc (.cells #[.int .i64 10,.int .i64 who,.int .i64 key,.int .i64 n] 29)).alloc (.cells #[.bool false] 4):=⟨_,rfl⟩
 have bB:wA.heap[N+1+1]? =some (.cells #[.bool false] 4 (0,0)):=by
  rw[hwA,hN];have:=alloc_new ((w.alloc (.cells #[.pointer (some ⟨qb,2+k*15,none⟩)] 61)).alloc (.cells #[.int .i64 10,.int .i64 who,.int .i64 key,.int .i64 n] 29)) (.cells #[.bool false] 4)
  simpa only[al_size] using this
 have bA:wA.heap[N+1]? =some (.cells #[.int .i64 10,.int .i64 who,.int .i64 key,.int .i64 n] 29 (0,0)):=by
  rw[hwA,hN]
  rw[al_old _ (by simp only[al_size];omega)]
  have:=alloc_new (w.alloc (.cells #[.pointer (some ⟨qb,2+k*15,none⟩)] 61)) (.cells #[.int .i64 10,.int .i64 who,.int .i64 key,.int .i64 n] 29)
  simpa only[al_size] using this
 have bS:wA.heap[N]? =some (.cells #[.pointer (some ⟨qb,2+k*15,none⟩)] 61 (0,0)):=by
  rw[hwA,hN]
  rw[al_old _ (by simp only[al_size];omega),al_old _ (by simp only[al_size];omega)]
  exact alloc_new _ _
 have tA:Tch (fun _=>False) w wA:=by rw[hwA];exact((Tch.alloc _ _ _).allocR _).allocR _
 have hA:=h.no tA
 have HA:Hid (∀W,Tch (fun _=>False) wA W→W.cell? ⟨N+1,0,none⟩=some (.int .i64 10)):=fun W tt=>by
  have:=tt.block (N+1) (blk_lt bA) (fun e=>e)
  rw[blk_cell (by rw[this];exact bA)];rfl
 have a0:wA.cell? ⟨N,0,none⟩=some (.pointer (some ⟨qb,2+k*15,none⟩)):=by rw[blk_cell bS];rfl
 have qw:=writer_any wA qb (2+k*15) s (A k) (hA.mor.se k s hs)
 have HBX:Hid (∀W B c,Tch (fun _=>False) wA W→N≤B→W.heap[B]? =some (.cells #[.int .i64 (c:Nat)] 3 (0,0))→BX w W N B sv c):=fun W B c tt _ hb=>
  ⟨tA.trans' tt,by rw[hsv];exact(tt.block _ (blk_lt bS) (fun e=>e)).trans bS,(tt.block _ (blk_lt bB) (fun e=>e)).trans bB,hb⟩
 have hlA:N+1+1<wA.heap.size:=blk_lt bB
 have HLA:Hid (N+1+1<wA.heap.size):=hlA
 have HT:Hid (Tch (fun _=>False) w wA):=tA
 have HWA:Hid (wA=_):=hwA
 have HN:Hid (N=w.heap.size):=hN
 have HSV:Hid (sv= .pointer (some ⟨qb,2+k*15,none⟩)):=hsv
 have HLW:Hid (LW w0 w qb hb mb nq m L q A F):=h
 have HM:Hid (∀W,Tch (fun _=>False) w W→MoR W qb mb hb q A):=fun W tt=>(h.no tt).mor
 have HS0:Hid (q.l[k]? =some s):=hs
 have Hle:Hid (∀κ:Nat,κ<6→seesS s κ≤1000):=fun κ hk6=>by
  rw[←foldS_all];exact foldS_le s κ ((h.bd k s hs).ba κ hk6) (fun v hv=>((h.bd k s hs).wr v hv).2.2.2) _
 have HQ:Hid (∀W,Tch (fun _=>False) w W→ ∀κ:Nat,κ<6→Calls Tryz.prog 42 #[sv,.int .i64 κ] W fun x w'=>x= .returned (.int .i64 (seesS s κ))∧Tch (fun _=>False) W w'):=fun W tt κ hk6=>by
  rw[hsv]
  exact sees_any W qb (2+k*15) s (A k) ((HM.out W tt).se k s hs) κ hk6 ((h.bd k s hs).ba κ hk6)
 have HSeq:Hid (∀W F',LW w0 W qb hb mb nq m L q A F'→ ∀b so sc,SC W hb b s.mn s.mx (onI s) so sc (wrN s (innS s))→ ∀X:Nat→Prop,(∀i,X i→F' i∧ ¬(b≤i∧i≤b+1+1+1))→SeqR 8 Tryz.prog 76 #[pv b,pv (b+1+1+1),pv (b+1),pv (b+1+1)] (fun i=>i<W.heap.size∧ ¬X i) (scL s) W):=fun W F' hW b so sc hbx X hX=>
  scan1_any hW hI hK hs ho ht hpp hq hn hol 8 b so sc hbx X hX
 have HSc:Hid (∀W,Tch (fun _=>False) w W→Calls Tryz.prog 52 #[.pointer (some ⟨hb,0,none⟩),.agg #[.int .i64 s.mn,.int .i64 s.mx,.slice (A k).so s.on.length (A k).sc],.int .i64 (wrN s (innS s)),.int .i64 1] W fun x w'=>x= .returned (.func (.func 76) #[] #[pv W.heap.size,pv (W.heap.size+1+1+1),pv (W.heap.size+1),pv (W.heap.size+1+1)])∧Tch (fun _=>False) W w'∧ ∃so' sc',SC w' hb W.heap.size s.mn s.mx (onI s) so' sc' (wrN s (innS s))):=fun W tt=>
  scan_any W hb s.mn s.mx s.on w0.heap.size (A k).so (A k).sc (wrN s (innS s)) ((h.no tt).se k s hs).on hol
 clear hwA hN bA bB bS tA hA h hI hK hs ho ht hpp hol hlA
 unfold actV
 refine(callsIn_wide (n:=9)).1 ?_
 refine callsIn_of_wp_marks Tryz.func24 rfl trivial ?_ rfl
 simp only[Tryz.ntmps24,List.size_toArray,List.length_cons,List.length_nil,Nat.reduceAdd,Nat.reduceSub,Array.replicate_succ,Array.replicate_zero,List.push_toArray,List.append_toArray,List.nil_append,List.cons_append]
 refine wpIn_wide.2 ?_
 go_upto_region 1 with(fail)
 rw[←HWA.out, ←HN.out]
 go_wp2_with fail
 refine qw.mono ?_
 clear qw a0
 rintro x w3 ⟨rfl,t3⟩
 have a1:=HA.out w3 t3
 have H3:Hid (Tch (fun _=>False) wA w3):=t3
 clear t3 HA
 go_upto_region 7 with(fail)
 obtain⟨B,hB⟩: ∃B,B=w3.heap.size:=⟨_,rfl⟩
 have bK0:(w3.alloc (.cells #[.int .i64 0] 3)).heap[B]? =some (.cells #[.int .i64 ((0:Nat):Int)] 3 (0,0)):=by rw[hB];exact alloc_new _ _
 have hNB:N+1+1<B:=by have:=H3.out.size;have:=HLA.out;omega
 have HNB:Hid (N+1+1<B):=hNB
 have bx0:=HBX.out _ B 0 (H3.out.allocR _) (by omega) bK0
 have c1:=bx0.cell.2.2.1
 have c2:=bx0.cell.2.2.2.2
 rw[hB] at c1 c2
 clear hNB HBX a1 bK0
 go_upto_region 8 with(fail)
 rw[←hB]
 obtain⟨W4,hW4⟩: ∃W4,W4=w3.alloc (.cells #[.int .i64 0] 3):=⟨_,rfl⟩
 rw[←hW4] at bx0 ⊢
 have HX4:Hid (BX w W4 N B sv 0):=bx0
 have HB4:Hid (B<W4.heap.size):=blk_lt bx0.k
 clear c1 c2 hW4 hB H3 HLA HT HWA bx0
 obtain⟨C,hC⟩: ∃C:List Value→World→Prop,C=T1 W4 hb s.mn s.mx (onI s) (wrN s (innS s)):=⟨_,rfl⟩
 have hC1:Hid (∀s1 W,C s1 W→W.cell? ⟨qb,1,none⟩=some (.pointer (some ⟨hb,0,none⟩))∧W.cell? ⟨N,0,none⟩=some (.pointer (some ⟨qb,2+k*15,none⟩))∧W.cell? ⟨qb,2+k*15+3,none⟩=some (.int .i64 s.mn)∧W.cell? ⟨qb,2+k*15+4,none⟩=some (.int .i64 s.mx)∧W.cell? ⟨qb,2+k*15+5,none⟩=some (.slice (A k).so s.on.length (A k).sc)):=fun s1 W hW=>by
  rw[hC] at hW
  have hx:=HX4.out.no hW.t
  have hm:=HM.out W hx.t
  exact⟨hm.ch,by rw[←hsv];exact hx.cell.1,(hm.se k s HS0.out).c 3 _ rfl,(hm.se k s HS0.out).c 4 _ rfl,(hm.se k s HS0.out).c 5 _ rfl⟩
 have c1:Hid (∀W,C [] W→Calls Tryz.prog 52 #[.pointer (some ⟨hb,0,none⟩),.agg #[.int .i64 s.mn,.int .i64 s.mx,.slice (A k).so s.on.length (A k).sc],.int .i64 (wrN s (innS s)),.int .i64 1] W fun x W'=> ∃y,x= .returned y∧C [y] W'):=fun W hW=>by
  rw[hC] at hW ⊢
  refine(HSc.out W (HX4.out.no hW.t).t).mono ?_
  rintro x W' ⟨rfl,tt,so',sc',hsc⟩
  exact⟨_,rfl,⟨W.heap.size,so',sc',rfl,hW.t.size,hsc⟩,hW.t.trans' tt⟩
 have s1:Hid (∀y W,C [y] W→ ∃b,y= .func (.func 76) #[] #[pv b,pv (b+1+1+1),pv (b+1),pv (b+1+1)]):=fun y W hW=>by
  rw[hC] at hW
  obtain⟨⟨b,_,_,e,_⟩,_⟩:=hW
  exact⟨b,e⟩
 have HF:Hid (∀b W,C [.func (.func 76) #[] #[pv b,pv (b+1+1+1),pv (b+1),pv (b+1+1)]] W→W4.heap.size≤b∧(∃so sc,SC W hb b s.mn s.mx (onI s) so sc (wrN s (innS s)))∧Tch (fun _=>False) W4 W):=fun b W hW=>by
  rw[hC] at hW
  obtain⟨⟨b8,so,sc,e,h1,h2⟩,h3⟩:=hW
  have e8:b=b8:=by
   injection e with _ _ e
   have e:=congrArg (fun a:Array Value=>a.getD 0 undef) e
   injection e with e
   injection e with e
   injection e
  subst e8
  exact⟨h1,⟨so,sc,h2⟩,h3⟩
 have h00:Hid (C [] W4.drew):=by rw[hC];exact(Tch.refl _ _).drew
 clear hC HSc
 refine wp_region_ordv [9] C 10 [0,1,2,3,4,5,6,7,8,9] (by kernel_rfl) (by kernel_rfl) h00.out ?_
 clear h00
 iterate 9
  refine ordv_read rfl (by go_simp) (by rfl) ?_
  apply Exists.intro
  refine⟨fun s' W hW b K Q hK'=>?_,fun K hK'=>?_⟩
  ·obtain⟨q0,q1,q2,q3,q4⟩:=hC1.out _ W hW
   go_simp
   exact hK' W hW
  go_simp
  refine hK' _ ?_
  clear hK' K
 refine ordv_turn rfl (by go_simp) (by rfl) (fun W hW b K Q hK'=>?_) (fun u hu K hK'=>?_)
 ·go_simp
  go_at_call 52
  refine(c1.out W hW).mono ?_
  rintro x w' ⟨y,rfl,h1⟩
  exact hK' y w' h1
 obtain⟨b,rfl⟩: ∃b,u= .func (.func 76) #[] #[pv b,pv (b+1+1+1),pv (b+1),pv (b+1+1)]:=by
  obtain⟨W',hW'⟩:=hu
  exact s1.out u W' hW'
 clear hu c1 s1
 go_simp
 refine hK' _ ?_
 clear hK' K
 refine ordv_nil ?_
 intro W5 hW5
 obtain⟨hb5,hsc5,t5⟩:=HF.out b W5 hW5
 clear HF hW5 hC1
 have HX5:Hid (BX w W5 N B sv 0):=HX4.out.no t5
 have Hb5:Hid (W4.heap.size≤b∧W4.heap.size≤W5.heap.size):=⟨hb5,t5.size⟩
 have Hsc5:Hid (∃so sc,SC W5 hb b s.mn s.mx (onI s) so sc (wrN s (innS s))):=hsc5
 clear hb5 hsc5 t5
 simp only[List.drop_succ_cons,List.drop_zero]
 have hnf:(binOp BinOp.eql 106 (.func (.func 76) #[] #[pv b,pv (b+1+1+1),pv (b+1),pv (b+1+1)]) Value.nilFunc).run Tryz.prog W5= .ok (.bool false) W5:=by rfl
 go_upto_region 11 with(fail)
 clear hnf
 go_wp2_with fail
 obtain⟨so,sc,hsc⟩:=Hsc5.out
 obtain⟨X,hX⟩: ∃X:Nat→Prop,X=fun i=>i=B:=⟨_,rfl⟩
 have hseq:=HSeq.out W5 _ (HLW.out.fresh HX5.out.t) b so sc hsc X (fun i hi=>by
  rw[hX] at hi
  subst hi
  have h1:=HN.out
  have h2:=HNB.out
  have h3:=HB4.out
  have h4:=Hb5.out
  exact⟨.inr ⟨by omega,by omega⟩,by omega⟩)
 have HXB:Hid (∀i,X i→i=B):=fun i hi=>by rw[hX] at hi;exact hi
 have HBX:Hid (X B):=by rw[hX];exact rfl
 have Hlt:Hid (B<W5.heap.size):=by have:=HB4.out;have:=Hb5.out;show B<_;omega
 clear hX hsc HSeq
 refine(wpIn_wide (n:=9)).1 ?_
 refine range_r (T:=X) (Z:=fun _=>False) rfl (enters_of Tryz.func76 (by kernel_rfl) rfl) hseq rfl (fun i hi=>⟨by rw[HXB.out i hi];exact Hlt.out,fun hy=>hy.2 hi⟩) (fun i hi=>hi.elim) (fun i hi=>hi.1)
  (fun pre _ W=> ∃c,c≤6∧pre=scU s c∧BX w W N B sv c) (fun _ _ _ _=>False) ?abI ?abX ⟨0,by omega,rfl,HX5.out⟩ (fun x ro rc=> { tmps:=#[.pointer (some ⟨qb,0,none⟩),.pointer (some ⟨qb,2+k*15,none⟩),.agg #[.int .i64 10,.int .i64 who,.int .i64 key,.int .i64 n],undef,pv N,pv (N+1),pv (N+1+1),.int .i64 (wrN s (innS s)),.int .i64 (innS s),undef,undef,undef,undef,pv B,.func (.func 76) #[] #[pv b,pv (b+1+1+1),pv (b+1),pv (b+1+1)],.string x.1,.slice ro 1 rc,.tuple #[.int .i64 (wrN s (innS s)),.int .i64 (innS s)],.pointer (some ⟨qb,2+k*15,none⟩),.tuple #[.int .i64 (wrN s (innS s)),.int .i64 (innS s)],.int .i64 (wrN s (innS s)),.int .i64 (innS s),pv (N+1),.int .i64 10,.bool false,undef,undef,undef,undef,undef,undef,undef,undef,undef,undef,undef,undef,undef,undef,undef,undef,undef,undef,undef,undef,undef,undef,undef,undef,undef,undef,undef,undef,undef,undef,undef,undef,undef,undef,pv qb,pv qb,.pointer (some ⟨qb,1,none⟩),pv hb,.pointer (some ⟨qb,2+k*15,none⟩),.pointer (some ⟨qb,2+k*15,none⟩),.pointer (some ⟨qb,2+k*15+3,none⟩),.agg #[.int .i64 s.mn,.int .i64 s.mx,.slice (A k).so s.on.length (A k).sc],.int .i64 (wrN s (innS s)),.func (.func 76) #[] #[pv b,pv (b+1+1+1),pv (b+1),pv (b+1+1)],.func (.func 76) #[] #[pv b,pv (b+1+1+1),pv (b+1),pv (b+1+1)],.bool false,.func (.func 76) #[] #[pv b,pv (b+1+1+1),pv (b+1),pv (b+1+1)],.string x.1,.slice ro 1 rc,undef,undef,undef,undef,undef,undef,undef,undef,undef,undef,undef,undef,undef,undef,undef,undef,undef,undef,undef,undef,undef,undef,undef,undef,undef,undef,undef,undef,undef,undef,undef,undef,undef,undef,undef,undef],defers:=[] }) ?assign ?body ?done ?stop
 case abI=>
  rintro pre Z' W' W'' ⟨c,h1,h2,h3⟩ tt
  refine⟨c,h1,h2,h3.tch tt (fun i hi=>?_)⟩
  have e1:=HX5.out.t.size
  have e2:=HNB.out
  have e3:=Hlt.out
  have e4:=hi.1
  exact⟨by omega,by omega,by omega,by omega⟩
 case abX=>
  rintro cc pre Z' W' W'' hx tt
  exact hx.elim
 case assign=>
  intro l' x ro rc Wx K hK
  clear hseq
  gi_wp2
  exact hK
 case stop=>
  rintro D cc pre Z' W' hD hzD hpre hx
  exact hx.elim
 case body=>
  rintro l' pre x ro rc Z' Wb hpre ⟨c0,hc0,hp0,hb0⟩ hrd
  clear hseq
  have Hpre:Hid (pre++[x]<+:scL s):=hpre
  have Hrd:Hid (RdR Wb ro 1 rc (rowC x.2)):=hrd
  have Hp0:Hid (pre=scU s c0):=hp0
  have Hb0:Hid (BX w Wb N B sv c0):=hb0
  have HrB:Hid (∀a,ro=some a→a.block≠B):=fun a ha e=>by
   rcases hrd.at' with⟨e3,_⟩|⟨g,off,e3,hg,hc⟩
   ·rw[e3] at ha;cases ha
   ·rw[e3] at ha
    injection ha with ha
    have h1:=hc 1 _ rfl
    rw[←ha] at e
    simp only at e
    subst e
    rw[blk_cell hb0.k] at h1
    simp at h1
  clear hpre hrd hp0 hb0
  gi_wp2_with fail
  gi_loopw [74,75,76,77,78,79,80,81,82,83] (fun i0 i1 i2 i3 i4 i5 i6 i7 i8 i9 wr=> ∃c,c≤6∧pre=scU s c∧BX w wr N B sv c∧Tch (fun i=>i=B) Wb wr)
   (fun i0 i1 i2 i3 i4 i5 i6 i7 i8 i9 wr=>(6 - intOf ((wr.cell? ⟨B,0,none⟩).getD undef)).toNat)
  case atStart=>exact⟨c0,hc0,Hp0.out,Hb0.out,Tch.refl _ _⟩
  case round=>
   obtain⟨c,hc,hpc,hbc,htc⟩:=hrel
   have hc6:c<6:=by
    rcases Nat.lt_or_ge c 6 with h|h
    ·exact h
    ·obtain rfl:c=6:=by omega
     exact(scU_full s (hpc▸Hpre.out)).elim
   have HPc:Hid (pre=scU s c):=hpc
   have Hbc:Hid (BX w wr N B sv c):=hbc
   have Htc:Hid (Tch (fun i=>i=B) Wb wr):=htc
   have HM0:Hid ((6 - intOf ((wr.cell? ⟨B,0,none⟩).getD undef)).toNat=6 - c):=by
    rw[hbc.cell.2.2.1];show(6 - (c:Int)).toNat=_;omega
   have qs:=HQ.out wr hbc.t c hc6
   obtain⟨x0,x1,x2,x3,x4⟩:=hbc.cell
   clear hpc hbc htc hc
   rw[hsv] at qs
   gi_wp2_with fail
   refine⟨trivial,(CallsIn.inRound l' (callsIn_wide.2 qs)).mono ?_⟩
   clear qs x0 x1 x2 x3 x4
   rintro y w6 ⟨rfl,t6⟩
   have hb6:=Hbc.out.no t6
   have Hb6:Hid (BX w w6 N B sv c):=hb6
   have H6:Hid (Tch (fun i=>i=B) Wb w6):=Htc.out.trans' (t6.mono (fun _ _ e=>e.elim))
   obtain⟨x0,x1,x2,x3,x4⟩:=hb6.cell
   clear t6 hb6
   rcases Nat.eq_zero_or_pos (seesS s c) with hz|hz
   ·rw[hz]
    gi_wp2_with fail
    go_roundw
    case rel=>exact⟨c+1,hc6,by rw[scU_no s hz];exact HPc.out,Hb6.out.set (by have:=HN.out;have:=HNB.out;omega) (by have:=HNB.out;omega) (by have:=HNB.out;omega) (c+1),H6.out.trans' (Tch.setCell _ _ _ _ rfl)⟩
    case measure=>
     rw[HM0.out,show(c:Int)+1=((c+1:Nat):Int) by omega,(Hb6.out.set (by have:=HN.out;have:=HNB.out;omega) (by have:=HNB.out;omega) (by have:=HNB.out;omega) (c+1)).cell.2.2.1]
     show(6 - ((c+1:Nat):Int)).toNat<_
     omega
   ·have hxe:Hid (x=(keyB c,seesS s c - 1)):=scU_next s hc6 (by omega) (by rw[←HPc.out];exact Hpre.out)
    have hzi:((seesS s c:Int)==0)=false:=by rw[beq_eq_false_iff_ne];omega
    have hzj: ¬((seesS s c:Int)=0):=by omega
    have Hz:Hid (0<seesS s c):=hz
    clear x0 x1 x2 x3 x4 hz
    gi_wp2_with fail
    have Hri:Hid (Tch (fun i=>i=B) Wb w6):=H6.out
    have Hr6:Hid (RdR w6 ro 1 rc (rowC x.2)):=Hrd.out.tch H6.out (fun a ha e=>HrB.out a ha e)
    have Hx1:Hid (x.1=keyB c):=by rw[hxe.out];exact rfl
    have Hx2:Hid (x.2+1=seesS s c):=by rw[hxe.out];show seesS s c - 1+1=_;have:=Hz.out;omega
    obtain⟨v,hv⟩: ∃v,v=seesS s c:=⟨_,rfl⟩
    have Hv:Hid (v=seesS s c):=hv
    obtain⟨kk,hkk⟩: ∃kk,kk=keyB c:=⟨_,rfl⟩
    have Hkk:Hid (kk=keyB c):=hkk
    obtain⟨C,hC⟩: ∃C:List Value→World→Prop,C=G3 w6 [.string kk,.int .i64 v,.int .i64 v]:=⟨_,rfl⟩
    have hC1:Hid (∀s1 W,C s1 W→W.cell? ⟨B,0,none⟩=some (.int .i64 c)∧W.cell? ⟨N,0,none⟩=some (.pointer (some ⟨qb,2+k*15,none⟩))):=fun s1 W hW=>by
     rw[hC] at hW
     have hx:=Hb6.out.no hW.2
     exact⟨hx.cell.2.2.1,by rw[←hsv];exact hx.cell.1⟩
    have d0:Hid (∀W,C [] W→Calls Tryz.prog 11 #[.int .i64 c] W fun x W'=> ∃y,x= .returned y∧C [y] W'):=fun W hW=>by
     rw[hC] at hW ⊢
     refine(keyOf_any c hc6 W).mono ?_
     rintro x W' ⟨rfl,tt⟩
     exact⟨_,rfl,by rw[←Hkk.out];rfl,hW.2.trans' tt⟩
    have e0:Hid (∀y W,C [y] W→y= .string kk):=fun y W hW=>by
     rw[hC] at hW
     have:=hW.1
     injection this
    have d1:Hid (∀W,C [.string kk] W→Calls Tryz.prog 12 #[.slice ro 1 rc,.int .i64 0] W fun x W'=> ∃y,x= .returned y∧C [.string kk,y] W'):=fun W hW=>by
     rw[hC] at hW ⊢
     refine(number_any ro rc x.2 W (by have:=Hx2.out;have:=Hle.out c hc6;omega) (Hr6.out.no hW.2)).mono ?_
     rintro y W' ⟨rfl,rfl⟩
     exact⟨_,rfl,by rw[Hx2.out, ←Hv.out];rfl,hW.2⟩
    have e1:Hid (∀y W,C [.string kk,y] W→y= .int .i64 v):=fun y W hW=>by
     rw[hC] at hW
     have:=hW.1
     injection this with _ this
     injection this
    have d2:Hid (∀W,C [.string kk,.int .i64 v] W→Calls Tryz.prog 42 #[.pointer (some ⟨qb,2+k*15,none⟩),.int .i64 c] W fun x W'=> ∃y,x= .returned y∧C [.string kk,.int .i64 v,y] W'):=fun W hW=>by
     rw[hC] at hW ⊢
     have q2:=HQ.out W (Hb6.out.no hW.2).t c hc6
     rw[hsv] at q2
     refine q2.mono ?_
     rintro y W' ⟨rfl,tt⟩
     exact⟨_,rfl,by rw[←Hv.out];rfl,hW.2.trans' tt⟩
    have e2:Hid (∀y W,C [.string kk,.int .i64 v,y] W→y= .int .i64 v):=fun y W hW=>by
     rw[hC] at hW
     have:=hW.1
     injection this with _ this
     injection this with _ this
     injection this
    have HF:Hid (∀l1 W,C l1 W→Tch (fun _=>False) w6 W):=fun l1 W hW=>by
     rw[hC] at hW;exact hW.2
    have h00:Hid (C [] w6.drew):=by rw[hC];exact⟨rfl,(Tch.refl _ _).drew⟩
    have hk1:x.1=kk:=by rw[Hx1.out,Hkk.out]
    have hc6i:((c:Int)==6)=false:=by rw[beq_eq_false_iff_ne];omega
    have hvn:((v:Int) !=v)=false:=by simp
    clear hC hv hkk hzi hzj
    refine wpIn_region_ordv [5,10,13] C 15 [0,1,2,3,4,5,6,7,8,9,11,12,10,13,14] (by kernel_rfl) (by kernel_rfl) h00.out ?_
    clear h00
    rw[hk1]
    iterate 5
     refine ordv_read rfl (by go_simp) (by rfl) ?_
     apply Exists.intro
     refine⟨fun s' W hW b K Q hK'=>?_,fun K hK'=>?_⟩
     ·obtain⟨q0,q1⟩:=hC1.out _ W hW
      go_simp
      exact hK' W hW
     go_simp
     refine hK' _ ?_
     clear hK' K
    refine ordv_turn rfl (by go_simp) (by rfl) (fun W hW b K Q hK'=>?_) (fun u hu K hK'=>?_)
    ·go_simp
     go_at_call 11
     refine(d0.out W hW).mono ?_
     rintro x w' ⟨y,rfl,h1⟩
     exact hK' y w' h1
    obtain rfl:u= .string kk:=by
     obtain⟨W',hW'⟩:=hu
     exact e0.out u W' hW'
    clear hu d0 e0
    iterate 6
     go_simp
     refine hK' _ ?_
     clear hK' K
     refine ordv_read rfl (by go_simp) (by rfl) ?_
     apply Exists.intro
     refine⟨fun s' W hW b K Q hK'=>?_,fun K hK'=>?_⟩
     ·obtain⟨q0,q1⟩:=hC1.out _ W hW
      go_simp
      exact hK' W hW
    go_simp
    refine hK' _ ?_
    clear hK' K
    refine ordv_turn rfl (by go_simp) (by rfl) (fun W hW b K Q hK'=>?_) (fun u hu K hK'=>?_)
    ·go_simp
     go_at_call 12
     refine(d1.out W hW).mono ?_
     rintro x w' ⟨y,rfl,h1⟩
     exact hK' y w' h1
    obtain rfl:u= .int .i64 v:=by
     obtain⟨W',hW'⟩:=hu
     exact e1.out u W' hW'
    clear hu d1 e1
    go_simp
    refine hK' _ ?_
    clear hK' K
    refine ordv_turn rfl (by go_simp) (by rfl) (fun W hW b K Q hK'=>?_) (fun u hu K hK'=>?_)
    ·go_simp
     go_at_call 42
     refine(d2.out W hW).mono ?_
     rintro x w' ⟨y,rfl,h1⟩
     exact hK' y w' h1
    obtain rfl:u= .int .i64 v:=by
     obtain⟨W',hW'⟩:=hu
     exact e2.out u W' hW'
    clear hu d2 e2
    go_simp
    refine hK' _ ?_
    clear hK' K
    refine ordv_read rfl (by go_simp) (by rfl) ?_
    apply Exists.intro
    refine⟨fun s' W hW b K Q hK'=>?_,fun K hK'=>?_⟩
    ·obtain⟨q0,q1⟩:=hC1.out _ W hW
     go_simp
     exact hK' W hW
    go_simp
    refine hK' _ ?_
    clear hK' K
    refine ordv_nil ?_
    intro w7 hw7
    have t7:=HF.out _ w7 hw7
    clear HF hw7 hC1
    have Hb7:Hid (BX w w7 N B sv c):=Hb6.out.no t7
    have H7:Hid (Tch (fun i=>i=B) Wb w7):=H6.out.trans' (t7.mono (fun _ _ e=>e.elim))
    obtain⟨x0,x1,x2,x3,x4⟩:=Hb7.out.cell
    clear t7
    simp only[List.drop_succ_cons,List.drop_zero]
    gi_wp2_with fail
    refine⟨Z',fun i hi=>.inl hi,(H7.out.trans' (Tch.setCell (fun i=>i=B) w7 ⟨B,0,none⟩ _ rfl)).mono (fun i _ hi=>.inl (by rw[hi];exact HBX.out)),c+1,hc6,?_,?_⟩
    ·rw[scU_yes s (by have:=Hz.out;omega), ←HPc.out,hxe.out]
    ·have:=Hb7.out.set (by have:=HN.out;have:=HNB.out;omega) (by have:=HNB.out;omega) (by have:=HNB.out;omega) (c+1)
     rwa [show((c+1:Nat):Int)=(c:Int)+1 by omega] at this
 case done=>
  rintro D Z' W' hD hzD ⟨c0,hc0,hp0,hb0⟩ hKd
  clear hseq
  have HE:Hid (∀κ,c0≤κ→κ<6→seesS s κ=0):=scU_end s hp0.symm
  have HD:Hid (W5.heap.size≤D):=hD
  have Hb0:Hid (BX w W' N B sv c0):=hb0
  have Hkd:Hid (W'.heap[D]? =some (.deferred (some []))):=hKd
  clear hb0 hp0 hKd hD
  go_wp2_with fail
  go_loopw [102,103,104,105,106,107,108,109] (fun i0 i1 i2 i3 i4 i5 i6 i7 wr=> ∃c,c0≤c∧c≤6∧BX w wr N B sv c∧wr.heap[D]? =some (.deferred (some [])))
   (fun i0 i1 i2 i3 i4 i5 i6 i7 wr=>(6 - intOf ((wr.cell? ⟨B,0,none⟩).getD undef)).toNat)
  case atStart=>exact⟨c0,Nat.le_refl _,hc0,Hb0.out,Hkd.out⟩
  case round=>
   obtain⟨c,hcc,hc,hbc,hdm⟩:=hrel
   have Hbc:Hid (BX w wr N B sv c):=hbc
   have Hdm:Hid (wr.heap[D]? =some (.deferred (some []))):=hdm
   have HM0:Hid ((6 - intOf ((wr.cell? ⟨B,0,none⟩).getD undef)).toNat=6 - c):=by
    rw[hbc.cell.2.2.1];show(6 - (c:Int)).toNat=_;omega
   obtain⟨x0,x1,x2,x3,x4⟩:=hbc.cell
   rcases Nat.lt_or_ge c 6 with h6|h6
   ·have qs:=HQ.out wr hbc.t c h6
    have hz:seesS s c=0:=HE.out c hcc h6
    rw[hz] at qs
    clear hbc hdm hc
    rw[hsv] at qs
    go_wp2_with fail
    refine qs.mono ?_
    clear qs x0 x1 x2 x3 x4
    rintro y w6 ⟨rfl,t6⟩
    have hb6:=Hbc.out.no t6
    have Hb6:Hid (BX w w6 N B sv c):=hb6
    have Hd6:Hid (w6.heap[D]? =some (.deferred (some []))):=(t6.block _ (blk_lt Hdm.out) (fun e=>e)).trans Hdm.out
    obtain⟨x0,x1,x2,x3,x4⟩:=hb6.cell
    clear t6 hb6
    go_wp2_with fail
    go_roundw
    case rel=>exact⟨c+1,by omega,h6,Hb6.out.set (by have:=HN.out;have:=HNB.out;omega) (by have:=HNB.out;omega) (by have:=HNB.out;omega) (c+1),(Below.heap_setCell _ _ _ _ (by show D≠B;have:=HD.out;have:=Hlt.out;omega)).trans Hd6.out⟩
    case measure=>
     rw[HM0.out,show(c:Int)+1=((c+1:Nat):Int) by omega,(Hb6.out.set (by have:=HN.out;have:=HNB.out;omega) (by have:=HNB.out;omega) (by have:=HNB.out;omega) (c+1)).cell.2.2.1]
     show(6 - ((c+1:Nat):Int)).toNat<_
     omega
   ·obtain rfl:c=6:=by omega
    clear hbc hdm hc h6
    go_wp2_with fail
    have hc9:(wr.setCell ⟨N+1+1,0,none⟩ (.bool true)).cell? ⟨N+1+1,0,none⟩=some (.bool true):=World.cell?_setCell_same' _ _ _ (by rw[Hbc.out.cell.2.1];rfl)
    have hd9:(wr.setCell ⟨N+1+1,0,none⟩ (.bool true)).heap[D]? =some (.deferred (some [])):=(Below.heap_setCell _ _ _ _ (by show D≠N+1+1;have:=HD.out;have:=Hlt.out;have:=HNB.out;omega)).trans Hdm.out
    refine leaves_marks [D] _ (fun d hd=>by rw[List.mem_singleton.1 hd];exact hd9) (by simp) (fun W' tt=>?_)
    refine⟨.bool true,results_cell1 rfl _ _ (N+1+1) _ rfl ((tt.cell (p:=⟨N+1+1,0,none⟩) (cell_lt hc9) (fun hm=>by have h':N+1+1=D:=List.mem_singleton.1 hm;have:=HD.out;have:=Hlt.out;have:=HNB.out;omega)).trans hc9) (by go_simp),true,rfl,rfl,?_⟩
    refine(Hbc.out.t.trans (Tch.setCell (fun i=>i=N+1+1) wr ⟨N+1+1,0,none⟩ (.bool true) rfl) (fun i hi e=>by have:=HN.out;omega)).trans tt (fun i hi hm=>?_)
    have h':i=D:=List.mem_singleton.1 hm
    have:=HD.out
    have:=Hlt.out
    have:=HNB.out
    have:=HN.out
    omega
end Go.Proofs.YtppokgdofgigfaaGreat.R
