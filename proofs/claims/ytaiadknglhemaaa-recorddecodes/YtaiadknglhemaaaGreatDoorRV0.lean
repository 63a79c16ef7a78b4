import Derived.Test.YtaiadknglhemaaaGreatDoorRW4
set_option maxHeartbeats 4000000
set_option maxRecDepth 100000
namespace Go.Proofs.YtaiadknglhemaaaGreatDoor.C
open Go.RowKit Go
theorem TO.snoc {W w1:World} {base M:Nat} {tv tv':Value} {P:List (Tbl×Value)} (h:TO W base tv P) {t:Tbl} {v:Value} (hv:W.ownsRow M 43 3 v t.cols.length (ccl t.cols)) (hM:base≤M) (hlt: ∀g,BL tv P g→g<M)
  (hgr:W.grownBy w1 tv.ownBlock) (hown:w1.ownsRow base 29 5 tv' (P.length+1) (tcl (P++[(t,v)]))) (hat:tv'.ownBlock=tv.ownBlock∨tv'.ownBlock=some W.heap.size):TO w1 base tv' (P++[(t,v)]):=by
 have T:=grown_at (Tch.refl (fun _=>False) W) hgr
 have hvl: ∀g,v.ownBlock=some g→M≤g∧g<W.heap.size:=fun g e=>hv.lt g e
 have hcl: ∀i (hi:i<P.length) g,P[i].2.ownBlock=some g→g<W.heap.size:=fun i hi g e=>((h.col i hi).lt g e).2
 have hv1:w1.ownsRow base 43 3 v t.cols.length (ccl t.cols):=own_low (own_tch hv T (fun g e e2=>by have:=hlt g (Or.inl e2);have:=(hvl g e).1;omega)) hM
 have hget: ∀i (hi:i<(P++[(t,v)]).length),(∃hj:i<P.length,(P++[(t,v)])[i]=P[i])∨(i=P.length∧(P++[(t,v)])[i]=(t,v)):=fun i hi=>by
  by_cases hj:i<P.length
  ·exact Or.inl ⟨hj,List.getElem_append_left hj⟩
  ·have:i=P.length:=by simp at hi;omega
   subst this
   exact Or.inr ⟨rfl,by simp⟩
 refine⟨by rw[List.length_append];exact hown,fun i hi=>?_,fun i hi g e e2=>?_,fun i j hi hj g hij e e2=>?_⟩
 ·rcases hget i hi with⟨hj,e⟩|⟨_,e⟩
  ·rw[e];exact own_tch (h.col i hj) T (fun g e e2=>h.sep i hj g e e2)
  ·rw[e];exact hv1
 ·rcases hat with ha|ha
  ·rw[ha] at e2
   rcases hget i hi with⟨hj,e3⟩|⟨_,e3⟩
   ·rw[e3] at e;exact h.sep i hj g e e2
   ·rw[e3] at e;have:=hlt g (Or.inl e2);have:=(hvl g e).1;omega
  ·rw[ha] at e2
   injection e2 with e2
   rcases hget i hi with⟨hj,e3⟩|⟨_,e3⟩
   ·rw[e3] at e;have:=hcl i hj g e;omega
   ·rw[e3] at e;have:=(hvl g e).2;omega
 ·rcases hget i hi with⟨hi',e3⟩|⟨hi',e3⟩
  ·rcases hget j hj with⟨hj',e4⟩|⟨hj',e4⟩
   ·rw[e3] at e;rw[e4] at e2;exact h.dis i j hi' hj' g hij e e2
   ·rw[e3] at e;rw[e4] at e2;have:=hlt g (Or.inr ⟨i,hi',e⟩);have:=(hvl g e2).1;omega
  ·rcases hget j hj with⟨hj',e4⟩|⟨hj',e4⟩
   ·rw[e3] at e;rw[e4] at e2;have:=hlt g (Or.inr ⟨j,hj',e2⟩);have:=(hvl g e).1;omega
   ·omega
theorem tkTabs_succ (S:ByteArray) (n:Nat) (p:Nat×Int) (l:List Tbl):tkTabs S (n+1) p l=tkTabs S n (tkTab S p).2 (l++[(tkTab S p).1]):=rfl
theorem takeTables_any (b:Nat) (S:ByteArray) (a:Nat) (e:Int) (w:World) (h:RD w b S a e) (hS:S.size≤281474976710656):
  Calls Tryz.prog 239 #[.pointer (some ⟨b,0,none⟩)] w fun x w'=>ListOut (tkTabs S (byteR S a e).1 (byteR S a e).2 []).1 w.heap.size x w'∧RD w' b S (tkTabs S (byteR S a e).1 (byteR S a e).2 []).2.1 (tkTabs S (byteR S a e).1 (byteR S a e).2 []).2.2∧Tch (fun i=>i=b) w w':=by
 obtain⟨i0,hi0,hz0,hz1,hz2⟩:=info_parts info_tbl
 have hb:=cell_lt h.st.c0
 have q1:=rbyte_any b S a e w h hS
 have hn:=byteR_lt S a e
 obtain⟨A,hA⟩: ∃A,A=byteR S a e:=⟨_,rfl⟩
 rw[←hA] at q1 hn ⊢
 obtain⟨A5,hA5⟩: ∃A5,A5=tkTabs S A.1 A.2 []:=⟨_,rfl⟩
 rw[←hA5]
 obtain⟨n,hnn⟩: ∃n,n=A.1:=⟨_,rfl⟩
 have HA5:Hid (A5=tkTabs S A.1 A.2 []∧n=A.1):=⟨hA5,hnn⟩
 rw[←hnn] at q1 hn
 clear hA hA5 h hnn
 go_enter Tryz.func239,Tryz.ntmps239
 go_wp2_with fail
 refine q1.mono ?_
 rintro x w1 ⟨rfl,h1,t1⟩
 clear q1
 have hz1':=t1.size
 go_wp2_with fail
 go_loopw [3,6] (fun v iv wr=> ∃(k:Nat) (p:Nat×Int) (Q:List (Tbl×Value)),iv= .int .i64 k∧k≤n∧Hid (A5=tkTabs S (n - k) p (Q.map Prod.fst)∧Q.length=k)∧RD wr b S p.1 p.2∧Hid (TO wr w.heap.size v Q)∧Hid (Tch (fun i=>i=b∨w.heap.size≤i) w wr)) (fun _ iv _=>n - (intOf iv).toNat)
 case atStart=>exact⟨0,A.2,[],rfl,by omega,⟨by rw[HA5.out.1, ←HA5.out.2];rfl,rfl⟩,h1,⟨World.ownsRow_nil _ _ _ _,fun i hi=>by simp at hi,fun i hi=>by simp at hi,fun i j hi=>by simp at hi⟩,t1.mono (fun _ _ h=>Or.inl h)⟩
 case round=>
  obtain⟨k,p,Q,rfl,hk,HQ,hR,HTO,HTw⟩:=hrel
  clear h1 t1
  obtain⟨wV,hwV⟩: ∃wV,wV=wr:=⟨_,rfl⟩
  subst hwV
  obtain⟨ho,hc,hv⟩:=row_slice HTO.out.own
  subst hv
  by_cases hlt:(k:Int)<n
  ·have q:=takeTable_any b S p.1 p.2 wV hR hS
   obtain⟨T,hT⟩: ∃T,T=(tkTab S p).1:=⟨_,rfl⟩
   obtain⟨p',hp'⟩: ∃p',p'=(tkTab S p).2:=⟨_,rfl⟩
   rw[show(p.1,p.2)=p from rfl, ←hT, ←hp'] at q
   have HQ1:Hid (A5=tkTabs S (n - (k+1)) p' (Q.map Prod.fst++[T])):=by
    show _=_
    rw[HQ.out.1,show n - k=n - (k+1)+1 by omega,tkTabs_succ,hT,hp']
   have hbV:=cell_lt hR.st.c0
   clear hT hp' hR
   go_wp2_with fail
   refine q.mono ?_
   rintro x w1 ⟨⟨v,rfl,hv⟩,hR1,t1⟩
   clear q
   obtain⟨vo,vc,hvv⟩:=row_slice hv
   subst hvv
   obtain⟨wa,hwa⟩: ∃wa,wa=w1.alloc (.cells #[.int .i64 T.id,.int .i64 T.ver,.string T.nm,.slice vo T.cols.length vc,.int .i64 T.key] 29):=⟨_,rfl⟩
   have ta:Tch (fun i=>i=b) wV wa:=by rw[hwa];exact t1.allocR _
   have HTa:Hid (TO wa w.heap.size (.slice ho Q.length hc) Q):=HTO.out.tch ta (fun i hi _ h=>by omega)
   have HVa:Hid (wa.ownsRow wV.heap.size 43 3 (.slice vo T.cols.length vc) T.cols.length (ccl T.cols)):=by rw[hwa];exact own_tch hv (Tch.alloc (fun _=>False) _ _) (fun _ _ h=>h)
   have hRa:RD wa b S p'.1 p'.2:=by rw[hwa];exact RD.no hR1 (Tch.alloc _ _ _)
   have HBL:Hid (∀g,BL (.slice ho Q.length hc) Q g→g<wV.heap.size):=fun g hg=>by
    rcases hg with e|⟨i,hi,e⟩
    ·exact(HTO.out.own.lt g e).2
    ·exact((HTO.out.col i hi).lt g e).2
   have HNW:Hid (∀j u,([.int .i64 T.id,.int .i64 T.ver,.string T.nm,.slice vo T.cols.length vc,.int .i64 T.key]:List Value)[j]? =some u→wa.cell? ((⟨w1.heap.size,0,none⟩:Addr).add j)=some u):=by rw[hwa];exact World.news_of_block (alloc_new w1 _)
   have hQl:Q.length≤255:=by have:=HQ.out.2;omega
   have Hsz:Hid (w.heap.size≤wa.heap.size):=Nat.le_trans HTw.out.size ta.size
   have Hsw:Hid (w.heap.size≤wV.heap.size):=HTw.out.size
   have Hta:Hid (Tch (fun i=>i=b∨w.heap.size≤i) w wa):=HTw.out.trans' (ta.mono (fun _ _ h=>Or.inl h))
   have Hwa:Hid _:=hwa
   clear hwa ta hv t1 hR1
   go_wp2_with (at_builtin;have hwa:=Hwa.out;rw[←hwa];clear hwa;refine wpList_append_keeps _ rfl _ _ 35 rfl w.heap.size 29 i0 (.agg #[.int .i64 0,.int .i64 0,.string ⟨#[]⟩,.slice none 0 0,.int .i64 0]) 5 64 Tryz.underlying35 hi0 hz0 hz1 hz2 rfl (by decide) (.slice ho Q.length hc) Q.length (tcl Q) rfl HTa.out.own ⟨w1.heap.size,0,none⟩ 1 1 [.int .i64 T.id,.int .i64 T.ver,.string T.nm,.slice vo T.cols.length vc,.int .i64 T.key] rfl rfl HNW.out (by simp[Value.oneCell']) (by unfold maxLen;omega) (by omega) Hsz.out ?_;intro v6 w6 hown6 hgr6 hat6 _)
   have HT6:Hid (TO w6 w.heap.size v6 (Q++[(T,.slice vo T.cols.length vc)])):=HTa.out.snoc HVa.out Hsw.out HBL.out hgr6 (by rw[tcl_append];exact hown6) hat6
   have hg6:=grown_at (Tch.refl (fun _=>False) wa) hgr6
   have HTw6:Hid (Tch (fun i=>i=b∨w.heap.size≤i) w w6):=Hta.out.trans hg6 (fun i _ h=>Or.inr (HTa.out.own.lt i h).1)
   have hR6:RD w6 b S p'.1 p'.2:=Go.Proofs.YtaiadknglhemaaaGreatDoor.RD.tch hRa hg6 (fun h=>by have:=(HTa.out.own.lt b h).1;omega)
   have HQ6:Hid (A5=tkTabs S (n - (k+1)) p' ((Q++[(T,(.slice vo T.cols.length vc:Value))]).map Prod.fst)∧(Q++[(T,(.slice vo T.cols.length vc:Value))]).length=k+1):=by
    refine⟨?_,by simp[HQ.out.2]⟩
    rw[List.map_append];exact HQ1.out
   obtain⟨oo6,oc6,hov6⟩:=row_slice hown6
   subst hov6
   clear hown6 hgr6 hat6 hg6 hRa
   go_wp2_with fail
   go_roundw
   case rel=>exact⟨k+1,p',_,by go_num,by omega,HQ6,hR6,HT6,HTw6⟩
   case measure=>simp[intOf];omega
  ·have hke:k=n:=by omega
   have HX2:Hid (A5=(Q.map Prod.fst,p)):=by
    show _=_
    rw[HQ.out.1,hke,Nat.sub_self];rfl
   have HF:Hid (ListOut A5.1 w.heap.size (.returned (.slice ho Q.length hc)) wV∧RD wV b S A5.2.1 A5.2.2∧Tch (fun i=>i=b) w wV):=by
    show _∧_
    rw[HX2.out]
    exact⟨⟨_,Q,rfl,rfl,HTO.out⟩,hR,HTw.out.mono (fun i h e=>by omega)⟩
   clear hR
   go_wp2_with fail
   go_ret
   exact HF.out
end Go.Proofs.YtaiadknglhemaaaGreatDoor.C
namespace Go.Proofs.YtaiadknglhemaaaGreatDoor.C
open Go.RowKit
def EqC (xs ys:List Col) (w:World) (x:Ending) (w':World):Prop:= ∃b:Bool,x= .returned (.bool b)∧(b=true ↔ xs=ys)∧ ∃m,w'=w.drewN m
theorem equalC_any (xs ys:List Col) (ao bo:Option Addr) (ca cb:Nat) (w:World) (ha:SL w ao (ccl xs)) (hb:SL w bo (ccl ys)) (h1:xs.length≤9223372036854775807):
  Calls Tryz.prog 127 #[.slice ao xs.length ca,.slice bo ys.length cb] w fun x w'=>EqC xs ys w x w':=by
 by_cases hl:xs.length=ys.length
 ·have HA:Hid (∀m,SL (w.drewN m) ao (ccl xs)):=fun m=>ha.no ((Tch.refl _ w).drewN m)
  have HB:Hid (∀m,SL (w.drewN m) bo (ccl ys)):=fun m=>hb.no ((Tch.refl _ w).drewN m)
  have HL:Hid (xs.length=ys.length):=hl
  obtain⟨n,hn⟩: ∃n,n=xs.length:=⟨_,rfl⟩
  have hn2:n=ys.length:=by omega
  rw[←hn, ←hn2]
  have HN:Hid (n=xs.length∧n=ys.length):=⟨hn,hn2⟩
  rw[←hn] at h1
  clear ha hb hl hn hn2
  go_enter Tryz.func127,Tryz.ntmps127
  go_wp2_with fail
  go_loopw [13] (fun i wr=> ∃(k m:Nat),i= .int .i64 k∧k≤n∧Hid (∀j (h1:j<xs.length) (h2:j<ys.length),j<k→xs[j]=ys[j])∧wr=w.drewN m) (fun i _=>n - (intOf i).toNat)
  case atStart=>exact⟨0,0,rfl,by omega,fun j _ _ h=>by omega,rfl⟩
  case round=>
   obtain⟨k,m,rfl,hk,HE,hwr⟩:=hrel
   by_cases hlt:(k:Int)<n
   ·have hA:=HA.out m
    have hB:=HB.out m
    rw[←hwr] at hA hB
    have hx:k<xs.length:=by have:=HN.out.1;omega
    have hy:k<ys.length:=by have:=HN.out.2;omega
    obtain⟨ga,oa,rfl,hra⟩:=hA.col hx
    obtain⟨gb,ob,rfl,hrb⟩:=hB.col hy
    obtain⟨a0,a1,a2⟩:=hra.col k hx
    obtain⟨b0,b1,b2⟩:=hrb.col k hy
    have HW:Hid (wr=w.drewN m):=hwr
    obtain⟨u,hu⟩: ∃u,u=xs[k]:=⟨_,rfl⟩
    obtain⟨v,hv⟩: ∃v,v=ys[k]:=⟨_,rfl⟩
    rw[←hu] at a0 a1 a2
    rw[←hv] at b0 b1 b2
    have HU:Hid (u=xs[k]∧v=ys[k]):=⟨hu,hv⟩
    clear hA hB hra hrb hwr hu hv
    obtain⟨d,hd1,hd⟩:=ne_col u v
    have HD:Hid (d=true ↔ u≠v):=hd1
    clear hd1
    cases d with
    |true=>
     go_wp2_with fail
     go_quiet (fail)
     go_wp2
     go_ret
     refine⟨false,rfl,⟨fun h=>by simp at h,fun h=>?_⟩,m+nq,by rw[HW.out,World.drewN_drewN]⟩
     exact absurd (by rw[HU.out.1,HU.out.2];subst h;rfl) (HD.out.1 (by trivial))
    |false=>
     have HE2:Hid (∀j (h1:j<xs.length) (h2:j<ys.length),j<k+1→xs[j]=ys[j]):=fun j h1 h2 hj=>by
      rcases Nat.lt_or_ge j k with h|h
      ·exact HE.out j h1 h2 h
      ·obtain rfl:j=k:=by omega
       rw[←HU.out.1, ←HU.out.2]
       exact Classical.byContradiction fun hne=>by have:=HD.out.2 hne;simp at this
     go_wp2_with fail
     go_quiet (fail)
     go_wp2
     go_roundw
     case rel=>exact⟨k+1,m+nq,by go_num,by omega,HE2,by rw[HW.out,World.drewN_drewN]⟩
     case measure=>simp[intOf];omega
   ·have HW:Hid (wr=w.drewN m):=hwr
    clear hwr
    go_wp2
    go_ret
    refine⟨true,rfl,⟨fun _=>?_,fun _=>rfl⟩,m,HW.out⟩
    exact List.ext_getElem HL.out (fun j h1 h2=>HE.out j h1 h2 (by have:=HN.out.1;omega))
 ·have hl':((xs.length:Int) !=ys.length)=true:=by simp;omega
  clear ha hb
  go_enter Tryz.func127,Tryz.ntmps127
  go_wp2
  go_ret
  exact⟨false,rfl,⟨fun h=>by simp at h,fun h=>absurd (by rw[h]) hl⟩,0,rfl⟩
theorem Tbl.ext' {a b:Tbl} (h:a.id=b.id∧a.ver=b.ver∧a.nm=b.nm∧a.cols=b.cols∧a.key=b.key):a=b:=by
 obtain⟨a1,a2,a3,a4,a5⟩:=a
 obtain⟨b1,b2,b3,b4,b5⟩:=b
 simp at h
 simp[h]
theorem int_ne {a b:Int} (h:a≠b):(a==b)=false:=by simpa using h
theorem int_eq' {a b:Int} (h:a=b):(a==b)=true:=by simpa using h
theorem bs_eq {a b:ByteArray} (h:a=b):(a.toList==b.toList)=true:=by rw[h];simp
theorem bs_ne {a b:ByteArray} (h:a≠b):(a.toList==b.toList)=false:=by
 simp only[beq_eq_false_iff_ne,ne_eq]
 intro e
 rw[ByteArray.toList_eq,ByteArray.toList_eq] at e
 exact h (ByteArray.ext (Array.ext' e))
def EqT (p:Prop) (w:World) (x:Ending) (w':World):Prop:= ∃b:Bool,x= .returned (.bool b)∧(b=true ↔ p)∧Tch (fun _=>False) w w'
theorem eqT_no {p:Prop} {w w':World} (h: ¬p) (t:Tch (fun _=>False) w w'):EqT p w (.returned (.bool false)) w':=⟨false,rfl,⟨(fun e=>by simp at e),(fun e=>absurd e h)⟩,t⟩
theorem sameTab_any (a b:Tbl) (ao bo:Option Addr) (ca cb:Nat) (w:World) (ha:SL w ao (ccl a.cols)) (hb:SL w bo (ccl b.cols)) (h1:a.cols.length≤9223372036854775807):
  Calls Tryz.prog 103 #[tA a.id a.ver a.nm (.slice ao a.cols.length ca) a.key,tA b.id b.ver b.nm (.slice bo b.cols.length cb) b.key] w fun x w'=>EqT (a=b) w x w':=by
 have t0: ∀o1 o2,Tch (fun _=>False) w ((w.alloc o1).alloc o2):=fun o1 o2=>(Tch.alloc _ _ _).allocR _
 have HQ:Hid (∀o1 o2,Calls Tryz.prog 127 #[.slice ao a.cols.length ca,.slice bo b.cols.length cb] ((w.alloc o1).alloc o2) fun x w'=>EqC a.cols b.cols ((w.alloc o1).alloc o2) x w'):=fun o1 o2=>equalC_any a.cols b.cols ao bo ca cb _ (ha.no (t0 o1 o2)) (hb.no (t0 o1 o2)) h1
 have HT0:Hid _:=t0
 obtain⟨n,hn⟩: ∃n,n=a.cols.length:=⟨_,rfl⟩
 obtain⟨m,hm⟩: ∃m,m=b.cols.length:=⟨_,rfl⟩
 rw[←hn, ←hm] at HQ ⊢
 clear ha hb t0 h1 hn hm
 by_cases e1:a.id=b.id
 ·have e1':=int_eq' e1
  have E1:Hid (a.id=b.id):=e1
  clear e1
  by_cases e2:a.ver=b.ver
  ·have e2':=int_eq' e2
   have E2:Hid (a.ver=b.ver):=e2
   clear e2
   by_cases e3:a.nm=b.nm
   ·have e3':=bs_eq e3
    have E3:Hid (a.nm=b.nm):=e3
    clear e3
    by_cases e5:a.key=b.key
    ·have e5':=int_eq' e5
     have E5:Hid (a.key=b.key):=e5
     clear e5
     go_enter Tryz.func103,Tryz.ntmps103
     go_wp2_with fail
     refine(HQ.out _ _).mono ?_
     rintro x w1 ⟨d,rfl,hd,k,rfl⟩
     have HD:Hid (d=true ↔ a.cols=b.cols):=hd
     clear hd
     cases d
     ·go_wp2_with fail
      go_ret
      exact eqT_no (fun e=>by have:=HD.out.2 (by rw[e]);simp at this) ((HT0.out _ _).drewN k)
     ·go_wp2_with fail
      go_ret
      exact⟨true,rfl,⟨fun _=>Tbl.ext' ⟨E1.out,E2.out,E3.out,HD.out.1 (by trivial),E5.out⟩,fun _=>rfl⟩,(HT0.out _ _).drewN k⟩
    ·have e5':=int_ne e5
     go_enter Tryz.func103,Tryz.ntmps103
     go_wp2_with fail
     refine(HQ.out _ _).mono ?_
     rintro x w1 ⟨d,rfl, -,k,rfl⟩
     cases d
     all_goals
      go_wp2_with fail
      go_ret
      exact eqT_no (fun e=>e5 (by rw[e])) ((HT0.out _ _).drewN k)
   ·have e3':=bs_ne e3
    go_enter Tryz.func103,Tryz.ntmps103
    go_wp2_with fail
    go_ret
    exact eqT_no (fun e=>e3 (by rw[e])) (HT0.out _ _)
  ·have e2':=int_ne e2
   go_enter Tryz.func103,Tryz.ntmps103
   go_wp2_with fail
   go_ret
   exact eqT_no (fun e=>e2 (by rw[e])) (HT0.out _ _)
 ·have e1':=int_ne e1
  go_enter Tryz.func103,Tryz.ntmps103
  go_wp2_with fail
  go_ret
  exact eqT_no (fun e=>e1 (by rw[e])) (HT0.out _ _)
theorem TL.no {W W':World} {F:Nat→Prop} {to:Option Addr} {P:List (Tbl×Value)} (h:TL W F to P) (t:Tch (fun _=>False) W W'):TL W' F to P:=h.tch t (fun _ _ h=>h.elim)
theorem eqTabs_any (P Q:List (Tbl×Value)) (po qo:Option Addr) (pc qc:Nat) (F G:Nat→Prop) (w:World) (hP:TL w F po P) (hQ:TL w G qo Q) (h1:P.length≤9223372036854775807) (h2: ∀i (hi:i<P.length),P[i].1.cols.length≤9223372036854775807):
  Calls Tryz.prog 104 #[.slice po P.length pc,.slice qo Q.length qc,.func (.func 103) #[] #[]] w fun x w'=>EqT (P.map Prod.fst=Q.map Prod.fst) w x w':=by
 have HML:Hid (P.map Prod.fst=Q.map Prod.fst→P.length=Q.length):=fun h=>by have:=congrArg List.length h;simpa using this
 by_cases hl:P.length=Q.length
 ·have HA:Hid (∀W,Tch (fun _=>False) w W→TL W F po P):=fun W t=>hP.no t
  have HB:Hid (∀W,Tch (fun _=>False) w W→TL W G qo Q):=fun W t=>hQ.no t
  have H2:Hid _:=h2
  have HL:Hid (P.length=Q.length):=hl
  obtain⟨n,hn⟩: ∃n,n=P.length:=⟨_,rfl⟩
  have hn2:n=Q.length:=by omega
  rw[←hn, ←hn2]
  have HN:Hid (n=P.length∧n=Q.length):=⟨hn,hn2⟩
  rw[←hn] at h1
  clear hP hQ hl hn hn2 h2
  go_enter Tryz.func104,Tryz.ntmps104
  go_wp2_with fail
  go_loopw [17] (fun i wr=> ∃(k:Nat),i= .int .i64 k∧k≤n∧Hid (∀j (h1:j<P.length) (h2:j<Q.length),j<k→P[j].1=Q[j].1)∧Hid (Tch (fun _=>False) w wr)) (fun i _=>n - (intOf i).toNat)
  case atStart=>exact⟨0,rfl,by omega,fun j _ _ h=>by omega,Tch.refl _ _⟩
  case round=>
   obtain⟨k,rfl,hk,HE,HT⟩:=hrel
   by_cases hlt:(k:Int)<n
   ·have hA:=HA.out wr HT.out
    have hB:=HB.out wr HT.out
    have hx:k<P.length:=by have:=HN.out.1;omega
    have hy:k<Q.length:=by have:=HN.out.2;omega
    obtain⟨ga,oa,rfl,a0,a1,a2,a3,a4⟩:=hA.at k hx
    obtain⟨gb,ob,rfl,b0,b1,b2,b3,b4⟩:=hB.at k hy
    obtain⟨co,cc,hc⟩:=hA.col k hx
    obtain⟨do',dc,hd⟩:=hB.col k hy
    have h2k:=H2.out k hx
    obtain⟨p,hp⟩: ∃p,p=P[k]:=⟨_,rfl⟩
    obtain⟨q,hq⟩: ∃q,q=Q[k]:=⟨_,rfl⟩
    rw[←hp] at a0 a1 a2 a3 a4 hc h2k
    rw[←hq] at b0 b1 b2 b3 b4 hd
    rw[hc.eq] at a3
    rw[hd.eq] at b3
    have HU:Hid (p=P[k]∧q=Q[k]):=⟨hp,hq⟩
    have HS:Hid (∀W,Tch (fun _=>False) wr W→Calls Tryz.prog 103 #[tA p.1.id p.1.ver p.1.nm (.slice co p.1.cols.length cc) p.1.key,tA q.1.id q.1.ver q.1.nm (.slice do' q.1.cols.length dc) q.1.key] W fun x w'=>EqT (p.1=q.1) W x w'):=fun W t=>sameTab_any p.1 q.1 co do' cc dc W (hc.sl.no t) (hd.sl.no t) h2k
    have T2: ∀o1 o2,Tch (fun _=>False) wr ((wr.alloc o1).alloc o2):=fun o1 o2=>(Tch.alloc _ _ _).allocR _
    have HT2:Hid _:=T2
    have x0:=((Tch.alloc (fun _=>False) wr (.cells #[.int .i64 p.1.id,.int .i64 p.1.ver,.string p.1.nm,.slice co p.1.cols.length cc,.int .i64 p.1.key] 29)).cell (p:=⟨gb,ob+k*5,none⟩) (cell_lt b0) (fun h=>h)).trans b0
    have x1:=((Tch.alloc (fun _=>False) wr (.cells #[.int .i64 p.1.id,.int .i64 p.1.ver,.string p.1.nm,.slice co p.1.cols.length cc,.int .i64 p.1.key] 29)).cell (p:=⟨gb,ob+k*5+1,none⟩) (cell_lt b1) (fun h=>h)).trans b1
    have x2:=((Tch.alloc (fun _=>False) wr (.cells #[.int .i64 p.1.id,.int .i64 p.1.ver,.string p.1.nm,.slice co p.1.cols.length cc,.int .i64 p.1.key] 29)).cell (p:=⟨gb,ob+k*5+2,none⟩) (cell_lt b2) (fun h=>h)).trans b2
    have x3:=((Tch.alloc (fun _=>False) wr (.cells #[.int .i64 p.1.id,.int .i64 p.1.ver,.string p.1.nm,.slice co p.1.cols.length cc,.int .i64 p.1.key] 29)).cell (p:=⟨gb,ob+k*5+3,none⟩) (cell_lt b3) (fun h=>h)).trans b3
    have x4:=((Tch.alloc (fun _=>False) wr (.cells #[.int .i64 p.1.id,.int .i64 p.1.ver,.string p.1.nm,.slice co p.1.cols.length cc,.int .i64 p.1.key] 29)).cell (p:=⟨gb,ob+k*5+4,none⟩) (cell_lt b4) (fun h=>h)).trans b4
    clear hA hB hc hd hp hq T2 h2k
    go_wp2_with fail
    refine(HS.out _ (HT2.out _ _)).mono ?_
    rintro x w1 ⟨d,rfl,hd,t1⟩
    have HD:Hid (d=true ↔ p.1=q.1):=hd
    have HT1:Hid (Tch (fun _=>False) w w1):=(HT.out.trans' (HT2.out _ _)).trans' t1
    clear hd t1 a0 a1 a2 a3 a4 b0 b1 b2 b3 b4 x0 x1 x2 x3 x4
    cases d
    ·go_wp2_with fail
     go_ret
     refine eqT_no (fun e=>?_) HT1.out
     have h3:(P.map Prod.fst)[k]? =(Q.map Prod.fst)[k]? :=by rw[e]
     rw[List.getElem?_map,List.getElem?_map,List.getElem?_eq_getElem hx,List.getElem?_eq_getElem hy] at h3
     have h4:=HD.out.2 (by rw[HU.out.1,HU.out.2];simpa using h3)
     simp at h4
    ·have HE2:Hid (∀j (h1:j<P.length) (h2:j<Q.length),j<k+1→P[j].1=Q[j].1):=fun j h1 h2 hj=>by
      rcases Nat.lt_or_ge j k with h|h
      ·exact HE.out j h1 h2 h
      ·obtain rfl:j=k:=by omega
       rw[←HU.out.1, ←HU.out.2]
       exact HD.out.1 (by trivial)
     go_wp2_with fail
     go_roundw
     case rel=>exact⟨k+1,by go_num,by omega,HE2,HT1⟩
     case measure=>simp[intOf];omega
   ·go_wp2_with fail
    go_ret
    refine⟨true,rfl,⟨fun _=>?_,fun _=>rfl⟩,HT.out⟩
    refine List.ext_getElem (by simpa using HL.out) (fun j h1 h2=>?_)
    rw[List.getElem_map,List.getElem_map]
    rw[List.length_map] at h1 h2
    exact HE.out j h1 h2 (by have:=HN.out.1;omega)
 ·have hl':((P.length:Int) !=Q.length)=true:=by simp;omega
  clear hP hQ
  go_enter Tryz.func104,Tryz.ntmps104
  go_wp2_with fail
  go_ret
  exact eqT_no (fun h=>hl (HML.out h)) (Tch.refl _ _)
abbrev rA (k x p t:Int) (o n:Value) (nm:ByteArray) (org id ver:Int) (tn:ByteArray) (cs:Value) (key:Int) (ts:Value):Value:= .agg #[.int .i64 k,.int .i64 x,.int .i64 p,.int .i64 t,o,n,.string nm,.int .i64 org,.int .i64 id,.int .i64 ver,.string tn,cs,.int .i64 key,ts]
structure Sk where
 oo:Option Addr
 oc:Nat
 no:Option Addr
 nc:Nat
 co:Option Addr
 cc:Nat
 P:List (Tbl×Value)
 to:Option Addr
 tc:Nat
def sk0:Sk:=⟨none,0,none,0,none,0,[],none,0⟩
abbrev rV (r:Rc) (s:Sk):Value:=rA r.k r.x r.p r.t (.slice s.oo r.o.length s.oc) (.slice s.no r.n.length s.nc) r.nm r.org r.tb.id r.tb.ver r.tb.nm (.slice s.co r.tb.cols.length s.cc) r.tb.key (.slice s.to s.P.length s.tc)
structure RW (W:World) (F:Nat→Prop) (r:Rc) (s:Sk):Prop where
 o:SL W s.oo (vcl r.o)
 n:SL W s.no (vcl r.n)
 tb:CK W F (r.tb,.slice s.co r.tb.cols.length s.cc) s.co s.cc
 tbs:TL W F s.to s.P
 eq:s.P.map Prod.fst=r.tbs
 onf:r.o≠[]→ ∀g o,s.oo=some ⟨g,o,none⟩→ ¬F g
 nnf:r.n≠[]→ ∀g o,s.no=some ⟨g,o,none⟩→ ¬F g
 oi: ∀v∈r.o,v.i64
 ni: ∀v∈r.n,v.i64
 ol:r.o.length≤9223372036854775807
 nl:r.n.length≤9223372036854775807
 cl:r.tb.cols.length≤9223372036854775807
 tl:s.P.length≤9223372036854775807
 pl: ∀i (hi:i<s.P.length),s.P[i].1.cols.length≤9223372036854775807
theorem RW.tch {S F:Nat→Prop} {W W':World} {r:Rc} {s:Sk} (h:RW W F r s) (t:Tch S W W') (hS: ∀i,i<W.heap.size→S i→F i):RW W' F r s:=by
 refine⟨fun hc=>?_,fun hc=>?_,h.tb.tch t hS,h.tbs.tch t hS,h.eq,h.onf,h.nnf,h.oi,h.ni,h.ol,h.nl,h.cl,h.tl,h.pl⟩
 ·obtain⟨g,o,e,ha⟩:=h.o hc
  have hne:r.o≠[]:=fun e0=>hc (by rw[e0];rfl)
  exact⟨g,o,e,ha.tch t (fun _ hs=>h.onf hne g o e (hS g (ha.lt hc) hs))⟩
 ·obtain⟨g,o,e,ha⟩:=h.n hc
  have hne:r.n≠[]:=fun e0=>hc (by rw[e0];rfl)
  exact⟨g,o,e,ha.tch t (fun _ hs=>h.nnf hne g o e (hS g (ha.lt hc) hs))⟩
theorem RW.no {F:Nat→Prop} {W W':World} {r:Rc} {s:Sk} (h:RW W F r s) (t:Tch (fun _=>False) W W'):RW W' F r s:=h.tch t (fun _ _ h=>h.elim)
def bV (c:Nat) (r:Rc) (s:Sk):Value:=match c with
 |1=>.iface 128 (.agg #[.int .i64 r.x])
 |2=>.iface 130 (.agg #[.int .i64 r.x,.int .i64 r.p])
 |3=>.iface 132 (.agg #[.int .i64 r.x,.int .i64 r.t,.slice s.no r.n.length s.nc])
 |4=>.iface 134 (.agg #[.int .i64 r.x,.int .i64 r.t,.slice s.oo r.o.length s.oc,.slice s.no r.n.length s.nc])
 |5=>.iface 135 (.agg #[.int .i64 r.x,.int .i64 r.t,.slice s.oo r.o.length s.oc])
 |6=>.iface 137 (.agg #[.int .i64 r.x,.string r.nm,.int .i64 r.org])
 |7=>.iface 139 (.agg #[.int .i64 r.x,.string r.nm])
 |8=>.iface 141 (.agg #[.int .i64 r.x,.int .i64 r.tb.id,.int .i64 r.tb.ver,.string r.tb.nm,.slice s.co r.tb.cols.length s.cc,.int .i64 r.tb.key])
 |9=>.iface 143 (.agg #[.int .i64 r.x,.int .i64 r.t])
 |10=>.iface 145 (.agg #[.int .i64 r.x,.int .i64 r.t,.slice s.to s.P.length s.tc])
 |_=>.nilIface
def cutS (c:Nat) (s:Sk):Sk:=match c with
 |3=> { sk0 with no:=s.no,nc:=s.nc }
 |4=> { sk0 with oo:=s.oo,oc:=s.oc,no:=s.no,nc:=s.nc }
 |5=> { sk0 with oo:=s.oo,oc:=s.oc }
 |8=> { sk0 with co:=s.co,cc:=s.cc }
 |10=> { sk0 with P:=s.P,to:=s.to,tc:=s.tc }
 |_=>sk0
theorem bodyOf_1 (r:Rc) (s:Sk) (w:World) (hk:r.k=1):Calls Tryz.prog 36 #[rV r s] w fun x w'=>x= .returned (bV 1 r s)∧Tch (fun _=>False) w w':=by
 rw[rV,hk]
 go_enter Tryz.func36,Tryz.ntmps36
 go_wp2
 go_ret
 exact⟨rfl,Tch.alloc _ _ _⟩
theorem bodyOf_2 (r:Rc) (s:Sk) (w:World) (hk:r.k=2):Calls Tryz.prog 36 #[rV r s] w fun x w'=>x= .returned (bV 2 r s)∧Tch (fun _=>False) w w':=by
 rw[rV,hk]
 go_enter Tryz.func36,Tryz.ntmps36
 go_wp2
 go_ret
 exact⟨rfl,Tch.alloc _ _ _⟩
theorem bodyOf_3 (r:Rc) (s:Sk) (w:World) (hk:r.k=3):Calls Tryz.prog 36 #[rV r s] w fun x w'=>x= .returned (bV 3 r s)∧Tch (fun _=>False) w w':=by
 rw[rV,hk]
 go_enter Tryz.func36,Tryz.ntmps36
 go_wp2
 go_ret
 exact⟨rfl,Tch.alloc _ _ _⟩
theorem bodyOf_4 (r:Rc) (s:Sk) (w:World) (hk:r.k=4):Calls Tryz.prog 36 #[rV r s] w fun x w'=>x= .returned (bV 4 r s)∧Tch (fun _=>False) w w':=by
 rw[rV,hk]
 go_enter Tryz.func36,Tryz.ntmps36
 go_wp2
 go_ret
 exact⟨rfl,Tch.alloc _ _ _⟩
theorem bodyOf_5 (r:Rc) (s:Sk) (w:World) (hk:r.k=5):Calls Tryz.prog 36 #[rV r s] w fun x w'=>x= .returned (bV 5 r s)∧Tch (fun _=>False) w w':=by
 rw[rV,hk]
 go_enter Tryz.func36,Tryz.ntmps36
 go_wp2
 go_ret
 exact⟨rfl,Tch.alloc _ _ _⟩
theorem bodyOf_6 (r:Rc) (s:Sk) (w:World) (hk:r.k=6):Calls Tryz.prog 36 #[rV r s] w fun x w'=>x= .returned (bV 1 r s)∧Tch (fun _=>False) w w':=by
 rw[rV,hk]
 go_enter Tryz.func36,Tryz.ntmps36
 go_wp2
 go_ret
 exact⟨rfl,Tch.alloc _ _ _⟩
theorem bodyOf_7 (r:Rc) (s:Sk) (w:World) (hk:r.k=7):Calls Tryz.prog 36 #[rV r s] w fun x w'=>x= .returned (bV 1 r s)∧Tch (fun _=>False) w w':=by
 rw[rV,hk]
 go_enter Tryz.func36,Tryz.ntmps36
 go_wp2
 go_ret
 exact⟨rfl,Tch.alloc _ _ _⟩
theorem bodyOf_8 (r:Rc) (s:Sk) (w:World) (hk:r.k=8):Calls Tryz.prog 36 #[rV r s] w fun x w'=>x= .returned (bV 6 r s)∧Tch (fun _=>False) w w':=by
 rw[rV,hk]
 go_enter Tryz.func36,Tryz.ntmps36
 go_wp2
 go_ret
 exact⟨rfl,Tch.alloc _ _ _⟩
theorem bodyOf_9 (r:Rc) (s:Sk) (w:World) (hk:r.k=9):Calls Tryz.prog 36 #[rV r s] w fun x w'=>x= .returned (bV 1 r s)∧Tch (fun _=>False) w w':=by
 rw[rV,hk]
 go_enter Tryz.func36,Tryz.ntmps36
 go_wp2
 go_ret
 exact⟨rfl,Tch.alloc _ _ _⟩
theorem bodyOf_10 (r:Rc) (s:Sk) (w:World) (hk:r.k=10):Calls Tryz.prog 36 #[rV r s] w fun x w'=>x= .returned (bV 7 r s)∧Tch (fun _=>False) w w':=by
 rw[rV,hk]
 go_enter Tryz.func36,Tryz.ntmps36
 go_wp2
 go_ret
 exact⟨rfl,Tch.alloc _ _ _⟩
theorem bodyOf_11 (r:Rc) (s:Sk) (w:World) (hk:r.k=11):Calls Tryz.prog 36 #[rV r s] w fun x w'=>x= .returned (bV 8 r s)∧Tch (fun _=>False) w w':=by
 rw[rV,hk]
 go_enter Tryz.func36,Tryz.ntmps36
 go_wp2
 go_ret
 exact⟨rfl,Tch.alloc _ _ _⟩
theorem bodyOf_12 (r:Rc) (s:Sk) (w:World) (hk:r.k=12):Calls Tryz.prog 36 #[rV r s] w fun x w'=>x= .returned (bV 9 r s)∧Tch (fun _=>False) w w':=by
 rw[rV,hk]
 go_enter Tryz.func36,Tryz.ntmps36
 go_wp2
 go_ret
 exact⟨rfl,Tch.alloc _ _ _⟩
theorem bodyOf_13 (r:Rc) (s:Sk) (w:World) (hk:r.k=13):Calls Tryz.prog 36 #[rV r s] w fun x w'=>x= .returned (bV 8 r s)∧Tch (fun _=>False) w w':=by
 rw[rV,hk]
 go_enter Tryz.func36,Tryz.ntmps36
 go_wp2
 go_ret
 exact⟨rfl,Tch.alloc _ _ _⟩
theorem bodyOf_14 (r:Rc) (s:Sk) (w:World) (hk:r.k=14):Calls Tryz.prog 36 #[rV r s] w fun x w'=>x= .returned (bV 9 r s)∧Tch (fun _=>False) w w':=by
 rw[rV,hk]
 go_enter Tryz.func36,Tryz.ntmps36
 go_wp2
 go_ret
 exact⟨rfl,Tch.alloc _ _ _⟩
theorem bodyOf_15 (r:Rc) (s:Sk) (w:World) (hk:r.k=15):Calls Tryz.prog 36 #[rV r s] w fun x w'=>x= .returned (bV 10 r s)∧Tch (fun _=>False) w w':=by
 rw[rV,hk]
 go_enter Tryz.func36,Tryz.ntmps36
 go_wp2
 go_ret
 exact⟨rfl,Tch.alloc _ _ _⟩
theorem bodyOf_no (r:Rc) (s:Sk) (w:World) (hk: ¬(1≤r.k∧r.k≤15)):Calls Tryz.prog 36 #[rV r s] w fun x w'=>x= .returned .nilIface∧Tch (fun _=>False) w w':=by
 have e1:(r.k==1)=false:=int_ne (by omega)
 have e2:(r.k==2)=false:=int_ne (by omega)
 have e3:(r.k==3)=false:=int_ne (by omega)
 have e4:(r.k==4)=false:=int_ne (by omega)
 have e5:(r.k==5)=false:=int_ne (by omega)
 have e6:(r.k==6)=false:=int_ne (by omega)
 have e7:(r.k==7)=false:=int_ne (by omega)
 have e8:(r.k==8)=false:=int_ne (by omega)
 have e9:(r.k==9)=false:=int_ne (by omega)
 have e10:(r.k==10)=false:=int_ne (by omega)
 have e11:(r.k==11)=false:=int_ne (by omega)
 have e12:(r.k==12)=false:=int_ne (by omega)
 have e13:(r.k==13)=false:=int_ne (by omega)
 have e14:(r.k==14)=false:=int_ne (by omega)
 have e15:(r.k==15)=false:=int_ne (by omega)
 clear hk
 go_enter Tryz.func36,Tryz.ntmps36
 go_wp2
 go_ret
 exact⟨rfl,Tch.alloc _ _ _⟩
theorem cls_no (k:Int) (hk: ¬(1≤k∧k≤15)):cls k=0:=by
 rcases cls_rng k with h|h
 ·exact h
 ·exact absurd ⟨h.1,h.2.1⟩ hk
theorem bodyOf_any (r:Rc) (s:Sk) (w:World):Calls Tryz.prog 36 #[rV r s] w fun x w'=>x= .returned (bV (cls r.k) r s)∧Tch (fun _=>False) w w':=by
 by_cases hk:1≤r.k∧r.k≤15
 ·have h15:r.k=1∨r.k=2∨r.k=3∨r.k=4∨r.k=5∨r.k=6∨r.k=7∨r.k=8∨r.k=9∨r.k=10∨r.k=11∨r.k=12∨r.k=13∨r.k=14∨r.k=15:=by omega
  rcases h15 with h|h|h|h|h|h|h|h|h|h|h|h|h|h|h
  ·have e:cls r.k=1:=by rw[h];rfl
   rw[e];exact bodyOf_1 r s w h
  ·have e:cls r.k=2:=by rw[h];rfl
   rw[e];exact bodyOf_2 r s w h
  ·have e:cls r.k=3:=by rw[h];rfl
   rw[e];exact bodyOf_3 r s w h
  ·have e:cls r.k=4:=by rw[h];rfl
   rw[e];exact bodyOf_4 r s w h
  ·have e:cls r.k=5:=by rw[h];rfl
   rw[e];exact bodyOf_5 r s w h
  ·have e:cls r.k=1:=by rw[h];rfl
   rw[e];exact bodyOf_6 r s w h
  ·have e:cls r.k=1:=by rw[h];rfl
   rw[e];exact bodyOf_7 r s w h
  ·have e:cls r.k=6:=by rw[h];rfl
   rw[e];exact bodyOf_8 r s w h
  ·have e:cls r.k=1:=by rw[h];rfl
   rw[e];exact bodyOf_9 r s w h
  ·have e:cls r.k=7:=by rw[h];rfl
   rw[e];exact bodyOf_10 r s w h
  ·have e:cls r.k=8:=by rw[h];rfl
   rw[e];exact bodyOf_11 r s w h
  ·have e:cls r.k=9:=by rw[h];rfl
   rw[e];exact bodyOf_12 r s w h
  ·have e:cls r.k=8:=by rw[h];rfl
   rw[e];exact bodyOf_13 r s w h
  ·have e:cls r.k=9:=by rw[h];rfl
   rw[e];exact bodyOf_14 r s w h
  ·have e:cls r.k=10:=by rw[h];rfl
   rw[e];exact bodyOf_15 r s w h
 ·rw[cls_no _ hk];exact bodyOf_no r s w hk
end Go.Proofs.YtaiadknglhemaaaGreatDoor.C
