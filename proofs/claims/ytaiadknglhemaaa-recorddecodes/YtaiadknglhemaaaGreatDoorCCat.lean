import Derived.Test.YtaiadknglhemaaaGreatDoorCName2
import Derived.Test.YtaiadknglhemaaaGreatDoorCKeeps
import Derived.Test.YtaiadknglhemaaaGreatDoorCFit
set_option maxHeartbeats 2000000
set_option maxRecDepth 100000
namespace Go.Proofs.YtaiadknglhemaaaGreatDoor.C
open Go.RowKit
set_option maxRecDepth 100000
def keyE (l:List Col) (key:Int):Int:=if keyOk l key=false then 56 else 0
theorem rkind_any (k:Int) (w:World):
  Calls Tryz.prog 154 #[.int .i64 k] w fun x w'=>x= .returned (.bool (kdOk k))∧w'=w:=by
 go_enter Tryz.func154,Tryz.ntmps154
 go_wp2
 all_goals (go_ret;refine⟨vret_bool ?_,rfl⟩;rw[Bool.eq_iff_iff];simp[kdOk] at*;try omega)
theorem rkey_any (l:List Col) (ao:Option Addr) (c:Nat) (key:Int) (w:World) (h:SL w ao (ccl l)):
  Calls Tryz.prog 139 #[.slice ao l.length c,.int .i64 key] w fun x w'=>x= .returned (.int .i64 (keyE l key))∧w'=w:=by
 by_cases h0:0≤key
 ·by_cases h1:key<l.length
  ·obtain⟨hk,he⟩:=keyOk_in h0 h1
   obtain⟨g,o,rfl,ha⟩:=h.col hk
   obtain⟨c0,c1,c2⟩:=ha.col key.toNat hk
   obtain⟨⟨xn,xk,xl⟩,hx⟩: ∃x,x=l[key.toNat]:=⟨_,rfl⟩
   rw[←hx] at he c0 c1 c2
   obtain⟨k,rfl⟩: ∃k:Nat,key=k:=⟨key.toNat,by omega⟩
   simp only[Int.toNat_natCast] at c0 c1 c2
   simp only at he c0 c1 c2
   have HE:Hid (keyOk l k=(decide (xk≠3) && !xl)):=he
   have h0': ¬(k:Int)<0:=by omega
   have h1': ¬(l.length:Int)≤k:=by omega
   clear ha hx he h h0 h1
   go_enter Tryz.func139,Tryz.ntmps139
   by_cases h3:xk=3
   ·have HR:Hid (keyE l k=56):=by show _=_;unfold keyE;rw[HE.out];simp[h3]
    subst h3
    go_wp2
    go_ret
    exact⟨by rw[HR.out];rfl,rfl⟩
   ·cases xl with
    |true=>
     have HR:Hid (keyE l k=56):=by show _=_;unfold keyE;rw[HE.out];simp
     have h3':(xk==3)=false:=beq_eq_false_iff_ne.2 h3
     clear h3
     go_wp2
     go_ret
     exact⟨by rw[HR.out];rfl,rfl⟩
    |false=>
     have HR:Hid (keyE l k=0):=by show _=_;unfold keyE;rw[HE.out];simp[h3]
     have h3':(xk==3)=false:=beq_eq_false_iff_ne.2 h3
     clear h3
     go_wp2
     go_ret
     exact⟨by rw[HR.out];rfl,rfl⟩
  ·have HR:Hid (keyE l key=56):=if_pos (keyOk_out (l:=l) (key:=key) (by omega))
   have h0': ¬key<0:=by omega
   have h1':(l.length:Int)≤key:=by omega
   clear h h0 h1
   go_enter Tryz.func139,Tryz.ntmps139
   go_wp2
   go_ret
   exact⟨by rw[HR.out];rfl,rfl⟩
 ·have HR:Hid (keyE l key=56):=if_pos (keyOk_out (l:=l) (key:=key) (by omega))
  have h0':key<0:=by omega
  clear h h0
  go_enter Tryz.func139,Tryz.ntmps139
  go_wp2
  go_ret
  exact⟨by rw[HR.out];rfl,rfl⟩
theorem rcolumns_any (l:List Col) (ao:Option Addr) (c:Nat) (w:World) (h:SL w ao (ccl l)):
  Calls Tryz.prog 138 #[.slice ao l.length c] w fun x w'=>x= .returned (.int .i64 (colsE l))∧Tch (fun _=>False) w w':=by
 by_cases h0:(l.length:Int)<1
 ·have HR:Hid (colsE l=55):=if_pos (by omega)
  clear h
  go_enter Tryz.func138,Tryz.ntmps138
  go_wp2
  go_ret
  exact⟨by rw[HR.out];rfl,Tch.refl _ _⟩
 by_cases h1:8<(l.length:Int)
 ·have HR:Hid (colsE l=55):=if_pos (by omega)
  clear h
  go_enter Tryz.func138,Tryz.ntmps138
  go_wp2
  go_ret
  exact⟨by rw[HR.out];rfl,Tch.refl _ _⟩
 have HS:Hid (∀W,Tch (fun _=>False) w W→SL W ao (ccl l)):=fun W t=>h.no t
 have HC:Hid (colsE l=colsGo (l.take 0) (l.drop 0)):=if_neg (by omega)
 clear h
 go_enter Tryz.func138,Tryz.ntmps138
 go_wp2_with fail
 go_loopw [3] (fun i wr=> ∃k:Nat,i= .int .i64 k∧k≤l.length∧Tch (fun _=>False) w wr∧Hid (colsE l=colsGo (l.take k) (l.drop k))) (fun i _=>l.length - (intOf i).toNat)
 case atStart=>exact⟨0,rfl,by omega,Tch.refl _ _,HC⟩
 case round=>
  clear HC
  obtain⟨k,rfl,hk,hT,HC⟩:=hrel
  obtain⟨wV,hwV⟩: ∃wV,wV=wr:=⟨_,rfl⟩
  subst hwV
  by_cases hlt:(k:Int)<l.length
  ·have hkl:k<l.length:=by omega
   obtain⟨g,o,rfl,ha⟩:=(HS.out _ hT).col hkl
   obtain⟨c0,c1,c2⟩:=ha.col k hkl
   obtain⟨x,hx⟩: ∃x,x=l[k]:=⟨_,rfl⟩
   obtain⟨E,hE⟩: ∃E,E=colE (l.take k) x:=⟨_,rfl⟩
   have HE:Hid (colsE l=if E≠0 then E else colsGo (l.take (k+1)) (l.drop (k+1))):=by
    show _=_
    rw[HC.out,colsGo_step l k hkl,hE,hx]
   rw[←hx] at c0 c1 c2
   have HX:Hid (x=l[k]):=hx
   have HA:Hid (∀W,Tch (fun _=>False) w W→ ∀j (hj:j<l.length),W.cell? ⟨g,o+j*3,none⟩=some (.string l[j].nm)∧W.cell? ⟨g,o+j*3+1,none⟩=some (.int .i64 l[j].k)):=fun W t j hj=>by
    obtain⟨g',o',e,h'⟩:=(HS.out W t).col hj
    injection e with e;injection e with e1 e2;subst e1 e2
    obtain⟨q0,q1,_⟩:=h'.col j hj
    exact⟨q0,q1⟩
   have q1:=named_any x.nm wV
   clear ha hx HC HS
   cases hn:nmOk x.nm
   ·rw[hn] at q1
    have HR:Hid (colsE l=50):=by
     show _=_
     have e1:E=50:=by rw[hE];unfold colE;rw[if_pos hn]
     rw[HE.out,e1,if_pos (by decide)]
    clear hn hE HE
    go_wp2_with fail
    refine q1.mono ?_
    rintro y w1 ⟨rfl,hw1⟩
    obtain rfl:=hw1.symm
    clear hw1 q1
    go_wp2_with fail
    go_ret
    exact⟨by rw[HR.out];rfl,hT⟩
   ·rw[hn] at q1
    have q3:=fun W=>rkind_any x.k W
    have HN:Hid (nmOk x.nm=true):=hn
    have HEE:Hid (E=colE (l.take k) x):=hE
    clear hn hE
    go_wp2_with fail
    refine q1.mono ?_
    rintro y w1 ⟨rfl,hw1⟩
    obtain rfl:=hw1.symm
    clear hw1 q1
    go_wp2_with fail
    go_loopw [5] (fun i wr=> ∃m:Nat,i= .int .i64 m∧m≤k∧Tch (fun _=>False) w wr∧Hid (∀j (h:j<l.length),j<m→l[j].nm≠x.nm)) (fun i _=>k - (intOf i).toNat)
    case atStart=>exact⟨0,rfl,by omega,hT,fun _ _ h=>by omega⟩
    case round=>
     obtain⟨m,rfl,hm,hT2,HM⟩:=hrel
     by_cases hmk:(m:Int)<k
     ·have hml:m<l.length:=by omega
      have hml':(m:Int)<l.length:=by omega
      have hmk2:m<k:=by omega
      obtain⟨d0,_⟩:=HA.out _ hT2 m hml
      obtain⟨e0,_⟩:=HA.out _ hT2 k hkl
      rw[←HX.out] at e0
      obtain⟨y,hy⟩: ∃y,y=l[m].nm:=⟨_,rfl⟩
      rw[←hy] at d0
      have HY:Hid (y=l[m].nm):=hy
      clear hy c0 c1 c2
      by_cases he:y=x.nm
      ·have HR:Hid (colsE l=54):=by
        show _=_
        have hh:(l.take k).any (fun a=>decide (a.nm=x.nm))=true:=by
         rw[List.any_eq_true]
         have hmt:m<(l.take k).length:=by rw[List.length_take];omega
         refine⟨(l.take k)[m],List.getElem_mem _,?_⟩
         rw[List.getElem_take, ←HY.out];simpa using he
        have e1:E=54:=by rw[HEE.out];unfold colE;rw[if_neg (by simp[HN.out]),if_pos (by simp[hh])]
        rw[HE.out,e1,if_pos (by decide)]
       subst he
       go_wp2_with fail
       go_quiet (fail)
       go_wp2_with fail
       go_ret
       exact⟨by rw[HR.out];rfl,hT2.drewN _⟩
      ·have HM2:Hid (∀j (h:j<l.length),j<m+1→l[j].nm≠x.nm):=fun j hj hjm=>by
        rcases Nat.lt_or_ge j m with h1|h1
        ·exact HM.out j hj h1
        ·obtain rfl:j=m:=by omega
         rw[←HY.out];exact he
       have hne:=str_ne he
       clear he
       go_wp2_with fail
       go_quiet (fail)
       go_wp2_with fail
       go_roundw
       case rel=>exact⟨m+1,by go_num,by omega,hT2.drewN _,HM2⟩
       case measure=>simp[intOf];omega
     ·have hh:(l.take k).any (fun a=>decide (a.nm=x.nm))=false:=by
       rw[List.any_eq_false]
       intro a ha
       obtain⟨i,hi,rfl⟩:=List.getElem_of_mem ha
       rw[List.length_take] at hi
       rw[List.getElem_take]
       simpa using HM.out i (by omega) (by omega)
      obtain⟨_,e1⟩:=HA.out _ hT2 k hkl
      rw[←HX.out] at e1
      clear c0 c1 c2
      cases hd:kdOk x.k
      ·rw[hd] at q3
       have HR:Hid (colsE l=1):=by
        show _=_
        have e1:E=1:=by rw[HEE.out];unfold colE;rw[if_neg (by simp[HN.out]),if_neg (by simp[hh]),if_pos hd]
        rw[HE.out,e1,if_pos (by decide)]
       clear hh hd
       go_wp2_with (go_at_call 154;refine(q3 _).mono ?_;rintro y w1 ⟨rfl,hw1⟩;obtain rfl:=hw1.symm;clear hw1)
       go_ret
       exact⟨by rw[HR.out];rfl,hT2⟩
      ·rw[hd] at q3
       have HR:Hid (colsE l=colsGo (l.take (k+1)) (l.drop (k+1))):=by
        show _=_
        have e1:E=0:=by rw[HEE.out];unfold colE;rw[if_neg (by simp[HN.out]),if_neg (by simp[hh]),if_neg (by simp[hd])]
        rw[HE.out,e1,if_neg (by simp)]
       clear hh hd
       go_wp2_with (go_at_call 154;refine(q3 _).mono ?_;rintro y w1 ⟨rfl,hw1⟩;obtain rfl:=hw1.symm;clear hw1)
       go_roundw
       case rel=>exact⟨k+1,by go_num,by omega,hT2,HR⟩
       case measure=>simp[intOf];omega
  ·have HR:Hid (colsE l=0):=by
    show _=_
    obtain rfl:k=l.length:=by omega
    rw[HC.out,colsGo_end]
   go_wp2_with fail
   go_ret
   exact⟨by rw[HR.out];rfl,hT⟩
theorem rright_any (t:Tbl) (ao:Option Addr) (c:Nat) (w:World) (h:SL w ao (ccl t.cols)):
  Calls Tryz.prog 111 #[tA t.id t.ver t.nm (.slice ao t.cols.length c) t.key] w fun x w'=>x= .returned (.int .i64 (rightE t))∧Tch (fun _=>False) w w':=by
 obtain⟨w0,hw0⟩: ∃w0,w0=w.alloc (.cells #[.int .i64 t.id,.int .i64 t.ver,.string t.nm,.slice ao t.cols.length c,.int .i64 t.key] 29):=⟨_,rfl⟩
 have T0:Tch (fun _=>False) w w0:=by rw[hw0];exact Tch.alloc _ _ _
 obtain⟨N,hN⟩: ∃N,N=w.heap.size:=⟨_,rfl⟩
 have HB:Hid (∀W,Tch (fun _=>False) w0 W→W.cell? ⟨N,0,none⟩=some (.int .i64 t.id)∧W.cell? ⟨N,1,none⟩=some (.int .i64 t.ver)∧W.cell? ⟨N,2,none⟩=some (.string t.nm)∧W.cell? ⟨N,3,none⟩=some (.slice ao t.cols.length c)∧W.cell? ⟨N,4,none⟩=some (.int .i64 t.key)):=fun W tw=>by
  rw[hw0] at tw;rw[hN];exact box5 tw
 have HS:Hid (∀W,Tch (fun _=>False) w0 W→SL W ao (ccl t.cols)):=fun W tw=>h.no (T0.trans' tw)
 obtain⟨b0,b1,b2,b3,b4⟩:=HB.out w0 (Tch.refl _ _)
 have q3:=named_any t.nm w0
 have q4:=rcolumns_any t.cols ao c w0 (HS.out w0 (Tch.refl _ _))
 have q5:=fun W tw=>rkey_any t.cols ao c t.key W (HS.out W tw)
 obtain⟨n3,e3⟩: ∃n3,n3=nmOk t.nm:=⟨_,rfl⟩
 obtain⟨n4,e4⟩: ∃n4,n4=colsE t.cols:=⟨_,rfl⟩
 obtain⟨n5,e5⟩: ∃n5:Int,n5=keyE t.cols t.key:=⟨_,rfl⟩
 have HR:Hid (rightE t=if numOk t.id=false∨numOk t.ver=false then 1 else if n3=false then 50 else if n4≠0 then n4 else n5):=by
  show _=_
  rw[e3,e4,e5];rfl
 rw[←e3] at q3
 rw[←e4] at q4
 rw[←e5] at q5
 have Hw0:Hid _:=hw0
 have HN:Hid _:=hN
 clear h e3 e4 e5 HS hw0 hN
 go_enter Tryz.func111,Tryz.ntmps111
 by_cases hbad:(t.id<1∨2147483647<t.id)∨t.ver<1∨2147483647<t.ver
 ·have HR2:Hid (rightE t=1):=by
   show _=_
   rw[HR.out,if_pos (by simp[numOk];omega)]
  rcases hbad with(hb|hb)|hb|hb
  all_goals go_wp2
  all_goals (go_ret;exact⟨by rw[HR2.out];rfl,by have hw0:=Hw0.out;rw[←hw0];exact T0⟩)
 ·have HR2:Hid (rightE t=if n3=false then 50 else if n4≠0 then n4 else n5):=by
   show _=_
   rw[HR.out,if_neg (by simp[numOk];omega)]
  have k0: ¬t.id<1:=by omega
  have k1: ¬2147483647<t.id:=by omega
  have k2: ¬t.ver<1:=by omega
  have k3: ¬2147483647<t.ver:=by omega
  clear hbad HR
  go_wp2_with fail
  rw[←HN.out]
  have hw0:=Hw0.out
  rw[←hw0]
  clear hw0
  refine q3.mono ?_
  rintro y w1 ⟨rfl,hw1⟩
  obtain rfl:=hw1.symm
  clear hw1 q3
  cases n3 with
  |false=>
   go_wp2_with fail
   go_ret
   exact⟨by rw[HR2.out];rfl,T0⟩
  |true=>
   by_cases h4:n4=0
   ·subst h4
    go_wp2_with (first|(go_at_call 138;refine q4.mono ?_;rintro y w2 ⟨rfl,t2⟩;obtain⟨b0,b1,b2,b3,b4⟩:=HB.out w2 t2)|(go_at_call 139;refine(q5 w2 t2).mono ?_;rintro y w3 ⟨rfl,hw1⟩;obtain rfl:=hw1.symm;clear hw1))
    go_ret
    exact⟨by rw[HR2.out];rfl,T0.trans' t2⟩
   ·have HR3:Hid (rightE t=n4):=by
     show _=_
     rw[HR2.out,if_neg (by simp),if_pos h4]
    have hb4:(n4 !=0)=true:=by simpa using h4
    clear h4 HR2
    go_wp2_with (go_at_call 138;refine q4.mono ?_;rintro y w2 ⟨rfl,t2⟩;obtain⟨b0,b1,b2,b3,b4⟩:=HB.out w2 t2)
    go_ret
    exact⟨by rw[HR3.out];rfl,T0.trans' t2⟩
open Go
theorem row_ge {w:World} {base:Nat} {t:TypeId} {sz n:Nat} {v:Value} {xs:List Value} (h:w.ownsRow base t sz v n xs) {k:Nat} (hk:v.ownBlock=some k):base≤k:=(h.lt k hk).1
theorem own_low {W:World} {N N' sz n:Nat} {t:TypeId} {v:Value} {xs:List Value} (h:W.ownsRow N t sz v n xs) (hN:N'≤N):W.ownsRow N' t sz v n xs:=by
 obtain⟨h1,h2⟩:=h
 refine⟨h1,?_⟩
 rcases h2 with h2|⟨g,c,cur,hv,hb,hr⟩
 ·exact Or.inl h2
 ·exact Or.inr ⟨g,c,cur,hv,Nat.le_trans hN hb,hr⟩
end Go.Proofs.YtaiadknglhemaaaGreatDoor.C
namespace Go.Proofs.YtaiadknglhemaaaGreatDoor.C
open Go.RowKit
theorem own_sl {W:World} {base sz n:Nat} {t:TypeId} {ao:Option Addr} {c:Nat} {xs:List Value} (h:W.ownsRow base t sz (.slice ao n c) n xs):SL W ao xs:=fun hx=>by
 have hn:0<n:=by
  rcases Nat.eq_zero_or_pos n with rfl|h'
  ·have:=h.1;simp at this;exact absurd this hx
  ·exact h'
 obtain⟨g,e,_,ha⟩:=own_at h hn
 exact⟨g,0,e,ha⟩
open Go
theorem ceq_nil_no (ad:Addr) (n c:Nat) (w:World):(binOp .eql 22 (.slice (some ad) n c) (.slice none 0 0)).run Tryz.prog w= .ok (.bool false) w:=Lib.run_eql_slice_some_nil w ad n c Tryz.underlying22
theorem ceq_nil_yes (w:World):(binOp .eql 22 (.slice none 0 0) (.slice none 0 0)).run Tryz.prog w= .ok (.bool true) w:=Lib.run_eql_slice_nil_nil w 0 0 Tryz.underlying22
theorem sclone_any (l:List Col) (ao:Option Addr) (c:Nat) (w:World) (h:SL w ao (ccl l)) (hno:ao=none→l=[]∧c=0) (hlen:l.length*32≤140737488351232):
  Calls Tryz.prog 65 #[.slice ao l.length c] w fun x w'=>(∃v,x= .returned v∧w'.ownsRow w.heap.size 43 3 v l.length (ccl l))∧Tch (fun _=>False) w w':=by
 cases ao with
 |none=>
  obtain⟨rfl,rfl⟩:=hno rfl
  have he:=ceq_nil_yes
  clear h
  go_enter Tryz.func65,Tryz.ntmps65
  go_wp2
  go_ret
  exact⟨⟨_,rfl,rfl,Or.inl ⟨rfl,rfl⟩⟩,Tch.refl _ _⟩
 |some ad=>
  obtain⟨i0,hi,hz0,hz1,hz2⟩:=info_parts info_col
  have he:=ceq_nil_no ad l.length c
  obtain⟨w0,hw0⟩: ∃w0,w0=w.alloc (.cells #[] 43):=⟨_,rfl⟩
  have t0:Tch (fun _=>False) w w0:=by rw[hw0];exact Tch.alloc _ _ _
  have hown:w0.ownsRow w.heap.size 43 3 (.slice (some ⟨w.heap.size,0,none⟩) 0 0) 0 []:=⟨rfl,Or.inr ⟨w.heap.size,0,#[],rfl,Nat.le_refl _,by rw[hw0];exact alloc_new _ _,Nat.le_refl _,by unfold maxLen;omega,rfl,rfl⟩⟩
  have Hcl:Hid (∀j u,(ccl l)[j]? =some u→w0.cell? (ad.add j)=some u):=fun j u hu=>by
   obtain⟨g,o,e,ha⟩:=h.no t0 (by rintro e;rw[e] at hu;simp at hu)
   injection e with e
   subst e
   rw[add_plain];exact ha j u hu
  have Hown:Hid (w0.ownsRow w.heap.size 43 3 (.slice (some ⟨w.heap.size,0,none⟩) 0 0) 0 []):=hown
  have Hw0:Hid _:=hw0
  have Hsz:Hid (w.heap.size≤w0.heap.size):=t0.size
  clear h hown hw0
  go_enter Tryz.func65,Tryz.ntmps65
  go_wp2_with (at_builtin;have hw0:=Hw0.out;rw[←hw0];clear hw0;refine wpList_append_keeps _ rfl _ _ 22 rfl w.heap.size 43 i0 (.agg #[.string ⟨#[]⟩,.int .i64 0,.bool false]) 3 32 Tryz.underlying22 hi hz0 hz1 hz2 rfl (by decide) (.slice (some ⟨w.heap.size,0,none⟩) 0 0) 0 [] rfl Hown.out ad l.length c (ccl l) rfl (ccl_len l) Hcl.out (ccl_one l) (by unfold maxLen;omega) (by omega) Hsz.out ?_;intro v1 w1 hown1 hgr1 hat1 _;have HF:Hid (w1.ownsRow w.heap.size 43 3 v1 l.length (ccl l)):=(by have h1:=hown1;rw[Nat.zero_add,List.nil_append] at h1;exact h1);have HT:Hid (Tch (fun _=>False) w w1):=(t0.trans (grown_at (Tch.refl (fun _=>False) w0) hgr1) (fun i hi e=>by have:=row_ge Hown.out e;omega));obtain⟨o1,c1,hv1⟩:=row_slice HF.out;subst hv1)
  go_ret
  exact⟨⟨_,rfl,HF.out⟩,HT.out⟩
theorem copied_any (t:Tbl) (ao:Option Addr) (c:Nat) (w:World) (h:SL w ao (ccl t.cols)) (hno:ao=none→t.cols=[]∧c=0) (hlen:t.cols.length*32≤140737488351232):
  Calls Tryz.prog 28 #[tA t.id t.ver t.nm (.slice ao t.cols.length c) t.key] w fun x w'=>(∃v,x= .returned (tA t.id t.ver t.nm v t.key)∧w'.ownsRow w.heap.size 43 3 v t.cols.length (ccl t.cols))∧Tch (fun _=>False) w w':=by
 obtain⟨N,hN⟩: ∃N,N=w.heap.size:=⟨_,rfl⟩
 obtain⟨w0,hw0⟩: ∃w0,w0=(w.alloc (.cells #[.int .i64 t.id,.int .i64 t.ver,.string t.nm,.slice ao t.cols.length c,.int .i64 t.key] 29)).alloc (.cells #[.int .i64 0,.int .i64 0,.string ⟨#[]⟩,.slice none 0 0,.int .i64 0] 29):=⟨_,rfl⟩
 have t0:Tch (fun _=>False) w w0:=by rw[hw0];exact(Tch.alloc _ _ _).allocR _
 have q1:=sclone_any t.cols ao c w0 (h.no t0) hno hlen
 have Hw0:Hid _:=hw0
 have HN:Hid (N=w.heap.size):=hN
 clear h hw0 hN
 go_enter Tryz.func28,Tryz.ntmps28
 go_wp2_with fail
 rw[←HN.out]
 have hw0:=Hw0.out
 rw[←hw0]
 clear hw0
 refine q1.mono ?_
 rintro x w1 ⟨⟨v,rfl,hv⟩,t1⟩
 clear q1
 obtain⟨vo,vc,hvv⟩:=row_slice hv
 subst hvv
 have hs0:w0.heap.size=N+2:=by rw[Hw0.out,World.size_alloc,World.size_alloc,HN.out]
 have hX:w1.heap[N]? =some (.cells #[.int .i64 t.id,.int .i64 t.ver,.string t.nm,.slice ao t.cols.length c,.int .i64 t.key] 29 (0,0)):=by
  rw[t1.block N (by omega) (fun h=>h),Hw0.out,HN.out]
  exact(Tch.alloc (fun _=>False) _ _).block _ (by simp) (fun h=>h)|>.trans (alloc_new _ _)
 have hY:w1.heap[N+1]? =some (.cells #[.int .i64 0,.int .i64 0,.string ⟨#[]⟩,.slice none 0 0,.int .i64 0] 29 (0,0)):=by
  rw[t1.block (N+1) (by omega) (fun h=>h),Hw0.out,HN.out, ←World.size_alloc];exact alloc_new _ _
 obtain⟨x0,x1,x2,x3,x4⟩:w1.cell? ⟨N,0,none⟩=some (.int .i64 t.id)∧w1.cell? ⟨N,1,none⟩=some (.int .i64 t.ver)∧w1.cell? ⟨N,2,none⟩=some (.string t.nm)∧w1.cell? ⟨N,3,none⟩=some (.slice ao t.cols.length c)∧w1.cell? ⟨N,4,none⟩=some (.int .i64 t.key):=⟨by rw[blk_cell hX];rfl,by rw[blk_cell hX];rfl,by rw[blk_cell hX];rfl,by rw[blk_cell hX];rfl,by rw[blk_cell hX];rfl⟩
 obtain⟨y0,y1,y2,y3,y4⟩:w1.cell? ⟨N+1,0,none⟩=some (.int .i64 0)∧w1.cell? ⟨N+1,1,none⟩=some (.int .i64 0)∧w1.cell? ⟨N+1,2,none⟩=some (.string ⟨#[]⟩)∧w1.cell? ⟨N+1,3,none⟩=some (.slice none 0 0)∧w1.cell? ⟨N+1,4,none⟩=some (.int .i64 0):=⟨by rw[blk_cell hY];rfl,by rw[blk_cell hY];rfl,by rw[blk_cell hY];rfl,by rw[blk_cell hY];rfl,by rw[blk_cell hY];rfl⟩
 have f3:=blk_frozen hX 3
 have g0:=blk_frozen hY 0;have g1:=blk_frozen hY 1;have g2:=blk_frozen hY 2;have g3:=blk_frozen hY 3;have g4:=blk_frozen hY 4
 have HV:Hid (∀W,Tch (fun i=>i=N∨i=N+1) w1 W→W.ownsRow w.heap.size 43 3 (.slice vo t.cols.length vc) t.cols.length (ccl t.cols)):=fun W tW=>own_low (own_tch hv tW (fun g e h=>by have:=row_ge hv e;omega)) t0.size
 have HT:Hid (∀W,Tch (fun i=>i=N∨i=N+1) w1 W→Tch (fun _=>False) w W):=fun W tW=>(t0.trans' t1).trans tW (fun i hi h=>by have:=HN.out;omega)
 clear hX hY hv hs0
 go_wp2_with fail
 have hrs:Tryz.f28.results=#[.cell 2 29]:=by kernel_rfl
 refine bodyPost_ret (v:=tA t.id t.ver t.nm (.slice vo t.cols.length vc) t.key) (by simp only[results,hrs];go_simp) rfl ⟨⟨.slice vo t.cols.length vc,rfl,HV.out _ ?_⟩,HT.out _ ?_⟩
 all_goals exact(((((Tch.setCell (fun i=>i=N∨i=N+1) w1 ⟨N,3,none⟩ _ (Or.inl rfl)).setCellR ⟨N+1,0,none⟩ _ (Or.inr rfl)).setCellR ⟨N+1,1,none⟩ _ (Or.inr rfl)).setCellR ⟨N+1,2,none⟩ _ (Or.inr rfl)).setCellR ⟨N+1,3,none⟩ _ (Or.inr rfl)).setCellR ⟨N+1,4,none⟩ _ (Or.inr rfl)
def tcs (p:Tbl×Value):List Value:=[.int .i64 p.1.id,.int .i64 p.1.ver,.string p.1.nm,p.2,.int .i64 p.1.key]
def tcl (l:List (Tbl×Value)):List Value:=l.flatMap tcs
theorem tcl_len: ∀l:List (Tbl×Value),(tcl l).length=l.length*5
 |[]=>rfl
 |a::l=>by
  have:=tcl_len l
  unfold tcl at this ⊢
  simp only[List.flatMap_cons,List.length_append,this,List.length_cons]
  simp[tcs];omega
theorem tcl_append (l m:List (Tbl×Value)):tcl (l++m)=tcl l++tcl m:=by simp[tcl]
theorem tcl_get: ∀(l:List (Tbl×Value)) (k j:Nat) (hk:k<l.length),j<5→(tcl l)[k*5+j]? =(tcs l[k])[j]?
 |[],k,j,hk,_=>by simp at hk
 |a::l,0,j,_,hj=>by
  unfold tcl
  rw[List.flatMap_cons,Nat.zero_mul,Nat.zero_add,List.getElem?_append_left (by simp[tcs];omega)];rfl
 |a::l,k+1,j,hk,hj=>by
  have:=tcl_get l k j (by simpa using hk) hj
  unfold tcl at this ⊢
  rw[List.flatMap_cons,List.getElem?_append_right (by simp[tcs];omega)]
  simp only[List.getElem_cons_succ]
  rw[←this]
  congr 1
  simp[tcs];omega
structure CK (W:World) (F:Nat→Prop) (p:Tbl×Value) (co:Option Addr) (cc:Nat):Prop where
 eq:p.2= .slice co p.1.cols.length cc
 sl:SL W co (ccl p.1.cols)
 no:co=none→p.1.cols=[]∧cc=0
 cap:p.1.cols.length≤cc
 nf:p.1.cols≠[]→ ∀g o,co=some ⟨g,o,none⟩→ ¬F g∧g<W.heap.size
structure TL (W:World) (F:Nat→Prop) (to:Option Addr) (P:List (Tbl×Value)):Prop where
 sl:SL W to (tcl P)
 nf:P≠[]→ ∀g o,to=some ⟨g,o,none⟩→ ¬F g
 col: ∀i (hi:i<P.length), ∃co cc,CK W F P[i] co cc
theorem CK.tch {S F:Nat→Prop} {W W':World} {p:Tbl×Value} {co:Option Addr} {cc:Nat} (h:CK W F p co cc) (t:Tch S W W') (hS: ∀i,i<W.heap.size→S i→F i):CK W' F p co cc:=
 ⟨h.eq,fun hc=>by
  obtain⟨g,o,e,ha⟩:=h.sl hc
  have hne:p.1.cols≠[]:=fun e0=>hc (by rw[e0];rfl)
  exact⟨g,o,e,ha.tch t (fun _ hs=>(h.nf hne g o e).1 (hS g (h.nf hne g o e).2 hs))⟩,h.no,h.cap,fun hne g o e=>⟨(h.nf hne g o e).1,Nat.lt_of_lt_of_le (h.nf hne g o e).2 t.size⟩⟩
theorem tcl_nil {P:List (Tbl×Value)} (h:P≠[]):tcl P≠[]:=fun e=>by
 have:=tcl_len P
 rw[e] at this
 have:=List.length_pos_iff.2 h
 simp at*;omega
theorem TL.tch {S F:Nat→Prop} {W W':World} {to:Option Addr} {P:List (Tbl×Value)} (h:TL W F to P) (t:Tch S W W') (hS: ∀i,i<W.heap.size→S i→F i):TL W' F to P:=by
 refine⟨fun hc=>?_,h.nf,fun i hi=>?_⟩
 ·obtain⟨g,o,e,ha⟩:=h.sl hc
  have hP:P≠[]:=by rintro rfl;exact hc rfl
  exact⟨g,o,e,ha.tch t (fun _ hs=>h.nf hP g o e (hS g (ha.lt hc) hs))⟩
 ·obtain⟨co,cc,hck⟩:=h.col i hi
  exact⟨co,cc,hck.tch t hS⟩
theorem TL.at {W:World} {F:Nat→Prop} {to:Option Addr} {P:List (Tbl×Value)} (h:TL W F to P) (k:Nat) (hk:k<P.length): ∃g o,to=some ⟨g,o,none⟩∧W.cell? ⟨g,o+k*5,none⟩=some (.int .i64 P[k].1.id)∧W.cell? ⟨g,o+k*5+1,none⟩=some (.int .i64 P[k].1.ver)∧W.cell? ⟨g,o+k*5+2,none⟩=some (.string P[k].1.nm)∧W.cell? ⟨g,o+k*5+3,none⟩=some P[k].2∧W.cell? ⟨g,o+k*5+4,none⟩=some (.int .i64 P[k].1.key):=by
 obtain⟨g,o,e,ha⟩:=h.sl (tcl_nil (by rintro rfl;simp at hk))
 have key: ∀j u,j<5→(tcs P[k])[j]? =some u→W.cell? ⟨g,o+k*5+j,none⟩=some u:=fun j u hj hu=>by
  have:=ha (k*5+j) u (by rw[tcl_get P k j hk hj];exact hu)
  rwa [←Nat.add_assoc] at this
 exact⟨g,o,e,key 0 _ (by omega) rfl,key 1 _ (by omega) rfl,key 2 _ (by omega) rfl,key 3 _ (by omega) rfl,key 4 _ (by omega) rfl⟩
def posP (f:Tbl→Bool):List (Tbl×Value)→Int
 |[]=> -1
 |p::l=>if f p.1 then 0 else if posP f l<0 then -1 else posP f l+1
theorem posP_none {f:Tbl→Bool} : ∀ {l:List (Tbl×Value)},(∀i (h:i<l.length),f l[i].1=false)→posP f l= -1
 |[],_=>rfl
 |p::l,h=>by
  have h0:=h 0 (by simp)
  have ih:=posP_none (f:=f) (l:=l) (fun i hi=>h (i+1) (by simpa using hi))
  simp only[List.getElem_cons_zero] at h0
  unfold posP
  rw[h0,ih];rfl
theorem posP_some {f:Tbl→Bool} : ∀ {l:List (Tbl×Value)} {k:Nat} (hk:k<l.length),f l[k].1=true→(∀i (h:i<l.length),i<k→f l[i].1=false)→posP f l=k
 |[],k,hk,_,_=>by simp at hk
 |p::l,0,_,h,_=>by
  simp only[List.getElem_cons_zero] at h
  unfold posP
  rw[h];rfl
 |p::l,k+1,hk,h,h2=>by
  have h0:=h2 0 (by simp) (by omega)
  simp only[List.getElem_cons_zero] at h0
  have ih:=posP_some (f:=f) (l:=l) (k:=k) (by simpa using hk) h (fun i hi hik=>h2 (i+1) (by simpa using hi) (by omega))
  unfold posP
  rw[h0,ih,if_neg (by simp),if_neg (by omega)]
  omega
theorem posP_cases (f:Tbl→Bool) (l:List (Tbl×Value)):(posP f l= -1∧ ∀i (h:i<l.length),f l[i].1=false)∨ ∃k, ∃(hk:k<l.length),posP f l=k∧f l[k].1=true∧ ∀i (h:i<l.length),i<k→f l[i].1=false:=by
 induction l with
 |nil=>exact Or.inl ⟨rfl,fun i h=>by simp at h⟩
 |cons p l ih=>
  cases hp:f p.1 with
  |true=>exact Or.inr ⟨0,by simp,posP_some (by simp) (by simpa using hp) (fun i h h2=>by omega),by simpa using hp,fun i h h2=>by omega⟩
  |false=>
   rcases ih with⟨_,h2⟩|⟨k,hk,_,h2,h3⟩
   ·have h4: ∀i (h:i<(p::l).length),f (p::l)[i].1=false:=fun i hi=>by
     rcases i with _|i
     ·simpa using hp
     ·simpa using h2 i (by simpa using hi)
    exact Or.inl ⟨posP_none h4,h4⟩
   ·have h4: ∀i (h:i<(p::l).length),i<k+1→f (p::l)[i].1=false:=fun i hi hik=>by
     rcases i with _|i
     ·simpa using hp
     ·simpa using h3 i (by simpa using hi) (by omega)
    exact Or.inr ⟨k+1,by simpa using hk,posP_some (by simpa using hk) (by simpa using h2) h4,by simpa using h2,h4⟩
theorem nm1_any (B:Nat) (nm:ByteArray) (t:Tbl) (v:Value) (w:World) (hB:w.cell? ⟨B,0,none⟩=some (.string nm)) (hv: ∃ao n c,v= .slice ao n c):
  Calls Tryz.prog 99 #[tA t.id t.ver t.nm v t.key,.pointer (some ⟨B,0,none⟩)] w fun x w'=>x= .returned (.bool (decide (t.nm=nm)))∧Tch (fun _=>False) w w':=by
 obtain⟨ao,n,c,rfl⟩:=hv
 have hlt:=cell_lt hB
 have hB1: ∀o,(w.alloc o).cell? ⟨B,0,none⟩=some (.string nm):=fun o=>by rw[World.cell?_alloc_lt _ _ _ hlt];exact hB
 by_cases h:t.nm=nm
 ·have hd:decide (t.nm=nm)=true:=by simp[h]
  rw[hd]
  subst h
  go_enter Tryz.func99,Tryz.ntmps99
  go_wp2
  go_ret
  exact⟨rfl,Tch.alloc _ _ _⟩
 ·have hd:decide (t.nm=nm)=false:=by simp[h]
  have hne:=str_ne h
  rw[hd]
  clear h hd
  go_enter Tryz.func99,Tryz.ntmps99
  go_wp2
  go_ret
  exact⟨rfl,Tch.alloc _ _ _⟩
theorem nm2_any (B:Nat) (nm:ByteArray) (to:Option Addr) (tc:Nat) (P:List (Tbl×Value)) (F:Nat→Prop) (w:World) (hB:w.cell? ⟨B,0,none⟩=some (.string nm)) (hT:TL w F to P) (hl:P.length≤16):
  Calls Tryz.prog 98 #[.slice to P.length tc,.func (.func 99) #[] #[.pointer (some ⟨B,0,none⟩)]] w fun x w'=>x= .returned (.int .i64 (posP (fun t=>decide (t.nm=nm)) P))∧Tch (fun _=>False) w w':=by
 have HT:Hid (∀W,Tch (fun _=>False) w W→TL W F to P∧W.cell? ⟨B,0,none⟩=some (.string nm)):=fun W tW=>⟨hT.tch tW (fun _ _ h=>h.elim),(tW.cell (p:=⟨B,0,none⟩) (cell_lt hB) (fun h=>h)).trans hB⟩
 have hlI:(P.length:Int)≤16:=by omega
 obtain⟨r,hr⟩: ∃r,r=posP (fun t=>decide (t.nm=nm)) P:=⟨_,rfl⟩
 have HR:Hid (r=posP (fun t=>decide (t.nm=nm)) P):=hr
 rw[←hr]
 clear hB hT hr
 go_enter Tryz.func98,Tryz.ntmps98
 go_wp2_with fail
 go_loopw [8] (fun i wr=> ∃k:Nat,i= .int .i64 k∧k≤P.length∧Tch (fun _=>False) w wr∧Hid (∀j (h:j<P.length),j<k→decide ((fun t:Tbl=>t.nm) P[j].1=nm)=false)) (fun i _=>P.length - (intOf i).toNat)
 case atStart=>exact⟨0,rfl,by omega,Tch.refl _ _,fun _ _ h=>by omega⟩
 case round=>
  obtain⟨k,rfl,hk,hT,HK⟩:=hrel
  by_cases hlt:(k:Int)<P.length
  ·have hkl:k<P.length:=by omega
   obtain⟨hTL,hBc⟩:=HT.out _ hT
   obtain⟨g,o,rfl,c0,c1,c2,c3,c4⟩:=hTL.at k hkl
   obtain⟨co,cc,hck⟩:=hTL.col k hkl
   obtain⟨p,hp⟩: ∃p,p=P[k]:=⟨_,rfl⟩
   rw[←hp] at c0 c1 c2 c3 c4 hck
   rw[hck.eq] at c3
   have q:=nm1_any B nm p.1 (.slice co p.1.cols.length cc) wr hBc ⟨_,_,_,rfl⟩
   have Hp:Hid (p=P[k]):=hp
   obtain⟨d,hd⟩: ∃d,d=decide (p.1.nm=nm):=⟨_,rfl⟩
   rw[←hd] at q
   have HD:Hid (d=decide (p.1.nm=nm)):=hd
   clear hTL hck hp hd
   cases d with
   |true=>
    have HE:Hid (r=k):=by
     show _=_
     rw[HR.out]
     exact posP_some hkl (by rw[←Hp.out];exact HD.out.symm) (fun i hi hik=>HK.out i hi hik)
    go_wp2_with (go_at_call 99;refine q.mono ?_;rintro y w1 ⟨rfl,t1⟩)
    go_ret
    exact⟨by rw[HE.out];rfl,hT.trans' t1⟩
   |false=>
    have HE:Hid (∀j (h:j<P.length),j<k+1→decide ((fun t:Tbl=>t.nm) P[j].1=nm)=false):=fun j hj hjk=>by
     rcases Nat.lt_or_ge j k with h1|h1
     ·exact HK.out j hj h1
     ·obtain rfl:j=k:=by omega
      rw[←Hp.out];exact HD.out.symm
    go_wp2_with (go_at_call 99;refine q.mono ?_;rintro y w1 ⟨rfl,t1⟩)
    go_roundw
    case rel=>exact⟨k+1,by go_num,by omega,hT.trans' t1,HE⟩
    case measure=>simp[intOf];omega
  ·have HE:Hid (r= -1):=by
    show _=_
    rw[HR.out]
    exact posP_none (fun i hi=>HK.out i hi (by omega))
   go_wp2_with fail
   go_ret
   exact⟨by rw[HE.out];rfl,hT⟩
theorem nm3_any (b:Nat) (to:Option Addr) (tc:Nat) (P:List (Tbl×Value)) (F:Nat→Prop) (nm:ByteArray) (w:World) (hb:w.cell? ⟨b,0,none⟩=some (.slice to P.length tc)) (hT:TL w F to P) (hl:P.length≤16):
  Calls Tryz.prog 60 #[.pointer (some ⟨b,0,none⟩),.string nm] w fun x w'=>x= .returned (.int .i64 (posP (fun t=>decide (t.nm=nm)) P))∧Tch (fun _=>False) w w':=by
 have hlt:=cell_lt hb
 have hb1: ∀o,(w.alloc o).cell? ⟨b,0,none⟩=some (.slice to P.length tc):=fun o=>by rw[World.cell?_alloc_lt _ _ _ hlt];exact hb
 have q:=nm2_any w.heap.size nm to tc P F (w.alloc (.cells #[.string nm] 9)) (by simp) (hT.tch (Tch.alloc (fun _=>False) _ _) (fun _ _ h=>h.elim)) hl
 clear hT hb
 go_enter Tryz.func60,Tryz.ntmps60
 go_wp2_with (go_at_call 98;refine q.mono ?_;rintro y w1 ⟨rfl,t1⟩)
 go_ret
 exact⟨rfl,(Tch.alloc _ _ _).trans' t1⟩
end Go.Proofs.YtaiadknglhemaaaGreatDoor.C
