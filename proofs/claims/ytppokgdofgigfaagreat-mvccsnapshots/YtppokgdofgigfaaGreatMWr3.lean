import Derived.Test.YtppokgdofgigfaaGreatFS0
import Derived.Test.YtppokgdofgigfaaGreatMIns
import Derived.Test.YtppokgdofgigfaaGreatMGet
set_option maxHeartbeats 4000000
set_option maxRecDepth 100000
namespace Go.Proofs.YtppokgdofgigfaaGreat.F
open Go.RowKit Go Go.Sort
set_option maxRecDepth 100000
def isW (s:Se) (κ:Nat) (w:Wt):Bool:=stdI s w.pt && decide (w.key=κ)
theorem wroteS_any (s:Se) (κ:Nat):wroteS s κ=s.ws.any (isW s κ):=by
 unfold wroteS own
 show(!(s.ws.filter (isW s κ)).isEmpty)=_
 induction s.ws with
 |nil=>rfl
 |cons w l ih=>
  rw[List.filter_cons,List.any_cons]
  cases isW s κ w with
  |true=>rfl
  |false=>simpa using ih
def foldS (s:Se) (κ k:Nat):Nat:=match ((s.ws.take k).filter (isW s κ)).getLast? with
 |some w=>if w.gone then 0 else w.n+1
 |none=>s.base.getD κ 0
theorem foldS_all (s:Se) (κ:Nat):foldS s κ s.ws.length=seesS s κ:=by
 unfold foldS seesS ownV own
 rw[List.take_length,List.getLast?_map]
 show(match (s.ws.filter (isW s κ)).getLast? with|some w=>_|none=>_)=match Option.map (vnW s) (s.ws.filter (isW s κ)).getLast? with|some v=>_|none=>_
 cases (s.ws.filter (isW s κ)).getLast? <;>rfl
theorem foldS_zero (s:Se) (κ:Nat):foldS s κ 0=s.base.getD κ 0:=rfl
theorem foldS_succ (s:Se) (κ:Nat) {k:Nat} {w:Wt} (h:s.ws[k]? =some w):foldS s κ (k+1)=if isW s κ w then(if w.gone then 0 else w.n+1) else foldS s κ k:=by
 unfold foldS
 have hk:=(List.getElem?_eq_some_iff.1 h).1
 have e:s.ws.take (k+1)=s.ws.take k++[w]:=by
  rw[List.take_add_one,h];rfl
 rw[e,List.filter_append]
 cases hw:isW s κ w with
 |true=>
  have:[w].filter (isW s κ)=[w]:=by simp[hw]
  rw[this,List.getLast?_append];rfl
 |false=>
  have:[w].filter (isW s κ)=[]:=by simp[hw]
  rw[this,List.append_nil];rfl
theorem foldS_le (s:Se) (κ:Nat) (hb:s.base.getD κ 0≤1000) (hw: ∀v∈s.ws,v.n<1000) (k:Nat):foldS s κ k≤1000:=by
 unfold foldS
 cases h:((s.ws.take k).filter (isW s κ)).getLast? with
 |none=>exact hb
 |some w=>
  have:=hw w (List.mem_of_mem_take (List.mem_filter.1 (List.mem_of_getLast? h)).1)
  simp only
  split<;>omega
theorem wrote_any (w:World) (b off:Nat) (s:Se) (a:Sx) (h:SR w b off s a) (κ:Nat):
  Calls Tryz.prog 41 #[.pointer (some ⟨b,off,none⟩),.int .i64 κ] w fun x w'=>x= .returned (.bool (wroteS s κ))∧Tch (fun _=>False) w w':=by
 rw[wroteS_any]
 obtain⟨n,hn⟩: ∃n,n=s.ws.length:=⟨_,rfl⟩
 have hn8:n≤1000:=by rw[hn];exact h.wl
 have HB:Hid (∀W,Tch (fun _=>False) w W→SR W b off s a∧W.cell? ⟨b,off+14,none⟩=some (.slice a.wo n a.wc)):=fun W t=>⟨h.no t,by rw[hn];exact(h.no t).c 14 _ rfl⟩
 have Hn:Hid (n=s.ws.length):=hn
 obtain⟨out,hout⟩: ∃out,out=s.ws.any (isW s κ):=⟨_,rfl⟩
 rw[←hout]
 have HO:Hid (out=s.ws.any (isW s κ)):=hout
 clear h hn hout
 go_enter Tryz.func41,Tryz.ntmps41
 go_wp2_with fail
 go_loopw [5] (fun i wr=> ∃k:Nat,i= .int .i64 k∧k≤n∧Hid (Tch (fun _=>False) w wr)∧Hid ((s.ws.take k).any (isW s κ)=false)) (fun i _=>n - (intOf i).toNat)
 case atStart=>exact⟨0,rfl,by omega,Tch.refl _ _,by show(s.ws.take 0).any _=false;simp⟩
 case round=>
  obtain⟨k,rfl,hk,HT,HP⟩:=hrel
  obtain⟨wV,hwV⟩: ∃wV,wV=wr:=⟨_,rfl⟩
  subst hwV
  obtain⟨hR,c14⟩:=HB.out wV HT.out
  by_cases hlt:(k:Int)<n
  ·have hkl:k<s.ws.length:=by have:=Hn.out;omega
   obtain⟨v,hv⟩: ∃v,s.ws[k]? =some v:=⟨_,List.getElem?_eq_getElem hkl⟩
   obtain⟨g,e,k0,k1,k2,k3⟩:=hR.write hv
   have hm:=hR.wr v (List.mem_of_getElem? hv)
   have q:=standing_any wV b off s a hR v hm.1 hm.2.1
   rw[e] at c14
   have hkey:=hm.2.2.1
   have HV:Hid (s.ws[k]? =some v):=hv
   have HE:Hid (a.wo=some ⟨g,0,none⟩):=e
   have HR:Hid _:=hR
   obtain⟨d,hd⟩: ∃d,d=stdI s v.pt:=⟨_,rfl⟩
   rw[←hd] at q
   have Hd:Hid (d=stdI s v.pt):=hd
   clear hv e hR hm hd hkl
   go_wp2_with fail
   refine q.mono ?_
   rintro x w1 ⟨rfl,t1⟩
   have HT1:Hid (Tch (fun _=>False) w w1):=HT.out.trans' t1
   obtain⟨hR1,c14'⟩:=HB.out w1 HT1.out
   obtain⟨g',e',_,k1',_,_⟩:=hR1.write HV.out
   rw[HE.out] at e'
   injection e' with e';injection e' with e' _
   subst e'
   rw[HE.out] at c14'
   clear q t1 k0 k1 k2 k3 c14 hR1 HR
   by_cases hc:d=true∧v.key=κ
   ·obtain⟨rfl,hvk⟩:=hc
    have hvk':(v.key:Int)=(κ:Int):=by omega
    have HF:Hid (out=true):=by
     show _=_
     rw[HO.out,List.any_eq_true]
     refine⟨v,List.mem_of_getElem? HV.out,?_⟩
     unfold isW
     rw[←Hd.out,hvk];simp
    rw[hvk'] at k1'
    clear hvk' hvk
    go_wp2_with fail
    go_ret
    exact⟨by rw[HF.out];rfl,HT1.out⟩
   ·have HF:Hid ((s.ws.take (k+1)).any (isW s κ)=false):=by
     show _=_
     rw[List.take_add_one,HV.out,List.any_append,HP.out]
     show((false:Bool)||[v].any (isW s κ))=false
     simp only[List.any_cons,List.any_nil,Bool.or_false,Bool.false_or]
     unfold isW
     rw[←Hd.out]
     cases d with
     |false=>rfl
     |true=>simp only[Bool.true_and,decide_eq_false_iff_not];exact fun e=>hc ⟨rfl,e⟩
    cases d with
    |false=>
     clear hc
     go_wp2_with fail
     go_roundw
     case rel=>exact⟨k+1,by go_num,by omega,HT1,HF⟩
     case measure=>simp[intOf];omega
    |true=>
     have hne: ¬(v.key:Int)=(κ:Int):=fun e=>hc ⟨rfl,by omega⟩
     have hnb:((v.key:Int)==(κ:Int))=false:=by simpa using hne
     clear hc
     go_wp2_with fail
     go_roundw
     case rel=>exact⟨k+1,by go_num,by omega,HT1,HF⟩
     case measure=>simp[intOf];omega
  ·have HF:Hid (out=false):=by
    show _=_
    have:k=s.ws.length:=by have:=Hn.out;omega
    rw[HO.out, ←HP.out,this,List.take_length]
   go_wp2_with fail
   go_ret
   exact⟨by rw[HF.out];rfl,HT.out⟩
theorem SR.baseC {w:World} {b off:Nat} {s:Se} {a:Sx} (h:SR w b off s a) {κ:Nat} (hκ:κ<6):w.cell? ⟨b,off+6+κ,none⟩=some (.int .i64 (s.base.getD κ 0)):=by
 rw[Nat.add_assoc]
 refine h.c (6+κ) _ ?_
 rcases(by omega:κ=0∨κ=1∨κ=2∨κ=3∨κ=4∨κ=5) with rfl|rfl|rfl|rfl|rfl|rfl<;>rfl
theorem sees_any (w:World) (b off:Nat) (s:Se) (a:Sx) (h:SR w b off s a) (κ:Nat) (hκ:κ<6) (hbs:s.base.getD κ 0≤1000):
  Calls Tryz.prog 42 #[.pointer (some ⟨b,off,none⟩),.int .i64 κ] w fun x w'=>x= .returned (.int .i64 (seesS s κ))∧Tch (fun _=>False) w w':=by
 obtain⟨n,hn⟩: ∃n,n=s.ws.length:=⟨_,rfl⟩
 have hn8:n≤1000:=by rw[hn];exact h.wl
 have HB:Hid (∀W,Tch (fun _=>False) w W→SR W b off s a∧W.cell? ⟨b,off+14,none⟩=some (.slice a.wo n a.wc)):=fun W t=>⟨h.no t,by rw[hn];exact(h.no t).c 14 _ rfl⟩
 have Hn:Hid (n=s.ws.length):=hn
 have hle:=foldS_le s κ hbs (fun v hv=>(h.wr v hv).2.2.2)
 have HLe:Hid _:=hle
 have cb:=h.baseC hκ
 obtain⟨o6,ho6⟩: ∃o6,o6=off+6+κ:=⟨_,rfl⟩
 obtain⟨ba,hba⟩: ∃ba,ba=s.base.getD κ 0:=⟨_,rfl⟩
 have HBa:Hid (ba=s.base.getD κ 0):=hba
 rw[←hba] at cb
 rw[←foldS_all, ←hn]
 clear h hn hle hba hbs ho6 o6
 go_enter Tryz.func42,Tryz.ntmps42
 go_wp2_with fail
 clear cb
 go_loopw [5,6] (fun v i wr=> ∃k:Nat,i= .int .i64 k∧v= .int .i64 (foldS s κ k)∧k≤n∧Hid (Tch (fun _=>False) w wr)) (fun _ i _=>n - (intOf i).toNat)
 case atStart=>exact⟨0,rfl,by rw[foldS_zero,HBa.out],by omega,Tch.refl _ _⟩
 case round=>
  obtain⟨k,rfl,rfl,hk,HT⟩:=hrel
  obtain⟨wV,hwV⟩: ∃wV,wV=wr:=⟨_,rfl⟩
  subst hwV
  obtain⟨hR,c14⟩:=HB.out wV HT.out
  by_cases hlt:(k:Int)<n
  ·have hkl:k<s.ws.length:=by have:=Hn.out;omega
   obtain⟨v,hv⟩: ∃v,s.ws[k]? =some v:=⟨_,List.getElem?_eq_getElem hkl⟩
   obtain⟨g,e,k0,k1,k2,k3⟩:=hR.write hv
   have hm:=hR.wr v (List.mem_of_getElem? hv)
   have q:=standing_any wV b off s a hR v hm.1 hm.2.1
   rw[e] at c14
   have hvn:=hm.2.2.2
   have HV:Hid (s.ws[k]? =some v):=hv
   have HE:Hid (a.wo=some ⟨g,0,none⟩):=e
   obtain⟨d,hd⟩: ∃d,d=stdI s v.pt:=⟨_,rfl⟩
   rw[←hd] at q
   have HSu:Hid (foldS s κ (k+1)=if (d && decide (v.key=κ)) then(if v.gone then 0 else v.n+1) else foldS s κ k):=by
    show _=_
    rw[foldS_succ s κ hv,hd];rfl
   obtain⟨f0,hf0⟩: ∃f0,f0=foldS s κ k:=⟨_,rfl⟩
   rw[←hf0] at HSu ⊢
   clear hv e hR hm hd hkl hf0
   go_wp2_with fail
   refine q.mono ?_
   rintro x w1 ⟨rfl,t1⟩
   have HT1:Hid (Tch (fun _=>False) w w1):=HT.out.trans' t1
   obtain⟨hR1,c14'⟩:=HB.out w1 HT1.out
   obtain⟨g',e',_,k1',k2',k3'⟩:=hR1.write HV.out
   rw[HE.out] at e'
   injection e' with e';injection e' with e' _
   subst e'
   rw[HE.out] at c14'
   clear q t1 k0 k1 k2 k3 c14 hR1
   by_cases hc:d=true∧v.key=κ
   ·obtain⟨rfl,hvk⟩:=hc
    have hvk':(v.key:Int)=(κ:Int):=by omega
    rw[hvk'] at k1'
    have hSu:=HSu.out
    simp only[hvk,decide_true,Bool.and_self,if_true] at hSu
    have HSu2:Hid (foldS s κ (k+1)=if v.gone=true then 0 else v.n+1):=hSu
    clear hvk' hvk hSu HSu
    cases hgo:v.gone with
    |true=>
     rw[hgo] at k2'
     have HS3:Hid (foldS s κ (k+1)=0):=by show _=_;rw[HSu2.out,hgo];rfl
     clear hgo HSu2
     go_wp2_with fail
     go_roundw
     case rel=>exact⟨k+1,by go_num,by rw[HS3.out];rfl,by omega,HT1⟩
     case measure=>simp[intOf];omega
    |false=>
     rw[hgo] at k2'
     have HS3:Hid (foldS s κ (k+1)=v.n+1):=by show _=_;rw[HSu2.out,hgo];rfl
     clear hgo HSu2
     go_wp2_with fail
     go_roundw
     case rel=>exact⟨k+1,by go_num,by rw[HS3.out];go_num,by omega,HT1⟩
     case measure=>simp[intOf];omega
   ·have HF:Hid (foldS s κ (k+1)=f0):=by
     show _=_
     rw[HSu.out]
     cases d with
     |false=>rfl
     |true=>
      have: ¬v.key=κ:=fun e=>hc ⟨rfl,e⟩
      simp[this]
    cases d with
    |false=>
     clear hc
     go_wp2_with fail
     go_roundw
     case rel=>exact⟨k+1,by go_num,by rw[HF.out],by omega,HT1⟩
     case measure=>simp[intOf];omega
    |true=>
     have hne: ¬(v.key:Int)=(κ:Int):=fun e=>hc ⟨rfl,by omega⟩
     have hnb:((v.key:Int)==(κ:Int))=false:=by simpa using hne
     clear hc
     go_wp2_with fail
     go_roundw
     case rel=>exact⟨k+1,by go_num,by rw[HF.out],by omega,HT1⟩
     case measure=>simp[intOf];omega
  ·have hkn:k=n:=by omega
   subst hkn
   clear hlt
   have hlt: ¬(k:Int)<k:=by omega
   go_wp2_with fail
   go_ret
   exact⟨rfl,HT.out⟩
set_option maxRecDepth 100000
def innI (ps:List Pr):Nat→Int
 |0=> -1
 |k+1=>match ps[k]? with
  |some p=>if p.live && !p.bk then(k:Int) else innI ps k
  |none=>innI ps k
def innS (s:Se):Int:=innI s.ps s.ps.length
theorem innI_rng (ps:List Pr): ∀k:Nat, -1≤innI ps k∧innI ps k<k
 |0=>by show(-1:Int)≤ -1∧(-1:Int)<((0:Nat):Int);omega
 |k+1=>by
  have:=innI_rng ps k
  unfold innI
  split
  ·split<;>omega
  ·omega
theorem innI_live (ps:List Pr): ∀k,innI ps k= -1∨ ∃(i:Nat) (p:Pr),innI ps k=i∧ps[i]? =some p∧p.live=true∧p.bk=false
 |0=>Or.inl rfl
 |k+1=>by
  unfold innI
  split
  ·rename_i p hp
   split
   ·rename_i h
    simp only[Bool.and_eq_true,Bool.not_eq_true'] at h
    exact Or.inr ⟨k,p,rfl,hp,h.1,h.2⟩
   ·exact innI_live ps k
  ·exact innI_live ps k
theorem inner_any (w:World) (b off:Nat) (s:Se) (a:Sx) (h:SR w b off s a):
  Calls Tryz.prog 66 #[.pointer (some ⟨b,off,none⟩)] w fun x w'=>x= .returned (.int .i64 (innS s))∧Tch (fun _=>False) w w':=by
 obtain⟨n,hn⟩: ∃n,n=s.ps.length:=⟨_,rfl⟩
 have hn8:n≤1000:=by rw[hn];exact h.pl
 have HB:Hid (∀W,Tch (fun _=>False) w W→SR W b off s a∧W.cell? ⟨b,off+13,none⟩=some (.slice a.po n a.pc)):=fun W t=>⟨h.no t,by rw[hn];exact(h.no t).c 13 _ rfl⟩
 have Hn:Hid (n=s.ps.length):=hn
 obtain⟨out,hout⟩: ∃out,out=innS s:=⟨_,rfl⟩
 rw[←hout]
 have HO:Hid (out=innI s.ps n):=by show _=_;rw[hout,hn];rfl
 have c13:=(HB.out w (Tch.refl _ _)).2
 clear h hn hout
 go_enter Tryz.func66,Tryz.ntmps66
 go_wp2_with fail
 clear c13
 go_loopw [3] (fun i wr=> ∃k:Nat,i= .int .i64 ((k:Int) - 1)∧k≤n∧Hid (Tch (fun _=>False) w wr)∧Hid (out=innI s.ps k)) (fun i _=>(intOf i+1).toNat)
 case atStart=>exact⟨n,rfl,by omega,Tch.refl _ _,HO⟩
 case round=>
  obtain⟨k,rfl,hk,HT,HP⟩:=hrel
  obtain⟨wV,hwV⟩: ∃wV,wV=wr:=⟨_,rfl⟩
  subst hwV
  obtain⟨hR,c13⟩:=HB.out wV HT.out
  cases k with
  |zero=>
   have HF:Hid (out= -1):=by show _=_;rw[HP.out];rfl
   go_wp2_with fail
   go_ret
   exact⟨by rw[HF.out];rfl,HT.out⟩
  |succ j=>
   have hjl:j<s.ps.length:=by have:=Hn.out;omega
   obtain⟨p,hp⟩: ∃p,s.ps[j]? =some p:=⟨_,List.getElem?_eq_getElem hjl⟩
   obtain⟨g,e,k0,k1,k2,k3⟩:=hR.part hp
   rw[e] at c13
   have e1:((j+1:Nat):Int) - 1=(j:Int):=by omega
   rw[e1]
   have hj0:(0:Int)≤(j:Int):=by omega
   have hjn:j<n:=by omega
   have HS:Hid (innI s.ps (j+1)=if p.live && !p.bk then(j:Int) else innI s.ps j):=by
    show _=_
    simp only[innI,hp]
   generalize p.live=lv at*
   generalize p.bk=bk at*
   clear hp e hR hjl k0 k1 e1
   cases lv with
   |true=>
    cases bk with
    |false=>
     have HF:Hid (out=(j:Int)):=by show _=_;rw[HP.out,HS.out];rfl
     go_wp2_with fail
     go_ret
     exact⟨by rw[HF.out];rfl,HT.out⟩
    |true=>
     have HF:Hid (out=innI s.ps j):=by show _=_;rw[HP.out,HS.out];rfl
     go_wp2_with fail
     go_roundw
     case rel=>exact⟨j,rfl,by omega,HT,HF⟩
     case measure=>(simp[intOf]<;>omega)
   |false=>
    have HF:Hid (out=innI s.ps j):=by show _=_;rw[HP.out,HS.out];rfl
    go_wp2_with fail
    go_roundw
    case rel=>exact⟨j,rfl,by omega,HT,HF⟩
    case measure=>(simp[intOf]<;>omega)
theorem writer_any (w:World) (b off:Nat) (s:Se) (a:Sx) (h:SR w b off s a):
  Calls Tryz.prog 43 #[.pointer (some ⟨b,off,none⟩)] w fun x w'=>x= .returned (.tuple #[.int .i64 (wrN s (innS s)),.int .i64 (innS s)])∧Tch (fun _=>False) w w':=by
 have q:=inner_any w b off s a h
 have c2: ∀W,Tch (fun _=>False) w W→W.cell? ⟨b,off+2,none⟩=some (.int .i64 s.x):=fun W t=>(h.no t).c 2 _ rfl
 have c13: ∀W,Tch (fun _=>False) w W→W.cell? ⟨b,off+13,none⟩=some (.slice a.po s.ps.length a.pc):=fun W t=>(h.no t).c 13 _ rfl
 have HC2:Hid _:=c2
 rcases innI_live s.ps s.ps.length with e|⟨i,p,e,hp,_,_⟩
 ·have e':innS s= -1:=e
  have e2:wrN s (-1)=s.x:=rfl
  rw[e'] at q ⊢
  rw[e2]
  clear e e' e2 h c2 c13
  go_enter Tryz.func43,Tryz.ntmps43
  go_wp2_with fail
  refine q.mono ?_
  rintro x w1 ⟨rfl,t1⟩
  have d2:=HC2.out w1 t1
  have HT1:Hid (Tch (fun _=>False) w w1):=t1
  clear q t1
  go_wp2_with fail
  go_ret2
  exact⟨rfl,HT1.out⟩
 ·have e':innS s=(i:Int):=e
  have hi:=(List.getElem?_eq_some_iff.1 hp).1
  have e2:wrN s (i:Int)=p.x:=by
   unfold wrN
   rw[if_pos (by omega)]
   simp only[Int.toNat_natCast,hp]
  have hpl:=h.pl
  obtain⟨g,e3,_,_,_,_⟩:=h.part hp
  have HK:Hid (∀W,Tch (fun _=>False) w W→W.cell? ⟨g,i*4,none⟩=some (.int .i64 p.x)):=fun W t=>by
   obtain⟨g',e4,k0,_⟩:=(h.no t).part hp
   rw[e3] at e4;injection e4 with e4;injection e4 with e4 _
   subst e4;exact k0
  rw[e'] at q ⊢
  rw[e2]
  obtain⟨ln,hln⟩: ∃ln,ln=s.ps.length:=⟨_,rfl⟩
  rw[←hln] at hi hpl
  have HC13:Hid (∀W,Tch (fun _=>False) w W→W.cell? ⟨b,off+13,none⟩=some (.slice (some ⟨g,0,none⟩) ln a.pc)):=fun W t=>by rw[c13 W t,e3,hln]
  have hi0: ¬(i:Int)<0:=by omega
  clear e e' e2 h e3 hp hln c2 c13 HC2
  go_enter Tryz.func43,Tryz.ntmps43
  go_wp2_with fail
  refine q.mono ?_
  rintro x w1 ⟨rfl,t1⟩
  have d13:=HC13.out w1 t1
  have k0:=HK.out w1 t1
  have HT1:Hid (Tch (fun _=>False) w w1):=t1
  clear q t1
  go_wp2_with fail
  go_ret2
  exact⟨rfl,HT1.out⟩
theorem wi_fuel (ps:List Pt) (o:Int) (ho:0≤o) (hp: ∀(i:Nat) p,ps[i]? =some p→p.ar<i): ∀(f g:Nat) (a:Int),a≤f→a≤g→within ps o f a=within ps o g a
 |0,0,a,_,_=>rfl
 |0,g+1,a,hf,_=>by
  show(a==o)=if a>o then _ else a==o
  rw[if_neg (by omega)]
 |f+1,0,a,_,hg=>by
  show(if a>o then _ else a==o)=(a==o)
  rw[if_neg (by omega)]
 |f+1,g+1,a,hf,hg=>by
  show(if a>o then within ps o f _ else a==o)=if a>o then within ps o g _ else a==o
  by_cases h:a>o
  ·rw[if_pos h,if_pos h]
   have key: ∀pa:Int,pa<a→within ps o f pa=within ps o g pa:=fun pa hpa=>wi_fuel ps o ho hp f g pa (by omega) (by omega)
   refine key _ ?_
   split
   ·rename_i p e
    have:=hp _ p e
    omega
   ·omega
  ·rw[if_neg h,if_neg h]
theorem wi_step (ps:List Pt) (o:Int) (ho:0≤o) (hp: ∀(i:Nat) p,ps[i]? =some p→p.ar<i) {n i:Nat} {p:Pt} (hi:ps[i]? =some p) (hn:i<n) (hlt:o<i):within ps o n i=within ps o n p.ar:=by
 cases n with
 |zero=>omega
 |succ n=>
  have e:within ps o (n+1) (i:Int)=within ps o n p.ar:=by
   show(if (i:Int)>o then _ else _)=_
   rw[if_pos (by omega)]
   simp only[Int.toNat_natCast,hi]
  rw[e]
  have:=hp i p hi
  exact wi_fuel ps o ho hp n (n+1) p.ar (by omega) (by omega)
theorem wi_low (ps:List Pt) (o:Int) (n:Nat) {a:Int} (h:a≤o):within ps o n a=(a==o):=by
 cases n with
 |zero=>rfl
 |succ n=>
  show(if a>o then _ else a==o)=_
  rw[if_neg (by omega)]
theorem within_any (w:World) (b off:Nat) (s:Se) (a:Sx) (h:SR w b off s a) (i k:Nat) (hi:i<s.ps.length):
  Calls Tryz.prog 47 #[.pointer (some ⟨b,off,none⟩),.int .i64 i,.int .i64 k] w fun x w'=>x= .returned (.bool (within (s.ps.map ptOf) k s.ps.length i))∧Tch (fun _=>False) w w':=by
 obtain⟨n,hn⟩: ∃n,n=s.ps.length:=⟨_,rfl⟩
 have hn8:n≤1000:=by rw[hn];exact h.pl
 have hpr: ∀(i:Nat) p,(s.ps.map ptOf)[i]? =some p→p.ar<i:=fun i p e=>by
  rw[List.getElem?_map] at e
  cases e2:s.ps[i]? with
  |none=>rw[e2] at e;cases e
  |some v=>
   rw[e2] at e;injection e with e;subst e
   exact(h.pr i v e2).2.1
 have HP:Hid _:=hpr
 have HB:Hid (∀W,Tch (fun _=>False) w W→SR W b off s a∧W.cell? ⟨b,off+13,none⟩=some (.slice a.po n a.pc)):=fun W t=>⟨h.no t,by rw[hn];exact(h.no t).c 13 _ rfl⟩
 have Hn:Hid (n=s.ps.length):=hn
 rw[←hn] at hi ⊢
 obtain⟨out,hout⟩: ∃out,out=within (s.ps.map ptOf) k n i:=⟨_,rfl⟩
 rw[←hout]
 have HO:Hid (out=within (s.ps.map ptOf) k n i):=hout
 clear h hn hout hpr
 go_enter Tryz.func47,Tryz.ntmps47
 go_wp2_with fail
 go_loopw [1] (fun x wr=> ∃c:Int,x= .int .i64 c∧ -1≤c∧c<n∧Hid (Tch (fun _=>False) w wr)∧Hid (out=within (s.ps.map ptOf) k n c)) (fun x _=>(intOf x+1).toNat)
 case atStart=>exact⟨i,rfl,by omega,by omega,Tch.refl _ _,HO⟩
 case round=>
  obtain⟨c,rfl,h1,h2,HT,HW⟩:=hrel
  obtain⟨wV,hwV⟩: ∃wV,wV=wr:=⟨_,rfl⟩
  subst hwV
  obtain⟨hR,c13⟩:=HB.out wV HT.out
  by_cases h0:0≤c
  ·obtain⟨j,rfl⟩: ∃j:Nat,c=j:=⟨c.toNat,by omega⟩
   by_cases hk:j=k
   ·subst hk
    have HF:Hid (out=true):=by
     show _=_
     rw[HW.out,wi_low _ _ _ (Int.le_refl _)];simp
    have hb1:((j:Int)==(j:Int))=true:=by simp
    go_wp2_with fail
    go_ret
    exact⟨by rw[HF.out];rfl,HT.out⟩
   ·have hjl:j<s.ps.length:=by have:=Hn.out;omega
    obtain⟨p,hp⟩: ∃p,s.ps[j]? =some p:=⟨_,List.getElem?_eq_getElem hjl⟩
    obtain⟨g,e,k0,k1,k2,k3⟩:=hR.part hp
    have hpar:=hR.pr j p hp
    rw[e] at c13
    have hne: ¬(j:Int)=(k:Int):=by omega
    have hnb:((j:Int)==(k:Int))=false:=by simpa using hne
    have hjn:j<n:=by omega
    have HF:Hid (out=within (s.ps.map ptOf) k n p.par):=by
     show _=_
     rw[HW.out]
     have hpm:(s.ps.map ptOf)[j]? =some (ptOf p):=by rw[List.getElem?_map,hp];rfl
     rcases Nat.lt_or_gt_of_ne hk with hl|hl
     ·rw[wi_low _ _ _ (show((j:Nat):Int)≤(k:Int) by omega),wi_low _ _ _ (show p.par≤(k:Int) by omega)]
      have:(p.par==(k:Int))=false:=by
       have: ¬p.par=(k:Int):=by omega
       simpa using this
      rw[hnb,this]
     ·exact wi_step _ _ (by omega) HP.out hpm hjn (by omega)
    clear hp e hR hjl k0 k2 k3
    obtain⟨pp,hpp⟩: ∃pp,pp=p.par:=⟨_,rfl⟩
    rw[←hpp] at k1 HF hpar
    clear hpp
    go_wp2_with fail
    go_roundw
    case rel=>exact⟨pp,rfl,by omega,by omega,HT,HF⟩
    case measure=>(simp[intOf]<;>omega)
  ·have hc:c= -1:=by omega
   subst hc
   have HF:Hid (out=false):=by
    show _=_
    rw[HW.out,wi_low _ _ _ (by omega)]
    have: ¬(-1:Int)=(k:Int):=by omega
    simp[this]
   have hnb:((-1:Int)==(k:Int))=false:=by
    have: ¬(-1:Int)=(k:Int):=by omega
    simp[this]
   go_wp2_with fail
   go_ret
   exact⟨by rw[HF.out];rfl,HT.out⟩
set_option maxRecDepth 100000
structure MoR (w:World) (qb mb hb:Nat) (q:Mo) (A:Nat→Sx):Prop where
 lt:qb<w.heap.size
 cm:w.cell? ⟨qb,0,none⟩=some (.pointer (some ⟨mb,0,none⟩))
 ch:w.cell? ⟨qb,1,none⟩=some (.pointer (some ⟨hb,0,none⟩))
 ln:q.l.length=5
 se: ∀(k:Nat) (s:Se),q.l[k]? =some s→SR w qb (2+k*15) s (A k)
 now: ∀κ,κ<6→w.cell? ⟨qb,77+κ,none⟩=some (.int .i64 (q.now.getD κ 0))
 wn: ∀κ,κ<6→w.cell? ⟨qb,83+κ,none⟩=some (.int .i64 (q.wn.getD κ 0))
 n:w.cell? ⟨qb,89,none⟩=some (.int .i64 q.n)
theorem MoR.no {w w':World} {qb mb hb:Nat} {q:Mo} {A:Nat→Sx} (h:MoR w qb mb hb q A) (t:Tch (fun _=>False) w w'):MoR w' qb mb hb q A:=by
 have e: ∀j,w'.cell? ⟨qb,j,none⟩=w.cell? ⟨qb,j,none⟩:=fun j=>t.cell (p:=⟨qb,j,none⟩) h.lt (fun e=>e)
 exact⟨Nat.lt_of_lt_of_le h.lt t.size,by rw[e];exact h.cm,by rw[e];exact h.ch,h.ln,fun k s hs=>(h.se k s hs).no t,fun κ hκ=>by rw[e];exact h.now κ hκ,fun κ hκ=>by rw[e];exact h.wn κ hκ,by rw[e];exact h.n⟩
def othW (q:Mo) (k κ i:Nat):Bool:=decide (i≠k) && (match q.l[i]? with
 |some s=>s.op && wroteS s κ
 |none=>false)
def confB (q:Mo) (k:Nat) (s:Se) (κ:Nat):Bool:=(List.range 5).any (othW q k κ)||decide (s.wh<q.wn.getD κ 0)
theorem confB_iff (q:Mo) (hl:q.l.length=5) (k:Nat) (s:Se) (κ:Nat):confB q k s κ=true ↔ ConfP q k s κ:=by
 unfold confB ConfP
 rw[Bool.or_eq_true,decide_eq_true_eq]
 refine or_congr ?_ Iff.rfl
 rw[List.any_eq_true]
 constructor
 ·rintro⟨i,_,h⟩
  unfold othW at h
  rw[Bool.and_eq_true,decide_eq_true_eq] at h
  cases e:q.l[i]? with
  |none=>rw[e] at h;exact absurd h.2 (by simp)
  |some s'=>
   rw[e] at h
   have h2:=h.2
   simp only[Bool.and_eq_true] at h2
   exact⟨i,s',h.1,e,h2.1,h2.2⟩
 ·rintro⟨i,s',h1,h2,h3,h4⟩
  refine⟨i,List.mem_range.2 (by have:=(List.getElem?_eq_some_iff.1 h2).1;omega),?_⟩
  unfold othW
  rw[h2]
  simp[h1,h3,h4]
theorem any_succ (f:Nat→Bool) (i:Nat):(List.range (i+1)).any f=((List.range i).any f||f i):=by
 rw[List.range_succ,List.any_append]
 simp
theorem conflict_any (w:World) (qb mb hb:Nat) (q:Mo) (A:Nat→Sx) (h:MoR w qb mb hb q A) (k κ:Nat) (s:Se) (hs:q.l[k]? =some s) (hκ:κ<6):
  Calls Tryz.prog 48 #[.pointer (some ⟨qb,0,none⟩),.int .i64 k,.int .i64 κ] w fun x w'=>x= .returned (.bool (confB q k s κ))∧Tch (fun _=>False) w w':=by
 have hk5:k<5:=by have:=(List.getElem?_eq_some_iff.1 hs).1;have:=h.ln;omega
 have HB:Hid (∀W,Tch (fun _=>False) w W→MoR W qb mb hb q A):=fun W t=>h.no t
 have HL:Hid (q.l.length=5):=h.ln
 have HS:Hid (q.l[k]? =some s):=hs
 obtain⟨out,hout⟩: ∃out,out=confB q k s κ:=⟨_,rfl⟩
 rw[←hout]
 have HO:Hid (out=((List.range 5).any (othW q k κ)||decide (s.wh<q.wn.getD κ 0))):=hout
 clear h hs hout
 go_enter Tryz.func48,Tryz.ntmps48
 go_wp2_with fail
 go_loopw [7] (fun x wr=> ∃i:Nat,x= .int .i64 i∧i≤5∧Hid (Tch (fun _=>False) w wr)∧Hid ((List.range i).any (othW q k κ)=false)) (fun x _=>5 - (intOf x).toNat)
 case atStart=>exact⟨0,rfl,by omega,Tch.refl _ _,rfl⟩
 case round=>
  obtain⟨i,rfl,hi,HT,HP⟩:=hrel
  obtain⟨wV,hwV⟩: ∃wV,wV=wr:=⟨_,rfl⟩
  subst hwV
  have hM:=HB.out wV HT.out
  by_cases hlt:(i:Int)<5
  ·have hil:i<q.l.length:=by have:=HL.out;omega
   obtain⟨s',hs'⟩: ∃s',q.l[i]? =some s':=⟨_,List.getElem?_eq_getElem hil⟩
   have hR:=hM.se i s' hs'
   have c0:wV.cell? ⟨qb,2+i*15,none⟩=some (.bool s'.op):=hR.c 0 _ rfl
   have q1:=wrote_any wV qb (2+i*15) s' (A i) hR κ
   have HF:Hid ((List.range (i+1)).any (othW q k κ)=(decide (i≠k) && (s'.op && wroteS s' κ))):=by
    show _=_
    rw[any_succ,HP.out,Bool.false_or]
    unfold othW
    rw[hs']
   have HF5:Hid ((decide (i≠k) && (s'.op && wroteS s' κ))=true→out=true):=fun e=>by
    rw[HO.out]
    have:(List.range 5).any (othW q k κ)=true:=by
     rw[List.any_eq_true]
     refine⟨i,List.mem_range.2 (by omega),?_⟩
     unfold othW
     rw[hs'];exact e
    rw[this];rfl
   have hi5:i<5:=by omega
   generalize wroteS s' κ=wr' at*
   generalize s'.op=op' at*
   clear hM hR hs' hil
   cases op' with
   |false=>
    have HF2:Hid ((List.range (i+1)).any (othW q k κ)=false):=by show _=_;rw[HF.out];simp
    clear q1 HF HF5
    by_cases hik:i=k
    ·have hne:((i:Int) !=(k:Int))=false:=by simp[hik]
     subst hik
     go_wp2_with fail
     go_roundw
     case rel=>exact⟨i+1,by go_num,by omega,HT,HF2⟩
     case measure=>(simp[intOf]<;>omega)
    ·have hne: ¬(i:Int)=(k:Int):=by omega
     have hnb:((i:Int)==(k:Int))=false:=by simpa using hne
     go_wp2_with fail
     go_roundw
     case rel=>exact⟨i+1,by go_num,by omega,HT,HF2⟩
     case measure=>(simp[intOf]<;>omega)
   |true=>
    go_wp2_with fail
    refine q1.mono ?_
    rintro x w1 ⟨rfl,t1⟩
    have HT1:Hid (Tch (fun _=>False) w w1):=HT.out.trans' t1
    clear q1 t1 c0
    by_cases hik:i=k
    ·subst hik
     have HF2:Hid ((List.range (i+1)).any (othW q i κ)=false):=by show _=_;rw[HF.out];simp
     have hb:((i:Int)==(i:Int))=true:=by simp
     clear HF HF5
     go_wp2_with fail
     go_roundw
     case rel=>exact⟨i+1,by go_num,by omega,HT1,HF2⟩
     case measure=>(simp[intOf]<;>omega)
    ·have hne: ¬(i:Int)=(k:Int):=by omega
     have hnb:((i:Int)==(k:Int))=false:=by simpa using hne
     cases wr' with
     |false=>
      have HF2:Hid ((List.range (i+1)).any (othW q k κ)=false):=by show _=_;rw[HF.out];simp
      clear HF HF5
      go_wp2_with fail
      go_roundw
      case rel=>exact⟨i+1,by go_num,by omega,HT1,HF2⟩
      case measure=>(simp[intOf]<;>omega)
     |true=>
      have HF2:Hid (out=true):=HF5.out (by simp[hik])
      clear HF HF5
      go_wp2_with fail
      go_ret
      exact⟨by rw[HF2.out];rfl,HT1.out⟩
  ·have hi5:i=5:=by omega
   subst hi5
   have c1:=hM.wn κ hκ
   have c2:wV.cell? ⟨qb,2+k*15+12,none⟩=some (.int .i64 s.wh):=(hM.se k s HS.out).c 12 _ rfl
   have HF:Hid (out=decide (s.wh<q.wn.getD κ 0)):=by
    show _=_
    rw[HO.out,HP.out,Bool.false_or]
   obtain⟨a1,ha1⟩: ∃a1,a1=q.wn.getD κ 0:=⟨_,rfl⟩
   rw[←ha1] at c1 HF
   have HTQ:Hid (∀nq,Tch (fun _=>False) w (wV.drewN nq)):=fun nq=>HT.out.drewN nq
   clear hM ha1 HP
   go_wp2_with fail
   go_quiet (fail)
   go_wp2_with fail
   go_ret
   exact⟨by rw[HF.out];rfl,HTQ.out nq⟩
end Go.Proofs.YtppokgdofgigfaaGreat.F
namespace Go.Proofs.YtppokgdofgigfaaGreat
open Go.RowKit Go Go.Sort Go.Maps
theorem mayReplace_any (wr:Int) (th:Bool) (ao:Option Addr) (n c:Nat) (w:World):
  Calls Tryz.prog 72 #[.agg #[.int .i64 wr,.bool th,.slice ao n c]] w fun x w'=>x= .returned (.int .i64 (if th then 0 else 90))∧Tch (fun _=>False) w w':=by
 cases th
 ·go_enter Tryz.func72,Tryz.ntmps72
  go_wp2
  go_ret
  exact⟨rfl,Tch.alloc _ _ _⟩
 ·go_enter Tryz.func72,Tryz.ntmps72
  go_wp2
  go_ret
  exact⟨rfl,Tch.alloc _ _ _⟩
def stdV (m:Mg) (c:List Ver):Option Ver:=c.reverse.find? (fun v=>((m.state v.wr:Int) !=4))
def repE (m:Mg) (mn mx:Int) (l:List Int) (own:Int) (c:List Ver):Nat:=match stdV m c with
 |none=>90
 |some v=>if m.sees mn mx l own v.wr then(if v.th then 0 else 90) else 92
theorem stdV_none {m:Mg} {zs:List VV} (h: ∀z∈zs,((m.state z.1.wr:Int) !=4)=false):stdV m (zs.map (·.1))=none:=by
 unfold stdV
 rw[find_map zs (fun v=>((m.state v.wr:Int) !=4)),Option.map_eq_none_iff,List.find?_eq_none]
 intro z hz
 rw[h z (List.mem_reverse.1 hz)];simp
theorem stdV_some {m:Mg} {zs:List VV} {k:Nat} {z:VV} (hz:zs[k]? =some z) (hp:((m.state z.1.wr:Int) !=4)=true) (hl: ∀(j:Nat) (u:VV),k<j→zs[j]? =some u→((m.state u.1.wr:Int) !=4)=false):stdV m (zs.map (·.1))=some z.1:=by
 unfold stdV
 rw[find_map zs (fun v=>((m.state v.wr:Int) !=4)),find_last hz hp hl];rfl
theorem repE_none {m:Mg} {mn mx:Int} {l:List Int} {own:Int} {zs:List VV} (h: ∀z∈zs,((m.state z.1.wr:Int) !=4)=false):repE m mn mx l own (zs.map (·.1))=90:=by
 unfold repE;rw[stdV_none h]
theorem repE_some {m:Mg} {mn mx:Int} {l:List Int} {own:Int} {zs:List VV} {k:Nat} {z:VV} (hz:zs[k]? =some z) (hp:((m.state z.1.wr:Int) !=4)=true) (hl: ∀(j:Nat) (u:VV),k<j→zs[j]? =some u→((m.state u.1.wr:Int) !=4)=false):repE m mn mx l own (zs.map (·.1))=if m.sees mn mx l own z.1.wr then(if z.1.th then 0 else 90) else 92:=by
 unfold repE;rw[stdV_some hz hp hl]
def WrRow (w:World) (m:Mg) (c:List Ver) (ee:Nat) (ro:Option Addr) (rn rc:Nat) (w':World):Prop:=(ee=0→ ∃v,stdV m c=some v∧rn=v.n∧w'.ownsRow w.heap.size 79 3 (.slice ro rn rc) rn v.cs)∧(ee≠0→rn=0)
def WrOut3 (w:World) (hb mb tb:Nat) (E:List En) (C:Nat→Ch) (σ:Nat→Option Nat) (q:Nat) (m:Mg) (k:Int) (s:List UInt8) (v:Ver) (ee:Nat) (x:Ending) (w':World):Prop:=
 ∃ro rn rc T' E' C' σ',x= .returned (.tuple #[.slice ro rn rc,.int .i64 (ee:Nat)])∧HW w' hb mb tb T' E' C' σ' (q+3)∧labs E' C'=(if ee=0 then appL (labs E C) k s v else labs E C)∧(∀i,σ i≠none→σ' i=σ i)∧(∀i,i<w.heap.size→σ i=none→σ' i=none)∧Tch (fun i=>σ i≠none) w w'∧WrRow w m (chL (labs E C) k s) ee ro rn rc w'∧ ∀g,(Value.slice ro rn rc).ownBlock=some g→σ' g=none
theorem write3_any (w:World) (hb mb tb:Nat) (T:List (Int×Nat)) (E:List En) (C:Nat→Ch) (σ:Nat→Option Nat) (q:Nat) (h:HW w hb mb tb T E C σ q) (hne: ∀e∈E,(C e.b).2.2≠[]) (hq:q≤1000) (m:Mg) (F:Nat→Prop) (hM:MF w mb m (fun i=>F i∨σ i≠none)) (k:Int) (h1: -9223372036854775808≤k) (h2:k≤9223372036854775807) (S:ByteArray) (hS:S.size≤maxLen) (z:VV) (hz:VOK w σ z)
  (bh bs bx:Nat) (mn mx:Int) (l:List Int) (so:Option Addr) (sc:Nat) (own:Int) (h3: -9223372036854775808≤own) (h4:own≤9223372036854775807) (hl:l.length≤9223372036854775807) (sb:SB w hb bh bs bx mn mx l so sc own) (l1:σ bh=none) (l2:σ bs=none) (l3:σ bx=none) (l4: ∀a,so=some a→σ a.block=none):
  Calls Tryz.prog 36 #[.pointer (some ⟨hb,0,none⟩),.int .i64 k,.string S,.agg #[.int .i64 z.1.wr,.bool z.1.th,.slice z.2.1 z.1.n z.2.2],.func (.func 57) #[] #[.pointer (some ⟨bh,0,none⟩),.pointer (some ⟨bs,0,none⟩),.pointer (some ⟨bx,0,none⟩)],.func (.func 72) #[] #[]] w fun x w'=>WrOut3 w hb mb tb E C σ q m k S.data.toList z.1 (repE m mn mx l own (chL (labs E C) k S.data.toList)) x w':=by
 obtain⟨w0,hw0⟩: ∃w0,w0=w.alloc (.cells #[.int .i64 z.1.wr,.bool z.1.th,.slice z.2.1 z.1.n z.2.2] 69):=⟨_,rfl⟩
 have t0:Tch (fun _=>False) w w0:=by rw[hw0];exact Tch.alloc _ _ _
 have qL:=lay_any w0 hb mb tb T E C σ q (h.no t0) hq k h1 h2 S hS z (hz.tch t0 (fun _ _ h=>h.elim) (fun _ _ _=>rfl))
 obtain⟨EE,hEE⟩: ∃EE,EE=repE m mn mx l own (chL (labs E C) k S.data.toList):=⟨_,rfl⟩
 rw[←hEE]
 have HEE:Hid _:=hEE
 obtain⟨wr,hwr⟩: ∃wr,wr=z.1.wr:=⟨_,rfl⟩
 obtain⟨th,hth⟩: ∃th,th=z.1.th:=⟨_,rfl⟩
 obtain⟨rv,hrv⟩: ∃rv,rv=z.2.1:=⟨_,rfl⟩
 obtain⟨rn,hrn⟩: ∃rn,rn=z.1.n:=⟨_,rfl⟩
 obtain⟨rc,hrc⟩: ∃rc,rc=z.2.2:=⟨_,rfl⟩
 have e0:w0.heap[w.heap.size]? =some (.cells #[.int .i64 wr,.bool th,.slice rv rn rc] 69 (0,0)):=by rw[hw0,hwr,hth,hrv,hrn,hrc];exact alloc_new _ _
 rw[←hwr, ←hth, ←hrv, ←hrn, ←hrc] at hw0 qL ⊢
 have T0:Hid _:=t0
 have HH:Hid (∀w1 (σ':Nat→Option Nat),Tch (fun i=>σ i≠none) w0 w1→(∀i,i<w0.heap.size→σ i=none→σ' i=none)→(∀i,σ' i≠none→i<w1.heap.size)→MF w1 mb m (fun i=>F i∨σ' i≠none)∧SB w1 hb bh bs bx mn mx l so sc own∧Tch (fun i=>σ i≠none) w w1):=fun w1 σ' t hsn hd=>⟨(hM.no t0).beside t hsn hd,(sb.no t0).keep t l1 l2 l3 l4,(t0.mono (fun _ _ h=>h.elim)).trans' t⟩
 have HB:Hid (E.Pairwise (fun e f=> ¬(e.k=f.k∧e.s=f.s))∧E.Pairwise (fun e f=>e.b≠f.b)∧(∀e∈E,(C e.b).2.2≠[])∧q≤1000):=⟨h.ek,h.eb,hne,hq⟩
 have HK:Hid (-9223372036854775808≤k∧k≤9223372036854775807∧S.size≤maxLen∧ -9223372036854775808≤own∧own≤9223372036854775807∧l.length≤9223372036854775807∧w0.heap.size=w.heap.size+1):=⟨h1,h2,hS,h3,h4,hl,by rw[hw0];simp⟩
 have Hw0:Hid _:=hw0
 have hmf: ∀(fn:Fn) (first cap:Array Value) (w:World),(Instr.makeFunc fn first cap).run Tryz.prog w= .ok (.func fn first cap) w:=fun _ _ _ _=>rfl
 have k0:w0.cell? ⟨w.heap.size,0,none⟩=some (.int .i64 wr):=by rw[blk_cell e0];rfl
 have k1:w0.cell? ⟨w.heap.size,1,none⟩=some (.bool th):=by rw[blk_cell e0];rfl
 have k2:w0.cell? ⟨w.heap.size,2,none⟩=some (.slice rv rn rc):=by rw[blk_cell e0];rfl
 rw[hw0] at qL
 clear h hne hq hM h1 h2 hS hz h3 h4 hl sb l1 l2 l3 l4 t0 hEE hwr hth hrv hrn hrc e0 hw0 k0 k1 k2
 go_enter_defers Tryz.func36,Tryz.ntmps36
 go_wp2_with fail
 refine qL.mono ?_
 clear qL
 rw[←Hw0.out]
 rintro x w1 ⟨T',E',C',σ',cb,co,cc,zs,bc,bw,bh',bt,bk,wo,wc,rfl,hw1,u1,me,hC,hold,hoth,hsg,hsn,t1⟩
 obtain⟨hM1,sb1,T1⟩:=HH.out w1 σ' t1 hsn hw1.dom
 obtain⟨hek,heb,hne,hq⟩:=HB.out
 obtain⟨h1,h2,hS,h3,h4,hl,hs0⟩:=HK.out
 have hn:lkE E k S.data.toList=none→ ∀e∈E,e.b≠cb:=fun h0 e he=>by
  rcases hold with⟨_,e1,_⟩|⟨rfl,_,_⟩
  ·rw[h0] at e1;cases e1
  ·have:=hw1.eb
   rw[List.pairwise_append] at this
   exact this.2.2 e he _ (List.mem_singleton.2 rfl)
 obtain⟨hlab,hchl⟩:=labs_app hek heb hC hold hoth hn
 have hlabU:=fun wo wc=>labs_undo (wo:=wo) (wc:=wc) hek heb hold hoth hn hne
 have hEE:EE=repE m mn mx l own (zs.map (·.1)):=by rw[HEE.out,hchl]
 have hlz:zs.length≤1000000:=by
  have:=(hw1.chs _ me).2
  rw[hC] at this
  simp at this
  omega
 have hsn': ∀i,i<w.heap.size→σ i=none→σ' i=none:=fun i hi h0=>hsn i (by omega) h0
 have HO:Hid (∀w9 (ee:Nat) (ro:Option Addr) (rn rc base:Nat) (v:Ver),ee=EE→EE=0→Tch (fun _=>False) w1 w9→stdV m (zs.map (·.1))=some v→rn=v.n→w1.heap.size≤base→w9.ownsRow base 79 3 (.slice ro rn rc) rn v.cs→WrOut3 w hb mb tb E C σ q m k S.data.toList z.1 EE (.returned (.tuple #[.slice ro rn rc,.int .i64 (ee:Nat)])) w9):=fun w9 ee ro rn rc base v he h0 t e1 e2 hbs how=>by
  subst he
  have hsz:=T1.size
  refine⟨ro,rn,rc,T',E',C',σ',rfl,hw1.no t,by rw[if_pos h0];exact hlab,hsg,hsn',T1.trans t (fun _ _ h=>h.elim),⟨fun _=>⟨v,by rw[hchl];exact e1,e2,own_low how (by omega)⟩,fun h=>absurd h0 h⟩,fun g hg=>?_⟩
  have:=row_ge how hg
  exact Classical.byContradiction fun hs=>by have:=hw1.dom g hs;omega
 have HU:Hid (∀w9 (R:World→Prop),Tch (fun _=>False) w1 w9→EE≠0→(∀w8,WrOut3 w hb mb tb E C σ q m k S.data.toList z.1 EE (.returned (.tuple #[.slice none 0 0,.int .i64 (EE:Nat)])) w8→R w8)→Calls Tryz.prog 89 #[.pointer (some ⟨bc,0,none⟩),.pointer (some ⟨bw,0,none⟩),.pointer (some ⟨bh',0,none⟩),.pointer (some ⟨bt,0,none⟩),.pointer (some ⟨bk,0,none⟩)] w9 fun x w'=>x= .returned (.tuple #[])∧R w'):=fun w9 R t hne0 hR=>by
  refine(undo_any w9 hb mb tb T' E' C' σ' (q+3) (hw1.no t) k h1 h2 S hS cb wo wc zs bc bw bh' bt bk (u1.no t) me co cc z hC (by omega)).mono ?_
  rintro x w8 ⟨rfl,⟨T8,hw8⟩,t8⟩
  refine⟨rfl,hR w8 ⟨none,0,0,T8,_,_,σ',rfl,hw8,by rw[if_neg hne0];exact hlabU wo wc,hsg,hsn',(T1.trans t (fun _ _ h=>h.elim)).trans t8 (fun i hi hs h0=>hs (hsn' i hi h0)),⟨fun h=>absurd h hne0,fun _=>rfl⟩,fun g hg=>by cases hg⟩⟩
 obtain⟨W2,hW2⟩: ∃W2,W2=(w1.alloc (.cells #[.func (.func 89) #[] #[.pointer (some ⟨bc,0,none⟩),.pointer (some ⟨bw,0,none⟩),.pointer (some ⟨bh',0,none⟩),.pointer (some ⟨bt,0,none⟩),.pointer (some ⟨bk,0,none⟩)]] 1)).alloc (.cells #[.bool false] 4):=⟨_,rfl⟩
 have t2:Tch (fun _=>False) w1 W2:=by rw[hW2];exact(Tch.alloc _ _ _).allocR _
 have b15:W2.heap[w1.heap.size]? =some (.cells #[.func (.func 89) #[] #[.pointer (some ⟨bc,0,none⟩),.pointer (some ⟨bw,0,none⟩),.pointer (some ⟨bh',0,none⟩),.pointer (some ⟨bt,0,none⟩),.pointer (some ⟨bk,0,none⟩)]] 1 (0,0)):=by
  rw[hW2,(Tch.alloc (fun _=>False) (w1.alloc (.cells #[.func (.func 89) #[] #[.pointer (some ⟨bc,0,none⟩),.pointer (some ⟨bw,0,none⟩),.pointer (some ⟨bh',0,none⟩),.pointer (some ⟨bt,0,none⟩),.pointer (some ⟨bk,0,none⟩)]] 1)) _).block _ (by simp) (fun h=>h)];exact alloc_new _ _
 have b16:W2.heap[w1.heap.size+1]? =some (.cells #[.bool false] 4 (0,0)):=by
  rw[hW2]
  have:=alloc_new (w1.alloc (.cells #[.func (.func 89) #[] #[.pointer (some ⟨bc,0,none⟩),.pointer (some ⟨bw,0,none⟩),.pointer (some ⟨bh',0,none⟩),.pointer (some ⟨bt,0,none⟩),.pointer (some ⟨bk,0,none⟩)]] 1)) (.cells #[.bool false] 4)
  rwa [World.size_alloc] at this
 have hc0:=hw1.c0
 have hok:=u1.ok
 have qN:=newest_any wo wc zs hlz W2 ((vrd_of u1.row).tch t2) (fun z=>((m.state z.1.wr:Int) !=4)) 62 #[.pointer (some ⟨hb,0,none⟩)] #[] ⟨enters_stands,fun z' W hz' tW=>by
  have tt:=t2.trans' tW
  exact stands_any hb mb m W _ (hM1.no tt) (by rw[tt.cell (p:=⟨hb,0,none⟩) (cell_lt hc0) (fun h=>h)];exact hc0) z'.1.wr (hok z' hz').lo (hok z' hz').hi z'.1.th z'.2.1 z'.1.n z'.2.2⟩
 have HQ:Hid (∀W (z':VV),z'∈zs→Tch (fun _=>False) w1 W→Calls Tryz.prog 57 #[.agg #[.int .i64 z'.1.wr,.bool z'.1.th,.slice z'.2.1 z'.1.n z'.2.2],.pointer (some ⟨bh,0,none⟩),.pointer (some ⟨bs,0,none⟩),.pointer (some ⟨bx,0,none⟩)] W fun x w'=>x= .returned (.bool (m.sees mn mx l own z'.1.wr))∧Tch (fun _=>False) W w'):=fun W z' hz' tt=>
  seen1_any hb mb m W _ (hM1.no tt) (by rw[tt.cell (p:=⟨hb,0,none⟩) (cell_lt hc0) (fun h=>h)];exact hc0) z'.1.wr (hok z' hz').lo (hok z' hz').hi z'.1.th z'.2.1 z'.1.n z'.2.2 bh bs bx mn mx l so sc own h3 h4 hl (sb1.no tt)
 have HR:Hid (∀W (z':VV),z'∈zs→Tch (fun _=>False) w1 W→RdR W z'.2.1 z'.1.n z'.2.2 z'.1.cs):=fun W z' hz' tt=>(RdR.of_own (hok z' hz').own (hok z' hz').one (hok z' hz').sm).no tt
 obtain⟨ln,hln⟩: ∃ln,ln=zs.length:=⟨_,rfl⟩
 rw[←hln] at qN ⊢
 have HE:Hid _:=hEE
 have T2:Hid _:=t2
 have HW2:Hid _:=hW2
 have B15:Hid _:=b15
 have B16:Hid _:=b16
 clear HH HB HK hM1 sb1 T1 hek heb hne hq h1 h2 hS h3 h4 hl hs0 hn hlab hchl hlabU hEE hlz hsn' hc0 hok hold hoth hsg hsn t1 hC me u1 hw1 t2 b15 b16 hln
 rw[hW2] at qN
 clear hW2
 go_wp2_with fail
 refine qN.mono ?_
 clear qN
 rw[←HW2.out]
 rintro x w3 ⟨hnw,t3⟩
 have T3:Hid (Tch (fun _=>False) w1 w3):=T2.out.trans' t3
 have c15:Hid (∀W,Tch (fun _=>False) w3 W→W.heap[w1.heap.size]? =some (.cells #[.func (.func 89) #[] #[.pointer (some ⟨bc,0,none⟩),.pointer (some ⟨bw,0,none⟩),.pointer (some ⟨bh',0,none⟩),.pointer (some ⟨bt,0,none⟩),.pointer (some ⟨bk,0,none⟩)]] 1 (0,0))∧W.heap[w1.heap.size+1]? =some (.cells #[.bool false] 4 (0,0))):=fun W t=>
  ⟨by rw[(t3.trans' t).block _ (blk_lt B15.out) (fun h=>h)];exact B15.out,by rw[(t3.trans' t).block _ (blk_lt B16.out) (fun h=>h)];exact B16.out⟩
 clear t3
 rcases hnw with⟨hall,rfl⟩|⟨i,z0,hz0,hp0,hla,rfl⟩
 ·have hE0:EE=90:=by rw[HE.out];exact repE_none hall
  obtain⟨w4,hw4⟩: ∃w4,w4=w3.alloc (.cells #[.int .i64 0,.bool false,.slice none 0 0] 69):=⟨_,rfl⟩
  have t4:Tch (fun _=>False) w3 w4:=by rw[hw4];exact Tch.alloc _ _ _
  have OB:Hid (w4.heap[w3.heap.size]? =some (.cells #[.int .i64 0,.bool false,.slice none 0 0] 69 (0,0))):=by
   show _=_
   rw[hw4];exact alloc_new _ _
  have qM:=mayReplace_any 0 false none 0 0 w4
  simp only[Bool.false_eq_true,if_false] at qM
  rw[hw4] at qM
  clear hall
  go_wp2_with fail
  refine qM.mono ?_
  rw[←hw4]
  rintro x w5 ⟨rfl,t5⟩
  clear qM
  have T5:Tch (fun _=>False) w1 w5:=(T3.out.trans' t4).trans' t5
  obtain⟨b15,b16⟩:=c15.out w5 (t4.trans' t5)
  have d5:w5.cell? ⟨w1.heap.size+1,0,none⟩=some (.bool false):=by rw[blk_cell b16];rfl
  have d6:w5.cell? ⟨w1.heap.size,0,none⟩=some (.func (.func 89) #[] #[.pointer (some ⟨bc,0,none⟩),.pointer (some ⟨bw,0,none⟩),.pointer (some ⟨bh',0,none⟩),.pointer (some ⟨bt,0,none⟩),.pointer (some ⟨bk,0,none⟩)]):=by rw[blk_cell b15];rfl
  clear b15 b16 t5
  go_wp2_with fail
  refine leaves_cons (f:=61) (args:=#[.pointer (some ⟨w1.heap.size+1,0,none⟩),.pointer (some ⟨w1.heap.size,0,none⟩)]) (by simp) (by simp[go_sem]) ?_
  refine(wundo_d _ _ .returning _ _ d5 _ _ _ _ _ d6 (HU.out _ _ T5 (by rw[hE0];decide) (fun _ h=>h))).mono ?_
  rintro e u' w'' ⟨rfl,rfl,hw⟩
  refine⟨_,results_tmp2 rfl _ _ _,?_⟩
  rw[hE0] at hw
  rw[hE0]
  exact hw
 ·have hEs:=HE.out.trans (repE_some hz0 hp0 hla)
  have HRV:Hid (stdV m (zs.map (·.1))=some z0.1):=stdV_some hz0 hp0 hla
  have hm0:z0∈zs:=List.mem_of_getElem? hz0
  obtain⟨w4,hw4⟩: ∃w4,w4=w3.alloc (.cells #[.int .i64 z0.1.wr,.bool z0.1.th,.slice z0.2.1 z0.1.n z0.2.2] 69):=⟨_,rfl⟩
  have t4:Tch (fun _=>False) w3 w4:=by rw[hw4];exact Tch.alloc _ _ _
  have OB:Hid (w4.heap[w3.heap.size]? =some (.cells #[.int .i64 z0.1.wr,.bool z0.1.th,.slice z0.2.1 z0.1.n z0.2.2] 69 (0,0))):=by
   show _=_
   rw[hw4];exact alloc_new _ _
  have qS:=HQ.out w4 z0 hm0 (T3.out.trans' t4)
  rw[hw4] at qS
  clear hz0 hp0 hla
  cases hse:m.sees mn mx l own z0.1.wr
  ·rw[hse] at qS
   have hE0:EE=92:=by rw[hEs,hse];rfl
   clear hEs hse
   go_wp2_with fail
   refine qS.mono ?_
   rw[←hw4]
   rintro x w5 ⟨rfl,t5⟩
   clear qS
   have T5:Tch (fun _=>False) w1 w5:=(T3.out.trans' t4).trans' t5
   obtain⟨b15,b16⟩:=c15.out w5 (t4.trans' t5)
   have d5:w5.cell? ⟨w1.heap.size+1,0,none⟩=some (.bool false):=by rw[blk_cell b16];rfl
   have d6:w5.cell? ⟨w1.heap.size,0,none⟩=some (.func (.func 89) #[] #[.pointer (some ⟨bc,0,none⟩),.pointer (some ⟨bw,0,none⟩),.pointer (some ⟨bh',0,none⟩),.pointer (some ⟨bt,0,none⟩),.pointer (some ⟨bk,0,none⟩)]):=by rw[blk_cell b15];rfl
   clear b15 b16 t5
   go_wp2_with fail
   refine leaves_cons (f:=61) (args:=#[.pointer (some ⟨w1.heap.size+1,0,none⟩),.pointer (some ⟨w1.heap.size,0,none⟩)]) (by simp) (by simp[go_sem]) ?_
   refine(wundo_d _ _ .returning _ _ d5 _ _ _ _ _ d6 (HU.out _ _ T5 (by rw[hE0];decide) (fun _ h=>h))).mono ?_
   rintro e u' w'' ⟨rfl,rfl,hw⟩
   refine⟨_,results_tmp2 rfl _ _ _,?_⟩
   rw[hE0] at hw
   rw[hE0]
   exact hw
  ·rw[hse] at qS
   cases hth0:z0.1.th
   ·have hE0:EE=90:=by rw[hEs,hse,hth0];rfl
    rw[hth0] at qS hw4
    clear hEs hse
    go_wp2_with fail
    refine qS.mono ?_
    rw[←hw4]
    rintro x w5s ⟨rfl,t5s⟩
    clear qS
    have OB1:Hid (w5s.heap[w3.heap.size]? =some (.cells #[.int .i64 z0.1.wr,.bool false,.slice z0.2.1 z0.1.n z0.2.2] 69 (0,0))):=by
     have:=OB.out
     rw[hth0] at this
     show _=_
     rw[t5s.block _ (blk_lt this) (fun h=>h)];exact this
    have o0:w5s.cell? ⟨w3.heap.size,0,none⟩=some (.int .i64 z0.1.wr):=by rw[blk_cell OB1.out];rfl
    have o1:w5s.cell? ⟨w3.heap.size,1,none⟩=some (.bool false):=by rw[blk_cell OB1.out];rfl
    have o2:w5s.cell? ⟨w3.heap.size,2,none⟩=some (.slice z0.2.1 z0.1.n z0.2.2):=by rw[blk_cell OB1.out];rfl
    have t45:=t4.trans' t5s
    have qM:=mayReplace_any z0.1.wr false z0.2.1 z0.1.n z0.2.2 w5s
    simp only[Bool.false_eq_true,if_false] at qM
    clear OB hth0 t5s t4 hw4
    go_wp2_with fail
    refine qM.mono ?_
    rintro x w5 ⟨rfl,t5⟩
    clear qM o0 o1 o2
    have T5:Tch (fun _=>False) w1 w5:=(T3.out.trans' t45).trans' t5
    obtain⟨b15,b16⟩:=c15.out w5 (t45.trans' t5)
    have d5:w5.cell? ⟨w1.heap.size+1,0,none⟩=some (.bool false):=by rw[blk_cell b16];rfl
    have d6:w5.cell? ⟨w1.heap.size,0,none⟩=some (.func (.func 89) #[] #[.pointer (some ⟨bc,0,none⟩),.pointer (some ⟨bw,0,none⟩),.pointer (some ⟨bh',0,none⟩),.pointer (some ⟨bt,0,none⟩),.pointer (some ⟨bk,0,none⟩)]):=by rw[blk_cell b15];rfl
    clear b15 b16 t5
    go_wp2_with fail
    refine leaves_cons (f:=61) (args:=#[.pointer (some ⟨w1.heap.size+1,0,none⟩),.pointer (some ⟨w1.heap.size,0,none⟩)]) (by simp) (by simp[go_sem]) ?_
    refine(wundo_d _ _ .returning _ _ d5 _ _ _ _ _ d6 (HU.out _ _ T5 (by rw[hE0];decide) (fun _ h=>h))).mono ?_
    rintro e u' w'' ⟨rfl,rfl,hw⟩
    refine⟨_,results_tmp2 rfl _ _ _,?_⟩
    rw[hE0] at hw
    rw[hE0]
    exact hw
   ·have hE0:EE=0:=by rw[hEs,hse,hth0];rfl
    rw[hth0] at qS hw4
    have hrd:=HR.out
    clear hEs hse
    go_wp2_with fail
    refine qS.mono ?_
    rw[←hw4]
    rintro x w5s ⟨rfl,t5s⟩
    clear qS
    have OB1:Hid (w5s.heap[w3.heap.size]? =some (.cells #[.int .i64 z0.1.wr,.bool true,.slice z0.2.1 z0.1.n z0.2.2] 69 (0,0))):=by
     have:=OB.out
     rw[hth0] at this
     show _=_
     rw[t5s.block _ (blk_lt this) (fun h=>h)];exact this
    have o0:w5s.cell? ⟨w3.heap.size,0,none⟩=some (.int .i64 z0.1.wr):=by rw[blk_cell OB1.out];rfl
    have o1:w5s.cell? ⟨w3.heap.size,1,none⟩=some (.bool true):=by rw[blk_cell OB1.out];rfl
    have o2:w5s.cell? ⟨w3.heap.size,2,none⟩=some (.slice z0.2.1 z0.1.n z0.2.2):=by rw[blk_cell OB1.out];rfl
    have t45:=t4.trans' t5s
    have qM:=mayReplace_any z0.1.wr true z0.2.1 z0.1.n z0.2.2 w5s
    simp only[if_true] at qM
    clear OB hth0 t5s t4 hw4
    go_wp2_with fail
    refine qM.mono ?_
    rintro x w5 ⟨rfl,t5⟩
    clear qM o0 o1 o2
    obtain⟨b15,b16⟩:=c15.out w5 (t45.trans' t5)
    have bo:w5.heap[w3.heap.size]? =some (.cells #[.int .i64 z0.1.wr,.bool true,.slice z0.2.1 z0.1.n z0.2.2] 69 (0,0)):=by rw[t5.block _ (blk_lt OB1.out) (fun h=>h)];exact OB1.out
    have a16:w5.cell? ⟨w1.heap.size+1,0,none⟩=some (.bool false):=by rw[blk_cell b16];rfl
    have f16:=blk_frozen b16 0
    have b16':=blk_set (i:=0) b16 (.bool true)
    have tS:Tch (fun i=>i=w1.heap.size+1) w5 (w5.setCell ⟨w1.heap.size+1,0,none⟩ (.bool true)):=Tch.setCell (fun i=>i=w1.heap.size+1) w5 ⟨w1.heap.size+1,0,none⟩ _ rfl
    have T5:Tch (fun _=>False) w1 w5:=(T3.out.trans' t45).trans' t5
    have T6:Tch (fun _=>False) w1 (w5.setCell ⟨w1.heap.size+1,0,none⟩ (.bool true)):=tch_new T5 (Nat.le_succ _) tS
    have hob:w3.heap.size≠w1.heap.size+1:=fun e=>by rw[e,b16] at bo;cases bo
    have bo':(w5.setCell ⟨w1.heap.size+1,0,none⟩ (.bool true)).heap[w3.heap.size]? =some (.cells #[.int .i64 z0.1.wr,.bool true,.slice z0.2.1 z0.1.n z0.2.2] 69 (0,0)):=by rw[tS.block _ (blk_lt bo) hob];exact bo
    have ao:(w5.setCell ⟨w1.heap.size+1,0,none⟩ (.bool true)).cell? ⟨w3.heap.size,2,none⟩=some (.slice z0.2.1 z0.1.n z0.2.2):=by rw[blk_cell bo'];rfl
    have qC:=rclone_any z0.2.1 z0.1.n z0.2.2 z0.1.cs (w5.setCell ⟨w1.heap.size+1,0,none⟩ (.bool true)) (hrd _ z0 hm0 T6)
    have HB16:Hid _:=b16'
    have HT6:Hid _:=T6
    clear b15 b16 b16' bo bo' tS T5 T6 hob t5
    go_wp2_with fail
    refine qC.mono ?_
    rintro x w7 ⟨⟨ro7,rc7,rfl,how7⟩,t7⟩
    clear qC
    have d7:w7.cell? ⟨w1.heap.size+1,0,none⟩=some (.bool true):=by rw[t7.cell (p:=⟨w1.heap.size+1,0,none⟩) (blk_lt HB16.out) (fun h=>h),blk_cell HB16.out];rfl
    have T7:Tch (fun _=>False) w1 w7:=HT6.out.trans' t7
    clear t7 ao a16 f16
    go_wp2_with fail
    refine leaves_cons (f:=61) (args:=#[.pointer (some ⟨w1.heap.size+1,0,none⟩),.pointer (some ⟨w1.heap.size,0,none⟩)]) (by simp) (by simp[go_sem]) ?_
    refine(wdone_d _ _ .returning _ d7).mono ?_
    rintro e u' w'' ⟨rfl,rfl,rfl⟩
    refine⟨_,results_tmp2 rfl _ _ _,?_⟩
    exact HO.out _ 0 _ _ _ _ z0.1 hE0.symm hE0 T7 HRV.out rfl HT6.out.size how7
end Go.Proofs.YtppokgdofgigfaaGreat
