import Derived.Test.YtppokgdofgigfaaGreatVC5
import Derived.Test.YtppokgdofgigfaaGreatFE0
import Derived.OpenShut
import Derived.Test.YtppokgdofgigfaaGreatFS0
import Derived.Test.YtppokgdofgigfaaGreatFH
set_option maxHeartbeats 4000000
set_option maxRecDepth 100000
namespace Go.Proofs.YtppokgdofgigfaaGreat
open Go.RowKit Go Go.Sort Go.Maps
def Cx (m:Mg) (l:List F.Sp) (C0:Nat→Ch):Nat→Ch:=fun b=>(none,0,(C0 b).2.2.drop (needVV m l (C0 b).2.2).length)
theorem cx_len (m:Mg) (l:List F.Sp) (C0:Nat→Ch) (b:Nat):(Cx m l C0 b).2.2.length=(C0 b).2.2.length - (needVV m l (C0 b).2.2).length:=List.length_drop
structure VI (w0 W:World) (hb mb tb:Nat) (m:Mg) (l:List F.Sp) (T0:List (Int×Nat)) (E0:List En) (C0:Nat→Ch) (q:Nat) (σ0:Nat→Option Nat) (dn:En→Bool) (T:List (Int×Nat)) (E:List En) (C:Nat→Ch) (σ:Nat→Option Nat):Prop where
 hw:HW W hb mb tb T E C σ q
 tT: ∀p∈T,p∈T0
 eE:E=E0.filter (fun e=> !(dn e)|| !(needVV m l (C0 e.b).2.2).isEmpty)
 eC: ∀e∈E0,(dn e=true→(C e.b).2.2=needVV m l (C0 e.b).2.2)∧(dn e=false→C e.b=C0 e.b)
 sn: ∀i,i<w0.heap.size→σ0 i=none→σ i=none
 t:Tch (fun i=>σ0 i≠none) w0 W
section
variable {w0 W W':World} {hb mb tb:Nat} {m:Mg} {l:List F.Sp} {T0 T T':List (Int×Nat)} {E0 E:List En} {C0 C:Nat→Ch} {q:Nat} {σ0:Nat→Option Nat} {dn dn':En→Bool} {σ:Nat→Option Nat}
theorem VI.no (h:VI w0 W hb mb tb m l T0 E0 C0 q σ0 dn T E C σ) (t:Tch (fun _=>False) W W'):VI w0 W' hb mb tb m l T0 E0 C0 q σ0 dn T E C σ:=
 ⟨h.hw.no t,h.tT,h.eE,h.eC,h.sn,h.t.trans t (fun _ _ e=>e.elim)⟩
theorem VI.congr (h:VI w0 W hb mb tb m l T0 E0 C0 q σ0 dn T E C σ) (e: ∀x∈E0,dn x=dn' x):VI w0 W hb mb tb m l T0 E0 C0 q σ0 dn' T E C σ:=
 ⟨h.hw,h.tT,by rw[h.eE];exact List.filter_congr (fun x hx=>by rw[e x hx]),fun x hx=>by rw[←e x hx];exact h.eC x hx,h.sn,h.t⟩
theorem VI.mf (h:VI w0 W hb mb tb m l T0 E0 C0 q σ0 dn T E C σ) {F:Nat→Prop} (hM:MF w0 mb m (fun i=>F i∨σ0 i≠none)):MF W mb m (fun i=>F i∨σ i≠none):=hM.beside h.t h.sn h.hw.dom
theorem VI.it (h:VI w0 W hb mb tb m l T0 E0 C0 q σ0 dn T E C σ) {r:Nat} (hr:w0.heap.size≤r) (hs:σ r=none) (t:Tch (fun i=>i=r) W W'):VI w0 W' hb mb tb m l T0 E0 C0 q σ0 dn T E C σ:=
 ⟨h.hw.tch t (fun i _ e=>by rw[e];exact hs),h.tT,h.eE,h.eC,h.sn,h.t.trans t (fun i hi e=>by omega)⟩
theorem VI.sub (h:VI w0 W hb mb tb m l T0 E0 C0 q σ0 dn T E C σ): ∀e∈E,e∈E0:=fun e he=>by rw[h.eE] at he;exact(List.mem_filter.1 he).1
theorem VI.put (h:VI w0 W hb mb tb m l T0 E0 C0 q σ0 dn T E C σ) {e:En} (he:e∈E) (hd:dn e=false) {vo:Option Addr} {vc:Nat} {W1:World} (t1:Tch (fun _=>False) W W1)
  (ho:W1.ownsRow W.heap.size 69 3 (.slice vo (needVV m l (C0 e.b).2.2).length vc) (needVV m l (C0 e.b).2.2).length (vrl (needVV m l (C0 e.b).2.2))):
  ∃σ',HW (W1.setCell ⟨e.b,0,none⟩ (.slice vo (needVV m l (C0 e.b).2.2).length vc)) hb mb tb T E (upB C e.b (vo,vc,needVV m l (C0 e.b).2.2)) σ' q∧(∀i,σ i≠none→σ' i=σ i)∧(∀i,i<W.heap.size→σ i=none→σ' i=none)∧
   Tch (fun i=>σ i=some (2*e.b+1)) W1 (W1.setCell ⟨e.b,0,none⟩ (.slice vo (needVV m l (C0 e.b).2.2).length vc)):=by
 obtain⟨ys,hys⟩: ∃ys,ys=needVV m l (C0 e.b).2.2:=⟨_,rfl⟩
 rw[←hys] at ho ⊢
 obtain⟨W2,hW2⟩: ∃W2,W2=W1.setCell ⟨e.b,0,none⟩ (.slice vo ys.length vc):=⟨_,rfl⟩
 rw[←hW2]
 obtain⟨hcb,hlq⟩:=h.hw.chs e he
 have hCe:=(h.eC e (h.sub e he)).2 hd
 have hsub:ys.Sublist (C e.b).2.2:=by rw[hCe,hys];exact needVV_sub _ _ _
 obtain⟨σ',hσ'⟩: ∃σ':Nat→Option Nat,σ'=fun i=>if (Value.slice vo ys.length vc).ownBlock=some i then some (2*e.b+1) else σ i:=⟨_,rfl⟩
 have hnew: ∀i,(Value.slice vo ys.length vc).ownBlock=some i→W.heap.size≤i∧σ i=none:=fun i hi=>by
  have h1:=row_ge ho hi
  refine⟨h1,?_⟩
  cases hs:σ i with
  |none=>rfl
  |some a=>have:=h.hw.dom i (by rw[hs];exact fun h=>by cases h);omega
 have hext: ∀i,σ i≠none→σ' i=σ i:=fun i hi=>by
  rw[hσ']
  exact if_neg (fun e2=>hi (hnew i e2).2)
 have hold: ∀i,i<W.heap.size→σ i=none→σ' i=none:=fun i hi hs=>by
  rw[hσ']
  show(if _ then _ else _)=none
  rw[if_neg (fun e2=>by have:=(hnew i e2).1;omega)];exact hs
 have hW1:=h.hw.no t1
 have hc1:=(hW1.chs e he).1
 have t2:Tch (fun i=>i=e.b) W1 W2:=by rw[hW2];exact Tch.setCell _ _ _ _ rfl
 have t2':Tch (fun i=>σ i=some (2*e.b+1)) W1 W2:=t2.mono (fun i _ e2=>by rw[e2];exact hc1.lab)
 have hsz:W2.heap.size=W1.heap.size:=by rw[hW2];simp
 have hd2: ∀i,σ' i≠none→i<W2.heap.size:=fun i hi=>by
  rw[hσ'] at hi
  rw[hsz]
  by_cases e2:(Value.slice vo ys.length vc).ownBlock=some i
  ·obtain⟨cur,hc⟩:=own_blk ho e2
   exact blk_lt hc
  ·simp only[if_neg e2] at hi
   exact hW1.dom i hi
 have hb2:W2.heap[e.b]? =some (.cells #[.slice vo ys.length vc] 72 (0,0)):=by
  rw[hW2];exact blk_set hc1.blk (i:=0) _
 have hne2: ∀g,(Value.slice vo ys.length vc).ownBlock=some g→ ¬g=e.b:=fun g hg=>row_ne ho hc1.blk (by decide) hg
 have hCB:CB W2 σ' e.b vo vc ys:=by
  refine⟨(hext _ (by rw[hc1.lab];exact fun h=>by cases h)).trans hc1.lab,hb2,own_low (own_tch ho t2 hne2) (Nat.zero_le _),fun g hg=>?_,fun z hz=>?_⟩
  ·rw[hσ'];exact if_pos hg
  ·have hz2:=hsub.subset hz
   refine(hc1.ok z hz2).tch t2 (fun g _ e2 j e3=>?_) (fun i _ hi=>hext i hi)
   rw[e2,hc1.lab] at e3
   injection e3 with e3;omega
 exact⟨σ',h.hw.no t1|>.setC t2' (h.hw.ene he) (fun p hp e2=>(h.hw.lne hp).2.2 e he e2) hext hd2 (Nat.le_refl _) (Nat.le_trans hsub.length_le hlq) hCB,hext,hold,t2'⟩
theorem en_eq (hek:E0.Pairwise (fun e f=> ¬(e.k=f.k∧e.s=f.s))) {x e:En} (hx:x∈E0) (he:e∈E0) (h:x.k=e.k∧x.s=e.s):x=e:=by
 have h1:=lkE_of_mem hek hx
 rw[h.1,h.2,lkE_of_mem hek he] at h1
 injection h1 with h1
 cases x;cases e
 simp only at h h1
 rw[h.1,h.2,h1]
theorem VI.td (h:VI w0 W hb mb tb m l T0 E0 C0 q σ0 dn T E C σ) (hek:E0.Pairwise (fun e f=> ¬(e.k=f.k∧e.s=f.s))) (heb:E0.Pairwise (fun e f=>e.b≠f.b)) {e:En} (he:e∈E) (hd:dn e=false) {vo:Option Addr} {vc:Nat} {W1 W2 W3:World} {σ':Nat→Option Nat} (t1:Tch (fun _=>False) W W1) (hold: ∀i,i<W.heap.size→σ i=none→σ' i=none)
  (t2:Tch (fun i=>σ i=some (2*e.b+1)) W1 W2) (tT: ∀p∈T',p∈T) (hw:HW W3 hb mb tb T' (tidE E e.k e.s (needVV m l (C0 e.b).2.2)) (upB C e.b (vo,vc,needVV m l (C0 e.b).2.2)) σ' q) (t3:Tch (fun i=>σ' i≠none) W2 W3):
  VI w0 W3 hb mb tb m l T0 E0 C0 q σ0 (fun x=>if x.k=e.k∧x.s=e.s then true else dn x) T' (tidE E e.k e.s (needVV m l (C0 e.b).2.2)) (upB C e.b (vo,vc,needVV m l (C0 e.b).2.2)) σ':=by
 have he0:=h.sub e he
 have hF: ∀i,i<w0.heap.size→σ0 i=none→σ' i=none:=fun i hi hs=>hold i (Nat.lt_of_lt_of_le hi h.t.size) (h.sn i hi hs)
 refine⟨hw,fun p hp=>h.tT p (tT p hp),?_,fun x hx=>?_,hF,?_⟩
 ·have hother: ∀x∈E0, ¬(x.k=e.k∧x.s=e.s)→(!(if x.k=e.k∧x.s=e.s then true else dn x)|| !(needVV m l (C0 x.b).2.2).isEmpty)=(!(dn x)|| !(needVV m l (C0 x.b).2.2).isEmpty):=fun x _ hn=>by rw[if_neg hn]
  by_cases hy:needVV m l (C0 e.b).2.2=[]
  ·unfold tidE
   rw[if_pos hy,h.eE,List.filter_filter]
   refine List.filter_congr (fun x hx=>?_)
   by_cases hk:x.k=e.k∧x.s=e.s
   ·have hxe:=en_eq hek hx he0 hk
    rw[if_pos hk,hxe,hy]
    simp
   ·rw[if_neg hk,decide_eq_true hk,Bool.true_and]
  ·unfold tidE
   rw[if_neg hy,h.eE]
   refine List.filter_congr (fun x hx=>?_)
   by_cases hk:x.k=e.k∧x.s=e.s
   ·have hxe:=en_eq hek hx he0 hk
    rw[if_pos hk,hxe,hd]
    cases hn:needVV m l (C0 e.b).2.2 with
    |nil=>exact absurd hn hy
    |cons a r=>rfl
   ·rw[if_neg hk]
 ·by_cases hk:x.k=e.k∧x.s=e.s
  ·have hxe:=en_eq hek hx he0 hk
   subst hxe
   rw[if_pos hk,upB_same]
   exact⟨fun _=>rfl,fun e2=>by cases e2⟩
  ·have hne:x.b≠e.b:=fun e2=>hk (by rw[pw_inj (fun e:En=>e.b) heb hx he0 e2];exact⟨rfl,rfl⟩)
   rw[if_neg hk,upB_other _ _ hne]
   exact h.eC x hx
 ·exact((h.t.trans t1 (fun _ _ e=>e.elim)).trans t2 (fun i hi e2 e3=>by rw[h.sn i hi e3] at e2;cases e2)).trans t3 (fun i hi e2 e3=>e2 (hF i hi e3))
end
theorem entT2 {T:List (Int×Nat)} {D:DataW Unit} (hk: ∀k zd,D.atKey (.int .i64 k) zd=atB (lkT T k) zd) {key v:Value} {kl:Lit} {y:DataW Unit×List MemPlace} (hkey:keyOf Tryz.prog 3 key=some kl) (hv:mapElem v=some y) (hat: ∀zd,D.atKey kl zd=y.1): ∃k l,key= .int .i64 k∧kl= .int .i64 k∧(k,l)∈T∧v= .map (some l)∧ -9223372036854775808≤k∧k≤9223372036854775807:=by
 obtain⟨k,rfl,rfl,hwf⟩:=Maps.keyOf_int_inv Tryz.underlying3 hkey
 have h0: ∀zd,atB (lkT T k) zd=y.1:=fun zd=>(hk k zd).symm.trans (hat zd)
 obtain⟨l,hl⟩:=atB_fix h0
 refine⟨k,l,rfl,rfl,lkT_mem hl,?_,?_⟩
 ·rw[mapElem_inv hv (o:=some l) (by rw[←h0 (.lit (.int .i64 (-1))),hl])]
  rfl
 ·have:=bounds_i64 hwf
  omega
theorem entE2 {E:List En} {D:DataW Unit} {k:Int} (hk: ∀s zd,D.atKey (.string s) zd=atB (lkE E k s) zd) {key v:Value} {kl:Lit} {y:DataW Unit×List MemPlace} (hkey:keyOf Tryz.prog 9 key=some kl) (hv:ptrElem v=some y) (hat: ∀zd,D.atKey kl zd=y.1): ∃e:En, ∃S:ByteArray,key= .string S∧S.size≤maxLen∧e.s=S.data.toList∧kl= .string e.s∧e∈E∧e.k=k∧v= .pointer (some ⟨e.b,0,none⟩):=by
 obtain⟨S,rfl,rfl,hS⟩:=WideMaps.string_of_keyOf Tryz.underlying9 hkey
 have h0: ∀zd,atB (lkE E k S.data.toList) zd=y.1:=fun zd=>(hk _ zd).symm.trans (hat zd)
 obtain⟨b,hb⟩:=atB_fix h0
 refine⟨⟨k,S.data.toList,b⟩,S,rfl,hS,rfl,rfl,lkE_mem hb,rfl,?_⟩
 rw[ptrElem_inv hv (o:=some b) (by rw[←h0 (.lit (.int .i64 (-1))),hb])]
 rfl
theorem SpR.keep {S:Nat→Prop} {W W':World} {ao:Option Addr} {ss:List SS} (h:SpR W ao ss) (t:Tch S W W') (h1: ∀a,ao=some a→ ¬S a.block) (h2: ∀z∈ss, ∀a,z.2.1=some a→ ¬S a.block):SpR W' ao ss:=fun i z hz=>by
 obtain⟨g,o,e,hg,c0,c1,c2,c3⟩:=h i z hz
 have c: ∀j u,W.cell? ⟨g,j,none⟩=some u→W'.cell? ⟨g,j,none⟩=some u:=fun j u hu=>(t.cell (p:=⟨g,j,none⟩) hg (show¬S g from h1 _ e)).trans hu
 refine⟨g,o,e,Nat.lt_of_lt_of_le hg t.size,c _ _ c0,c _ _ c1,c _ _ c2,fun k n hk=>?_⟩
 obtain⟨g2,o2,e2,c4⟩:=c3 k n hk
 exact⟨g2,o2,e2,(t.cell (p:=⟨g2,o2+k,none⟩) (cell_lt c4) (show¬S g2 from h2 z (List.mem_of_getElem? hz) _ e2)).trans c4⟩
def dnO (left1:Lit→Bool) (e:En):Bool:= !left1 (.int .i64 e.k)
def dnI (k:Int) (left1 left2:Lit→Bool) (e:En):Bool:=if e.k=k then !left2 (.string e.s) else !left1 (.int .i64 e.k)
def VQ (w W:World) (hb mb tb:Nat) (m:Mg) (l:List F.Sp) (T0:List (Int×Nat)) (E0:List En) (C0:Nat→Ch) (q:Nat) (σ0:Nat→Option Nat) (dn:En→Bool) (r1:Nat):Prop:= ∃T E C σ,VI w W hb mb tb m l T0 E0 C0 q σ0 dn T E C σ∧σ r1=none
def VR (w W:World) (hb mb tb:Nat) (m:Mg) (l:List F.Sp) (T0:List (Int×Nat)) (E0:List En) (C0:Nat→Ch) (q:Nat) (σ0:Nat→Option Nat) (dn:En→Bool) (r1:Nat) (left1:Lit→Bool) (c1:Nat) (k:Int) (lb r2:Nat) (left2:Lit→Bool) (c2:Nat):Prop:=
 ∃T E C σ D1 D2 c,VI w W hb mb tb m l T0 E0 C0 q σ0 dn T E C σ∧σ r1=none∧σ r2=none∧W.ranges Tryz.prog 3 mapElem tb r1 q D1 left1 c∧c≤c1∧W.ranges Tryz.prog 9 ptrElem lb r2 q D2 left2 c2∧ ∀s zd,D2.atKey (.string s) zd=atB (lkE E k s) zd
theorem vacuum_w (w:World) (hb mb tb:Nat) (m:Mg) (T0:List (Int×Nat)) (E0:List En) (C0:Nat→Ch) (σ0:Nat→Option Nat) (q:Nat) (F:Nat→Prop) (h:HW w hb mb tb T0 E0 C0 σ0 q) (hM:MF w mb m (fun i=>F i∨σ0 i≠none)) (hF: ∀i,F i→σ0 i=none∧i<w.heap.size) (hq:q≤1000000) (hN:cnt E0 C0 (fun _=>true)≤1000000)
  (lo:Option Addr) (lc:Nat) (ss:List SS) (hs:SpR w lo ss) (hlF: ∀a,lo=some a→F a.block) (hsF: ∀z∈ss, ∀a,z.2.1=some a→F a.block) (hl:ss.length≤1000) (hon: ∀z∈ss,z.1.on.length≤9223372036854775807):
  Calls Tryz.prog 26 #[.pointer (some ⟨hb,0,none⟩),.slice lo ss.length lc] w fun x w'=>x= .returned (.int .i64 (cnt E0 (Cx m (ss.map (·.1)) C0) (fun _=>true):Nat))∧ ∃T E C σ,VI w w' hb mb tb m (ss.map (·.1)) T0 E0 C0 q σ0 (fun _=>true) T E C σ:=by
 have c1:=h.c1
 obtain⟨D,hD,hk⟩:=h.mp
 obtain⟨l,hll⟩: ∃l,l=ss.map (·.1):=⟨_,rfl⟩
 rw[←hll]
 have Hl:Hid (l=ss.map (·.1)):=hll
 have HK:Hid (E0.Pairwise (fun e f=> ¬(e.k=f.k∧e.s=f.s))∧E0.Pairwise (fun e f=>e.b≠f.b)∧T0.Pairwise (fun p r=>p.1≠r.1)):=⟨h.ek,h.eb,h.tk⟩
 have HS:Hid (∀W,Tch (fun i=>σ0 i≠none) w W→SpR W lo ss):=fun W t=>hs.keep t (fun a e h=>h (hF _ (hlF a e)).1) (fun z hz a e h=>h (hF _ (hsF z hz a e)).1)
 have HM:Hid (MF w mb m (fun i=>F i∨σ0 i≠none)):=hM
 have HB:Hid ((ss.length≤1000∧ ∀z∈ss,z.1.on.length≤9223372036854775807)∧q≤1000000∧cnt E0 C0 (fun _=>true)≤1000000):=⟨⟨hl,hon⟩,hq,hN⟩
 have hfresh:σ0 w.heap.size=none:=by
  cases hs:σ0 w.heap.size with
  |none=>rfl
  |some a=>have:=h.dom _ (by rw[hs];exact fun h=>by cases h);omega
 have HV0:Hid (VI w w hb mb tb m l T0 E0 C0 q σ0 (fun _=>false) T0 E0 C0 σ0∧σ0 w.heap.size=none):=
  ⟨⟨h,fun _ h=>h,(List.filter_eq_self.2 (fun _ _=>rfl)).symm,fun e _=>⟨fun e2=>(by cases e2),fun _=>rfl⟩,fun _ _ h=>h,Tch.refl _ _⟩,hfresh⟩
 have Hst:Hid (∀e∈E0,(fun _=>false) e=dnO (Maps.has D) e):=fun e he=>by
  obtain⟨lb,hlb⟩:=h.et e he
  have hat: ∀zd,D.atKey (.int .i64 e.k) zd=encB lb:=fun zd=>by
   rw[hk]
   cases hT:lkT T0 e.k with
   |none=>exact absurd rfl (lkT_none hT _ hlb)
   |some l'=>
    have:=pw_inj (fun p:Int×Nat=>p.1) h.tk (lkT_mem hT) hlb rfl
    injection this with _ this
    rw[this];rfl
  show false= !Maps.has D (.int .i64 e.k)
  rw[Maps.has_true_of_atKey hat];rfl
 have Hz:Hid (cnt E0 (Cx m l C0) (dnO (Maps.has D))=0):=by
  show _=_
  rw[←cnt_none E0 (Cx m l C0)]
  exact cnt_congr (fun e he=>(Hst.out e he).symm)
 obtain⟨sn,hsn⟩: ∃sn,sn=ss.length:=⟨_,rfl⟩
 have Hsn:Hid (sn=ss.length):=hsn
 rw[←hsn]
 obtain⟨r1,hr1⟩: ∃r1,r1=w.heap.size:=⟨_,rfl⟩
 have Hr1:Hid (r1=w.heap.size):=hr1
 clear h hk hM hF hs hlF hsF hl hon hll hq hN hfresh hsn
 go_enter Tryz.func26,Tryz.ntmps26
 go_wp2_with (first
  |(at_range;refine wpList_range_own _ rfl _ 86 rfl 3 109 law_int Tryz.underlying86 mapElem tb q _ rfl hD ?_;intro w0 hrg0 hg0 hs0)
  |go_in)
 rw[←hr1] at hrg0 ⊢
 clear hr1
 have t0:=tch_range hg0
 try go_frame
 go_loopw [5] (fun v wr=> ∃(left1:Lit→Bool) (ct:Nat) (D1:DataW Unit) (N:Nat),v= .int .i64 (N:Nat)∧wr.ranges Tryz.prog 3 mapElem tb r1 q D1 left1 ct∧Hid (N=cnt E0 (Cx m l C0) (dnO left1))∧Hid (VQ w wr hb mb tb m l T0 E0 C0 q σ0 (dnO left1) r1))
  (fun _ wr=>wr.rangeLeft tb r1)
 case atStart=>
  refine⟨_,_,_,0,rfl,hrg0,Hz.out.symm,T0,E0,C0,σ0,?_,by rw[Hr1.out];exact HV0.out.2⟩
  exact(HV0.out.1.no t0).congr Hst.out
 case round=>
  obtain⟨left1,ct,D1,N,rfl,hrg,HN,HV⟩:=hrel
  go_wp2_with (first
   |(at_next;refine wpList_next_ranges _ rfl _ rfl 3 law_int mapElem id id (fun key _ _=>⟨key,rfl⟩) (fun v _ _=>⟨v,rfl⟩) tb r1 q _ _ _ rfl hrg ?_ ?_)
   |go_in)
  ·intro _ hl0
   have hN9:N=cnt E0 (Cx m l C0) (fun _=>true):=by
    rw[HN.out]
    exact cnt_congr (fun e _=>by show(!left1 _)=true;rw[hl0];rfl)
   have HV9:Hid (∃T E C σ,VI w wr hb mb tb m l T0 E0 C0 q σ0 (fun _=>true) T E C σ):=by
    obtain⟨T,E,C,σ,h9,_⟩:=HV.out
    exact⟨T,E,C,σ,h9.congr (fun e _=>by show(!left1 _)=true;rw[hl0];rfl)⟩
   have HN9:Hid (N=cnt E0 (Cx m l C0) (fun _=>true)):=hN9
   clear hrg hl0 HN HV hN9
   go_wp2
   go_ret
   exact⟨by rw[←HN9.out];rfl,HV9.out⟩
  ·intro x c kl yd yp w1 ct1 hkey hlx hv hat hrg1 hlt hg1 hs1 hen
   obtain⟨T,E,C,σ,hVI,hσ1⟩:=HV.out
   have hk1: ∀k zd,D1.atKey (.int .i64 k) zd=atB (lkT T k) zd:=by
    obtain⟨D9,hD9,hk9⟩:=hVI.hw.mp
    rw[owns_uniq hrg.owns hD9];exact hk9
   obtain⟨k,lb,hx,rfl,hkl,hc',b1,b2⟩:=entT2 (y:=(yd,yp)) hk1 hkey hv hat
   have hx':x= .int .i64 k:=hx
   have hc'':c= .map (some lb):=hc'
   subst hx' hc''
   have t1:Tch (fun i=>i=r1) wr w1:=Tch.of_grown hg1 (fun g e=>by cases e;rfl)
   have hVI1:=hVI.it (by rw[Hr1.out];exact Nat.le_refl _) hσ1 t1
   obtain⟨left1',hleft1'⟩: ∃left1':Lit→Bool,left1'=fun z=>left1 z && !z.sameKey (.int .i64 k):=⟨_,rfl⟩
   rw[←hleft1'] at hrg1
   obtain⟨_,D2,hD2,hk2⟩:=hVI1.hw.inn _ hkl
   simp only at hD2 hk2
   have hlk:left1 (.int .i64 k)=true:=hlx
   have hdn0: ∀e∈E0,dnO left1 e=dnI k left1' (Maps.has D2) e:=fun e he=>by
    unfold dnO dnI
    by_cases hek:e.k=k
    ·rw[if_pos hek,hek,hlk]
     have hin:e∈E:=by
      rw[hVI1.eE]
      refine List.mem_filter.2 ⟨he,?_⟩
      have:dnO left1 e=false:=by unfold dnO;rw[hek,hlk];rfl
      rw[this];rfl
     have hat2: ∀zd,D2.atKey (.string e.s) zd=encB e.b:=fun zd=>by rw[hk2, ←hek,lkE_of_mem hVI1.hw.ek hin];rfl
     rw[Maps.has_true_of_atKey hat2]
    ·rw[if_neg hek,hleft1']
     show _= !(left1 (.int .i64 e.k) && !Lit.sameKey (.int .i64 e.k) (.int .i64 k))
     rw[same_int,decide_eq_false hek];simp
   have hN2:N=cnt E0 (Cx m l C0) (dnI k left1' (Maps.has D2)):=by rw[HN.out];exact cnt_congr hdn0
   have HN2:Hid (N=cnt E0 (Cx m l C0) (dnI k left1' (Maps.has D2))):=hN2
   have HL1:Hid (left1' (.int .i64 k)=false∧(-9223372036854775808≤k∧k≤9223372036854775807)):=⟨by rw[hleft1'];show(left1 (.int .i64 k) && !Lit.sameKey (.int .i64 k) (.int .i64 k))=false;rw[same_int];simp,b1,b2⟩
   have HVR0:Hid (∀w2,Tch (fun _=>False) w1 w2→w2.ranges Tryz.prog 9 ptrElem lb w1.heap.size q D2 (Maps.has D2) (Maps.size D2)→VR w w2 hb mb tb m l T0 E0 C0 q σ0 (dnI k left1' (Maps.has D2)) r1 left1' ct1 k lb w1.heap.size (Maps.has D2) (Maps.size D2)):=fun w2 t2 hrg2=>by
    refine⟨T,E,C,σ,D1,D2,ct1,(hVI1.no t2).congr hdn0,hσ1,?_,ranges_no hrg1 t2,Nat.le_refl _,hrg2,hk2⟩
    cases hs:σ w1.heap.size with
    |none=>rfl
    |some a=>have:=hVI1.hw.dom _ (by rw[hs];exact fun h=>by cases h);omega
   have HT2:Hid (∀T':List (Int×Nat),(∀p∈T',p∈T0)→ ∀l',(k,l')∈T'→l'=lb):=fun T' hT' l' hl'=>by
    have:=pw_inj (fun p:Int×Nat=>p.1) HK.out.2.2 (hT' _ hl') (hVI1.tT _ hkl) rfl
    injection this with _ this
   have Hr2:Hid (w.heap.size≤w1.heap.size∧r1<w1.heap.size):=⟨hVI1.t.size,hrg1.lt⟩
   obtain⟨wV,hwV⟩: ∃wV,wV=wr:=⟨_,rfl⟩
   subst hwV
   have Hlt:Hid (ct1<ct):=hlt
   have Hrg:Hid (wV.ranges Tryz.prog 3 mapElem tb r1 q D1 left1 ct):=hrg
   clear hkey hlx hv hat hrg1 hlt hg1 hs1 hrg HV HN hVI hVI1 hk1 hk2 hdn0 hN2 hσ1 hkl hc' hx b1 b2 t1 hlk
   go_wp2_with (first
    |(at_range;refine wpList_range_own _ rfl _ 109 rfl 9 110 law_str Tryz.underlying109 ptrElem lb q _ rfl hD2 ?_;intro w2 hrg2 hg2 hs2)
    |go_in)
   have HVR1:Hid (VR w w2 hb mb tb m l T0 E0 C0 q σ0 (dnI k left1' (Maps.has D2)) r1 left1' ct1 k lb w1.heap.size (Maps.has D2) (Maps.size D2)):=HVR0.out w2 (tch_range hg2) hrg2
   obtain⟨r2,hr2⟩: ∃r2,r2=w1.heap.size:=⟨_,rfl⟩
   rw[←hr2] at HVR1 Hr2 ⊢
   clear hrg2 hg2 hs2 HVR0 hD2 hr2
   try go_frame
   go_loopw [5] (fun v wr=> ∃(left2:Lit→Bool) (c2:Nat) (N:Nat),v= .int .i64 (N:Nat)∧Hid (N=cnt E0 (Cx m l C0) (dnI k left1' left2))∧Hid (VR w wr hb mb tb m l T0 E0 C0 q σ0 (dnI k left1' left2) r1 left1' ct1 k lb r2 left2 c2))
    (fun _ wr=>wr.rangeLeft lb r2)
   case atStart=>exact⟨_,_,N,rfl,HN2,HVR1⟩
   case round=>
    obtain⟨left2,c2,N3,rfl,HN3,HVR⟩:=hrel
    obtain⟨wU,hwU⟩: ∃wU,wU=wr:=⟨_,rfl⟩
    subst hwU
    clear HN2 HVR1
    obtain⟨T,E,C,σ,D1,D2,c,hVI,hσ1,hσ2,hrg1,hc,hrg2,hk2⟩:=HVR.out
    go_wp2_with (first
     |(at_next;refine wpList_next_ranges _ rfl _ rfl 9 law_str ptrElem id id (fun key _ _=>⟨key,rfl⟩) (fun v _ _=>⟨v,rfl⟩) lb r2 q _ _ _ rfl hrg2 ?_ ?_)
     |go_in)
    ·intro _ hl0
     have hdn9: ∀e∈E0,dnI k left1' left2 e=dnO left1' e:=fun e _=>by
      unfold dnI dnO
      by_cases hek:e.k=k
      ·rw[if_pos hek,hl0,hek,HL1.out.1]
      ·rw[if_neg hek]
     have HN4:Hid (N3=cnt E0 (Cx m l C0) (dnO left1')):=by show _=_;rw[HN3.out];exact cnt_congr hdn9
     have HVQ:Hid (VQ w wU hb mb tb m l T0 E0 C0 q σ0 (dnO left1') r1):=⟨T,E,C,σ,hVI.congr hdn9,hσ1⟩
     have Hrg1:Hid (wU.ranges Tryz.prog 3 mapElem tb r1 q D1 left1' c):=hrg1
     have Hc:Hid (c≤ct1):=hc
     clear hVI hrg1 hrg2 hk2 hc hl0 hdn9 hσ1 hσ2 HVR
     go_wp2_with fail
     go_roundw
     case rel=>exact⟨left1',c,D1,N3,rfl,Hrg1.out,HN4,HVQ⟩
     case measure=>rw[Hrg1.out.left_eq,Hrg.out.left_eq];have:=Hc.out;have:=Hlt.out;omega
    ·intro x c0 kl yd yp w3 c3 hkey hlx hv hat hrg3 hlt hg3 hs3 hen3
     obtain⟨e,S,hx,hS,heS,rfl,heE,hek,hc'⟩:=entE2 (y:=(yd,yp)) hk2 hkey hv hat
     have hx':x= .string S:=hx
     have hc'':c0= .pointer (some ⟨e.b,0,none⟩):=hc'
     subst hx' hc''
     have t3:Tch (fun i=>i=r2) wU w3:=Tch.of_grown hg3 (fun g e=>by cases e;rfl)
     have hVI3:=hVI.it Hr2.out.1 hσ2 t3
     have hlk2:left2 (.string e.s)=true:=hlx
     obtain⟨left2',hleft2'⟩: ∃left2':Lit→Bool,left2'=fun z=>left2 z && !z.sameKey (.string e.s):=⟨_,rfl⟩
     rw[←hleft2'] at hrg3
     have htbr2:r2≠tb:=by obtain⟨Dt,hDt,_⟩:=hVI.hw.mp;exact ranges_ne hrg2 hDt
     have hrg13:=ranges_tch hrg1 t3 (fun e=>htbr2 e.symm) (by have:=Hr2.out.2;omega)
     have hd:dnI k left1' left2 e=false:=by unfold dnI;rw[if_pos hek,hlk2];rfl
     have hCe:=(hVI3.eC e (hVI3.sub e heE)).2 hd
     obtain⟨hcb,hlq⟩:=hVI3.hw.chs e heE
     rw[hCe] at hcb hlq
     have hq6:=HB.out.2.1
     have qn:=needed_any hb mb m w3 (fun i=>F i∨σ i≠none) (hVI3.mf HM.out) hVI3.hw.c0 (C0 e.b).1 (C0 e.b).2.1 (C0 e.b).2.2 (Nat.le_trans hlq hq6) (vrd_of hcb.row) (fun z hz=>⟨(hcb.ok z hz).lo,(hcb.ok z hz).hi⟩) lo lc ss (HS.out w3 hVI3.t) HB.out.1.1 HB.out.1.2
     rw[←Hl.out, ←Hsn.out] at qn
     have hls2:left2' (.string S.data.toList)=false:=by
      rw[hleft2', ←heS]
      show(left2 (.string e.s) && !Lit.sameKey (.string e.s) (.string e.s))=false
      rw[same_str];simp
     have hmeE:(⟨k,S.data.toList,e.b⟩:En)∈E:=by
      have:e=⟨k,S.data.toList,e.b⟩:=by rw[←hek, ←heS]
      rw[←this];exact heE
     have hdn2: ∀x∈E0,(if x.k=e.k∧x.s=e.s then true else dnI k left1' left2 x)=dnI k left1' left2' x:=fun x _=>by
      unfold dnI
      by_cases hxk:x.k=k
      ·rw[if_pos hxk,if_pos hxk,hleft2']
       show _= !(left2 (.string x.s) && !Lit.sameKey (.string x.s) (.string e.s))
       rw[same_str,hek]
       by_cases hxs:x.s=e.s
       ·rw[if_pos ⟨hxk,hxs⟩,decide_eq_true hxs];simp
       ·rw[if_neg (fun h=>hxs h.2),decide_eq_false hxs];simp
      ·rw[if_neg hxk,if_neg hxk,if_neg (fun h=>hxk (h.1.trans hek))]
     obtain⟨ny,hny⟩: ∃ny,ny=(needVV m l (C0 e.b).2.2).length:=⟨_,rfl⟩
     have HAft:Hid (∀w4 vo vc,Tch (fun _=>False) w3 w4→w4.ownsRow w3.heap.size 69 3 (.slice vo ny vc) ny (vrl (needVV m l (C0 e.b).2.2))→Calls Tryz.prog 54 #[.pointer (some ⟨hb,0,none⟩),.int .i64 k,.string S] (w4.setCell ⟨e.b,0,none⟩ (.slice vo ny vc)) fun x w'=>x= .returned (.tuple #[])∧ ∃c2',c2'<c2∧VR w w' hb mb tb m l T0 E0 C0 q σ0 (dnI k left1' left2') r1 left1' ct1 k lb r2 left2' c2'):=fun w4 vo vc t4 ho=>by
      rw[hny] at ho ⊢
      obtain⟨σ',hw5,hext,hold,t5⟩:=hVI3.put heE hd t4 ho
      obtain⟨l',hl'⟩:=hVI3.hw.et e heE
      rw[hek] at hl'
      have hlb:=HT2.out T hVI3.tT l' hl'
      subst hlb
      have hσl:=(hVI3.hw.inn _ hl').1
      simp only at hσl
      have hlne:=(hVI3.hw.lne hl').2.2 e heE
      simp only at hlne
      have n1: ¬σ tb=some (2*e.b+1):=fun h=>by
       rw[hVI3.hw.lt] at h
       injection h with h
       exact hVI3.hw.ene heE (by omega)
      have n2: ¬σ l'=some (2*e.b+1):=fun h=>by
       rw[hσl] at h
       injection h with h
       exact hlne (by omega)
      have hr1':=ranges_tch (ranges_no hrg13 t4) t5 n1 (by rw[hσ1];exact fun h=>by cases h)
      have hr2':=ranges_tch (ranges_no hrg3 t4) t5 n2 (by rw[hσ2];exact fun h=>by cases h)
      refine(tidy_r _ hb mb tb T E _ σ' q hw5 k HL1.out.2.1 HL1.out.2.2 S hS e.b hmeE vo vc _ (upB_same _ _ _) l' hl' r1 q D1 left1' c hr1' HL1.out.1 r2 q D2 left2' c3 hr2' hls2).mono ?_
      rintro x w6 ⟨rfl,⟨T',hT',hw6⟩,⟨D1',c1',hrg1',hc1'⟩,⟨D2',c2',hrg2',hc2',hk2'⟩,t6⟩
      have e1:tidE E k S.data.toList (needVV m l (C0 e.b).2.2)=tidE E e.k e.s (needVV m l (C0 e.b).2.2):=by rw[hek,heS]
      rw[e1] at hw6 hk2'
      have h9:=(hVI3.td HK.out.1 HK.out.2.1 heE hd t4 hold t5 hT' hw6 t6).congr hdn2
      have g1:=hVI3.hw.dom
      refine⟨rfl,c2',by omega,T',_,_,σ',D1',D2',c1',h9,hold r1 hrg13.lt hσ1,hold r2 hrg3.lt hσ2,hrg1',by omega,hrg2',?_⟩
      exact hk2'
     have hcnt:cnt E0 (Cx m l C0) (dnI k left1' left2')=cnt E0 (Cx m l C0) (dnI k left1' left2)+(Cx m l C0 e.b).2.2.length:=by
      refine cnt_step HK.out.2.1 (hVI3.sub e heE) hd ?_ (fun x hx hne=>?_)
      ·rw[←hdn2 e (hVI3.sub e heE),if_pos ⟨rfl,rfl⟩]
      ·rw[←hdn2 x hx,if_neg (fun h=>hne (en_eq HK.out.1 hx (hVI3.sub e heE) h))]
     rw[cx_len, ←hny, ←HN3.out] at hcnt
     have hle:=(needVV_sub m l (C0 e.b).2.2).length_le
     rw[←hny] at hle
     have hNle:cnt E0 (Cx m l C0) (dnI k left1' left2')≤1000000:=by
      refine Nat.le_trans (Nat.le_trans (cnt_le _ _ _) ?_) HB.out.2.2
      unfold cnt
      have key: ∀E:List En,(E.map (fun e=>if true=true then(Cx m l C0 e.b).2.2.length else 0)).sum≤(E.map (fun e=>if true=true then(C0 e.b).2.2.length else 0)).sum:=fun E=>by
       induction E with
       |nil=>exact Nat.le_refl _
       |cons a r ih=>
        rw[List.map_cons,List.map_cons,List.sum_cons,List.sum_cons]
        refine Nat.add_le_add ?_ ih
        rw[if_pos rfl,if_pos rfl,cx_len];omega
      exact key E0
     have ec3:w3.cell? ⟨e.b,0,none⟩=some (.slice (C0 e.b).1 (C0 e.b).2.2.length (C0 e.b).2.1):=by rw[blk_cell hcb.blk];rfl
     have Heb:Hid (w3.heap[e.b]? =some (.cells #[.slice (C0 e.b).1 (C0 e.b).2.2.length (C0 e.b).2.1] 72 (0,0))):=hcb.blk
     rw[←hny] at qn
     obtain⟨co,cc,n,hco⟩: ∃co cc n,(C0 e.b).1=co∧(C0 e.b).2.1=cc∧(C0 e.b).2.2.length=n:=⟨_,_,_,rfl,rfl,rfl⟩
     rw[hco.1,hco.2.1,hco.2.2] at ec3 Heb qn
     rw[hco.2.2] at hcnt hle hlq
     rw[hcnt] at hNle
     have Hcnt:Hid (cnt E0 (Cx m l C0) (dnI k left1' left2')=N3+(n - ny)):=hcnt
     have Hrg2:Hid (wU.ranges Tryz.prog 9 ptrElem lb r2 q D2 left2 c2):=hrg2
     have hn6:n≤1000000:=Nat.le_trans hlq hq6
     have hwp1:wrap64 ((n:Int) - (ny:Int))=((n - ny:Nat):Int):=by unfold wrap64;omega
     have hwp2:wrap64 ((N3:Int)+((n - ny:Nat):Int))=((N3+(n - ny):Nat):Int):=by unfold wrap64;omega
     clear hVI hVI3 hrg1 hrg2 hk2 hc hσ1 hσ2 HVR hkey hlx hv hat hrg3 hg3 hs3 heS heE hek hc' hx t3 hlk2 hleft2' htbr2 hrg13 hd hCe hcb hlq hq6 hls2 hmeE hdn2 hny hcnt hco hS HN3 hlt
     go_wp2_with fail
     refine qn.mono ?_
     rintro x w4 ⟨⟨vo,vc,rfl,ho⟩,t4⟩
     have hA:=HAft.out w4 vo vc t4 ho
     have b4:=(t4.block _ (blk_lt Heb.out) (fun h=>h)).trans Heb.out
     have ec4:w4.cell? ⟨e.b,0,none⟩=some (.slice co n cc):=by rw[blk_cell b4];rfl
     have fz:=fun i=>blk_frozen b4 i
     have HA:Hid (Calls Tryz.prog 54 #[.pointer (some ⟨hb,0,none⟩),.int .i64 k,.string S] (w4.setCell ⟨e.b,0,none⟩ (.slice vo ny vc)) fun x w'=>x= .returned (.tuple #[])∧ ∃c2',c2'<c2∧VR w w' hb mb tb m l T0 E0 C0 q σ0 (dnI k left1' left2') r1 left1' ct1 k lb r2 left2' c2'):=hA
     clear hA qn HAft ho t4 b4 ec3
     go_wp2_with fail
     refine HA.out.mono ?_
     rintro x w5 ⟨rfl,c2',hc2',hVR5⟩
     have HVR5:Hid (VR w w5 hb mb tb m l T0 E0 C0 q σ0 (dnI k left1' left2') r1 left1' ct1 k lb r2 left2' c2'):=hVR5
     have Hc2:Hid (c2'<c2):=hc2'
     clear HA ec4 fz hVR5 hc2'
     go_wp2_with fail
     go_roundw
     case rel=>exact⟨left2',c2',N3+(n - ny),by go_num,Hcnt.out.symm,HVR5⟩
     case measure=>
      obtain⟨_,_,_,_,_,_,_,_,_,_,_,_,hr,_⟩:=HVR5.out
      rw[hr.left_eq,Hrg2.out.left_eq];exact Hc2.out
def totL (L:HL):Nat:=(L.map (fun p=>p.2.length)).sum
def vacL (m:Mg) (l:List F.Sp) (L:HL):HL:=(L.map (fun p=>(p.1,F.needV m l p.2))).filter (fun p=> !p.2.isEmpty)
theorem vacL_cons (m:Mg) (l:List F.Sp) (p:(Int×List UInt8)×List Ver) (L:HL):vacL m l (p::L)=if (F.needV m l p.2).isEmpty then vacL m l L else(p.1,F.needV m l p.2)::vacL m l L:=by
 unfold vacL
 rw[List.map_cons,List.filter_cons]
 cases (F.needV m l p.2).isEmpty<;>rfl
theorem tot_cons (p:(Int×List UInt8)×List Ver) (L:HL):totL (p::L)=p.2.length+totL L:=by
 unfold totL;rw[List.map_cons,List.sum_cons]
theorem tot_vac (m:Mg) (l:List F.Sp): ∀L:HL,totL (vacL m l L)=(L.map (fun p=>(F.needV m l p.2).length)).sum
 |[]=>rfl
 |p::L=>by
  have ih:=tot_vac m l L
  rw[vacL_cons,List.map_cons,List.sum_cons]
  cases h:F.needV m l p.2 with
  |nil=>rw[if_pos (by rfl),ih];simp
  |cons a r=>rw[if_neg (by simp),tot_cons,ih]
theorem tot_fix (m:Mg) (l:List F.Sp) {L:HL} (h: ∀p∈L,F.needV m l p.2=p.2):totL (vacL m l L)=totL L:=by
 rw[tot_vac]
 unfold totL
 congr 1
 exact List.map_congr_left (fun p hp=>by rw[h p hp])
theorem vac_mem {m:Mg} {l:List F.Sp} {L:HL} {p:(Int×List UInt8)×List Ver} (h:p∈vacL m l L): ∃a∈L,p.1=a.1∧p.2=F.needV m l a.2:=by
 obtain⟨a,ha,e⟩:=List.mem_map.1 (List.mem_filter.1 h).1
 exact⟨a,ha,by rw[←e],by rw[←e]⟩
theorem chL_cons (p:(Int×List UInt8)×List Ver) (L:HL) (k:Int) (s:List UInt8):chL (p::L) k s=if p.1=(k,s) then p.2 else chL L k s:=by
 unfold chL
 rw[List.find?_cons]
 by_cases h:p.1=(k,s)
 ·rw[decide_eq_true h,if_pos h]
 ·rw[decide_eq_false h,if_neg h]
theorem chL_no {L:HL} {k:Int} {s:List UInt8} (h: ∀p∈L,p.1≠(k,s)):chL L k s=[]:=by
 unfold chL
 rw[List.find?_eq_none.2 (fun p hp=>by simpa using h p hp)]
theorem chL_vac (m:Mg) (l:List F.Sp) (k:Int) (s:List UInt8): ∀ {L:HL},L.Pairwise (fun p r=>p.1≠r.1)→chL (vacL m l L) k s=F.needV m l (chL L k s)
 |[],_=>rfl
 |p::L,h=>by
  obtain⟨h1,h2⟩:=List.pairwise_cons.1 h
  have ih:=chL_vac m l k s h2
  rw[vacL_cons,chL_cons]
  by_cases e:p.1=(k,s)
  ·rw[if_pos e]
   have hno:chL (vacL m l L) k s=[]:=chL_no (fun r hr e2=>by
    obtain⟨a,ha,e3,_⟩:=vac_mem hr
    exact h1 a ha (by rw[e, ←e2,e3]))
   cases hn:F.needV m l p.2 with
   |nil=>rw[if_pos (by rfl)];exact hno
   |cons a r=>rw[if_neg (by simp),chL_cons,if_pos e]
  ·rw[if_neg e, ←ih]
   split
   ·rfl
   ·rw[chL_cons,if_neg e]
theorem chL_mem {L:HL} (h:L.Pairwise (fun p r=>p.1≠r.1)): ∀p∈L,chL L p.1.1 p.1.2=p.2:=fun p hp=>by
 induction L with
 |nil=>cases hp
 |cons a L ih=>
  obtain⟨h1,h2⟩:=List.pairwise_cons.1 h
  rw[chL_cons]
  rcases List.mem_cons.1 hp with e|hp
  ·rw[e,if_pos rfl]
  ·rw[if_neg (h1 p hp)];exact ih h2 hp
theorem vac_dist (m:Mg) (l:List F.Sp) {L:HL} (h:L.Pairwise (fun p r=>p.1≠r.1)):(vacL m l L).Pairwise (fun p r=>p.1≠r.1):=by
 unfold vacL
 refine List.Pairwise.filter _ ?_
 rw[List.pairwise_map]
 exact h
theorem len_le {α β:Type} [BEq β] [LawfulBEq β] (f:α→β): ∀(l:List α) (S:List β),l.Pairwise (fun a b=>f a≠f b)→(∀a∈l,f a∈S)→l.length≤S.length
 |[],_,_,_=>Nat.zero_le _
 |a::l,S,h,hS=>by
  obtain⟨h1,h2⟩:=List.pairwise_cons.1 h
  have ha:=hS a List.mem_cons_self
  have:=len_le f l (S.erase (f a)) h2 (fun b hb=>(List.mem_erase_of_ne (fun e=>h1 b hb e.symm)).2 (hS b (List.mem_cons_of_mem _ hb)))
  rw[List.length_erase_of_mem ha] at this
  have h0:=List.length_pos_of_mem ha
  rw[List.length_cons];omega
section
variable {w:World} {hb mb q:Nat} {m:Mg} {L:HL} {G:Nat→Prop}
theorem HS.dist (h:HS w hb mb m L G q):L.Pairwise (fun p r=>p.1≠r.1)∧ ∀p∈L,p.2.length≤q:=by
 obtain⟨tb,T,E,C,σ,hw,rfl,_,_,_⟩:=h
 refine⟨?_,fun p hp=>?_⟩
 ·unfold labs
  rw[List.pairwise_map]
  exact hw.ek.imp (fun hne e=>hne (by simpa[Prod.ext_iff] using e))
 ·obtain⟨e,he,rfl⟩:=List.mem_map.1 hp
  rw[List.length_map];exact(hw.chs e he).2
theorem tot_le {n:Nat} : ∀ {L:HL},(∀p∈L,p.2.length≤n)→totL L≤L.length*n
 |[],_=>Nat.zero_le _
 |p::L,h=>by
  have ih:=tot_le (fun r hr=>h r (List.mem_cons_of_mem _ hr))
  have h0:=h p List.mem_cons_self
  rw[tot_cons,List.length_cons,Nat.succ_mul];omega
theorem HS.tot (h:HS w hb mb m L G q) {K:Nat→List F.Vn} (hK:F.HK L K):totL L≤6*q:=by
 obtain⟨h1,h2⟩:=h.dist
 refine Nat.le_trans (tot_le h2) (Nat.mul_le_mul_right q ?_)
 refine len_le (fun p:(Int×List UInt8)×List Ver=>p.1) L [((1:Int),(keyB 0).data.toList),(1,(keyB 1).data.toList),(1,(keyB 2).data.toList),(1,(keyB 3).data.toList),(1,(keyB 4).data.toList),(1,(keyB 5).data.toList)] h1 (fun p hp=>?_)
 obtain⟨κ,hκ,e⟩:=hK.2 p hp
 show p.1∈_
 rw[e]
 rcases(by omega:κ=0∨κ=1∨κ=2∨κ=3∨κ=4∨κ=5) with rfl|rfl|rfl|rfl|rfl|rfl<;>simp
theorem hk_vac {K:Nat→List F.Vn} (hK:F.HK L K) (hd:L.Pairwise (fun p r=>p.1≠r.1)) (m:Mg) (l:List F.Sp):F.HK (vacL m l L) (fun κ=>F.needN m l (K κ)):=by
 refine⟨fun κ hκ=>?_,fun p hp=>?_⟩
 ·rw[chL_vac m l _ _ hd,hK.1 κ hκ,F.needV_map]
 ·obtain⟨a,ha,e,_⟩:=vac_mem hp
  rw[e];exact hK.2 a ha
theorem hk_fix {K:Nat→List F.Vn} (hK:F.HK L K) (hd:L.Pairwise (fun p r=>p.1≠r.1)) {m:Mg} {l:List F.Sp} (h: ∀κ,κ<6→F.needN m l (K κ)=K κ):totL (vacL m l L)=totL L:=by
 refine tot_fix m l (fun p hp=>?_)
 obtain⟨κ,hκ,e⟩:=hK.2 p hp
 have h1:=chL_mem hd p hp
 rw[e] at h1
 simp only at h1
 rw[hK.1 κ hκ] at h1
 rw[←h1,F.needV_map,h κ hκ]
theorem vacuum_h (h:HS w hb mb m L G q) (hq:q≤1000000) (hN:totL L≤1000000) (lo:Option Addr) (lc:Nat) (ss:List SS) (hs:SpR w lo ss) (hlF: ∀a,lo=some a→G a.block) (hsF: ∀z∈ss, ∀a,z.2.1=some a→G a.block) (hl:ss.length≤1000) (hon: ∀z∈ss,z.1.on.length≤9223372036854775807):
  Calls Tryz.prog 26 #[.pointer (some ⟨hb,0,none⟩),.slice lo ss.length lc] w fun x w'=>(∃n:Nat,x= .returned (.int .i64 n)∧n+totL (vacL m (ss.map (·.1)) L)=totL L)∧HS w' hb mb m (vacL m (ss.map (·.1)) L) G q∧Kept G w w':=by
 obtain⟨tb,T,E,C,σ,hw,rfl,hne,hM,hF⟩:=h
 have hN':cnt E C (fun _=>true)≤1000000:=by rw[cnt_all];exact hN
 refine(vacuum_w w hb mb tb m T E C σ q G hw hM hF hq hN' lo lc ss hs hlF hsF hl hon).mono ?_
 rintro x w' ⟨rfl,T',E',C',σ',hV⟩
 obtain⟨l,hl9⟩: ∃l,l=ss.map (·.1):=⟨_,rfl⟩
 rw[←hl9] at hV ⊢
 have hE':E'=E.filter (fun e=> !(needVV m l (C e.b).2.2).isEmpty):=by rw[hV.eE];exact List.filter_congr (fun e _=>by simp)
 have hvl:vacL m l (labs E C)=(E.filter (fun e=> !(needVV m l (C e.b).2.2).isEmpty)).map (fun e=>((e.k,e.s),(needVV m l (C e.b).2.2).map (·.1))):=by
  unfold vacL labs
  rw[List.map_map,List.filter_map]
  have e1: ∀e:En,F.needV m l ((C e.b).2.2.map (·.1))=(needVV m l (C e.b).2.2).map (·.1):=fun e=>(needVV_fst m l _).symm
  have e2:(fun e:En=>(((e.k,e.s),F.needV m l ((C e.b).2.2.map (·.1))):(Int×List UInt8)×List Ver))=fun e=>((e.k,e.s),(needVV m l (C e.b).2.2).map (·.1)):=funext fun e=>by rw[e1]
  show List.map (fun e:En=>(((e.k,e.s),F.needV m l ((C e.b).2.2.map (·.1))):(Int×List UInt8)×List Ver)) _=_
  rw[e2]
  congr 1
  refine List.filter_congr (fun e _=>?_)
  show(!(F.needV m l ((C e.b).2.2.map (·.1))).isEmpty)=_
  rw[e1,List.isEmpty_map]
 have hlab:labs E' C'=vacL m l (labs E C):=by
  rw[hvl, ←hE']
  unfold labs
  refine List.map_congr_left (fun e he=>?_)
  have he0:e∈E:=by rw[hE'] at he;exact(List.mem_filter.1 he).1
  rw[(hV.eC e he0).1 rfl]
 have hsum: ∀E:List En,cnt E (Cx m l C) (fun _=>true)+totL (vacL m l (labs E C))=totL (labs E C):=fun E=>by
  rw[tot_vac]
  unfold cnt totL labs
  induction E with
  |nil=>rfl
  |cons e r ih=>
   simp only[List.map_cons,List.sum_cons,if_true,cx_len,List.length_map] at ih ⊢
   have h1:(F.needV m l ((C e.b).2.2.map (·.1))).length=(needVV m l (C e.b).2.2).length:=by rw[←needVV_fst,List.length_map]
   have h2:=(needVV_sub m l (C e.b).2.2).length_le
   omega
 refine⟨⟨_,rfl,hsum E⟩,⟨tb,T',E',C',σ',hV.hw,hlab,fun e he=>?_,hV.mf hM,fun i hi=>⟨hV.sn i (hF i hi).2 (hF i hi).1,Nat.lt_of_lt_of_le (hF i hi).2 hV.t.size⟩⟩,hV.t.mono (fun i _ hs hf=>hs (hF i hf).1)⟩
 rw[hE'] at he
 obtain⟨he0,h2⟩:=List.mem_filter.1 he
 rw[(hV.eC e he0).1 rfl]
 intro e3
 rw[e3] at h2;cases h2
end
end Go.Proofs.YtppokgdofgigfaaGreat
