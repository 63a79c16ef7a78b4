import Derived.Test.YtppokgdofgigfaaGreatMUnd
import Derived.Test.YtppokgdofgigfaaGreatMLayC
import Derived.Defers
import Derived.Laws.EntriesVeiled
set_option maxHeartbeats 4000000
set_option maxRecDepth 100000
namespace Go.Proofs.YtppokgdofgigfaaGreat
open Go.RowKit Go Go.Sort Go.Maps
abbrev HL:=List ((Int×List UInt8)×List Ver)
def labs (E:List En) (C:Nat→Ch):HL:=E.map (fun e=>((e.k,e.s),(C e.b).2.2.map (·.1)))
def chL (L:HL) (k:Int) (s:List UInt8):List Ver:=match L.find? (fun p=>decide (p.1=(k,s))) with
 |some p=>p.2
 |none=>[]
def appL (L:HL) (k:Int) (s:List UInt8) (v:Ver):HL:=if L.any (fun p=>decide (p.1=(k,s))) then L.map (fun p=>if p.1=(k,s) then(p.1,p.2++[v]) else p) else L++[((k,s),[v])]
theorem find_labs (E:List En) (C:Nat→Ch) (k:Int) (s:List UInt8):(labs E C).find? (fun p=>decide (p.1=(k,s)))=(E.find? (fun e=>decide (e.k=k∧e.s=s))).map (fun e=>((e.k,e.s),(C e.b).2.2.map (·.1))):=by
 unfold labs
 rw[List.find?_map]
 congr 1
 refine congrArg (fun p=>List.find? p E) (funext fun e=>?_)
 simp[Prod.ext_iff]
theorem chL_labs (E:List En) (C:Nat→Ch) (k:Int) (s:List UInt8):chL (labs E C) k s=match lkE E k s with|some b=>(C b).2.2.map (·.1)|none=>[]:=by
 unfold chL lkE
 rw[find_labs]
 cases E.find? (fun e=>decide (e.k=k∧e.s=s)) with
 |none=>rfl
 |some e=>rfl
theorem any_labs (E:List En) (C:Nat→Ch) (k:Int) (s:List UInt8):(labs E C).any (fun p=>decide (p.1=(k,s)))=(lkE E k s).isSome:=by
 unfold lkE
 unfold labs
 rw[Option.isSome_map,List.any_map,Bool.eq_iff_iff,List.find?_isSome]
 simp[Prod.ext_iff]
def insE (m:Mg) (mn mx:Int) (l:List Int) (own:Int) (c:List Ver):Nat:=match c.reverse.find? (fun v=>((m.state v.wr:Int) !=4)) with
 |none=>0
 |some v=>if m.sees mn mx l own v.wr then(if v.th then 91 else 0) else 92
theorem find_last {zs:List VV} {p:VV→Bool} {k:Nat} {z:VV} (hz:zs[k]? =some z) (hp:p z=true) (hl: ∀(j:Nat) (u:VV),k<j→zs[j]? =some u→p u=false):zs.reverse.find? p=some z:=by
 have hk:k<zs.length:=(List.getElem?_eq_some_iff.1 hz).1
 have e:zs=zs.take k++z::zs.drop (k+1):=by
  have:zs[k]=z:=(List.getElem?_eq_some_iff.1 hz).2
  rw[←this, ←List.drop_eq_getElem_cons hk,List.take_append_drop]
 rw[e]
 simp only[List.reverse_append,List.reverse_cons,List.append_assoc]
 rw[List.find?_append]
 have:(zs.drop (k+1)).reverse.find? p=none:=by
  rw[List.find?_eq_none]
  intro u hu
  rw[List.mem_reverse] at hu
  obtain⟨i,hi⟩:=List.mem_iff_getElem?.1 hu
  rw[List.getElem?_drop] at hi
  rw[hl _ _ (by omega) hi];exact fun h=>by cases h
 rw[this]
 simp[hp]
theorem find_map (zs:List VV) (f:Ver→Bool):(zs.map (·.1)).reverse.find? f=(zs.reverse.find? (fun z=>f z.1)).map (·.1):=by
 rw[←List.map_reverse,List.find?_map];rfl
theorem insE_none {m:Mg} {mn mx:Int} {l:List Int} {own:Int} {zs:List VV} (h: ∀z∈zs,((m.state z.1.wr:Int) !=4)=false):insE m mn mx l own (zs.map (·.1))=0:=by
 unfold insE
 rw[find_map]
 have:zs.reverse.find? (fun z=>((m.state z.1.wr:Int) !=4))=none:=by
  rw[List.find?_eq_none]
  intro z hz
  rw[h z (List.mem_reverse.1 hz)];exact fun h=>by cases h
 rw[this];rfl
theorem insE_some {m:Mg} {mn mx:Int} {l:List Int} {own:Int} {zs:List VV} {k:Nat} {z:VV} (hz:zs[k]? =some z) (hp:((m.state z.1.wr:Int) !=4)=true) (hl: ∀(j:Nat) (u:VV),k<j→zs[j]? =some u→((m.state u.1.wr:Int) !=4)=false):insE m mn mx l own (zs.map (·.1))=if m.sees mn mx l own z.1.wr then(if z.1.th then 91 else 0) else 92:=by
 unfold insE
 rw[find_map,find_last (p:=fun z=>((m.state z.1.wr:Int) !=4)) hz hp hl];rfl
section
variable {E E':List En} {C C':Nat→Ch} {k:Int} {s:List UInt8} {cb:Nat} {co:Option Addr} {cc:Nat} {zs:List VV} {z:VV}
theorem labs_app (hek:E.Pairwise (fun e f=> ¬(e.k=f.k∧e.s=f.s))) (heb:E.Pairwise (fun e f=>e.b≠f.b)) (hC:C' cb=(co,cc,zs++[z])) (hold:(E'=E∧lkE E k s=some cb∧(C cb).2.2=zs)∨(E'=E++[⟨k,s,cb⟩]∧lkE E k s=none∧zs=[])) (hoth: ∀e∈E,e.b≠cb→C' e.b=C e.b) (hn:lkE E k s=none→ ∀e∈E,e.b≠cb):
  labs E' C'=appL (labs E C) k s z.1∧chL (labs E C) k s=zs.map (·.1):=by
 rcases hold with⟨rfl,h1,h2⟩|⟨rfl,h1,rfl⟩
 ·refine⟨?_,by rw[chL_labs,h1, ←h2]⟩
  unfold appL
  rw[any_labs,h1,if_pos (by rfl)]
  unfold labs
  rw[List.map_map]
  refine List.map_congr_left fun e he=>?_
  simp only[Function.comp]
  by_cases hb:e.b=cb
  ·have hme:=lkE_mem h1
   have:=pw_inj (fun e:En=>e.b) heb he hme hb
   rw[this]
   simp[hC,h2]
  ·have hne: ¬((e.k,e.s)=(k,s)):=fun e0=>by
    have h3:e.k=k∧e.s=s:=by simpa[Prod.ext_iff] using e0
    have:=lkE_of_mem hek he
    rw[h3.1,h3.2,h1] at this
    injection this with this
    exact hb this.symm
   rw[if_neg hne,hoth e he hb]
 ·refine⟨?_,by rw[chL_labs,h1];rfl⟩
  unfold appL
  rw[any_labs,h1,if_neg (by simp)]
  unfold labs
  rw[List.map_append]
  congr 1
  ·exact List.map_congr_left fun e he=>by rw[hoth e he (hn h1 e he)]
  ·simp[hC]
theorem labs_undo (hek:E.Pairwise (fun e f=> ¬(e.k=f.k∧e.s=f.s))) (heb:E.Pairwise (fun e f=>e.b≠f.b)) {wo:Option Addr} {wc:Nat} (hold:(E'=E∧lkE E k s=some cb∧(C cb).2.2=zs)∨(E'=E++[⟨k,s,cb⟩]∧lkE E k s=none∧zs=[])) (hoth: ∀e∈E,e.b≠cb→C' e.b=C e.b) (hn:lkE E k s=none→ ∀e∈E,e.b≠cb) (hne: ∀e∈E,(C e.b).2.2≠[]):
  labs (tidE E' k s zs) (upB C' cb (wo,wc,zs))=labs E C:=by
 rcases hold with⟨rfl,h1,h2⟩|⟨rfl,h1,rfl⟩
 ·have hz:zs≠[]:=by rw[←h2];exact hne _ (lkE_mem h1)
  unfold tidE
  rw[if_neg hz]
  unfold labs
  refine List.map_congr_left fun e he=>?_
  by_cases hb:e.b=cb
  ·rw[hb,upB_same,h2]
  ·rw[upB_other _ _ hb,hoth e he hb]
 ·unfold tidE
  rw[if_pos rfl]
  have e1:(E++[(⟨k,s,cb⟩:En)]).filter (fun e=>decide (¬(e.k=k∧e.s=s)))=E:=by
   rw[List.filter_append]
   have:E.filter (fun e=>decide (¬(e.k=k∧e.s=s)))=E:=List.filter_eq_self.2 (fun e he=>decide_eq_true (lkE_none h1 e he))
   rw[this]
   simp
  rw[e1]
  unfold labs
  refine List.map_congr_left fun e he=>?_
  rw[upB_other _ _ (hn h1 e he),hoth e he (hn h1 e he)]
end
theorem MF.beside {w w':World} {mb:Nat} {m:Mg} {F:Nat→Prop} {σ σ':Nat→Option Nat} (h:MF w mb m (fun i=>F i∨σ i≠none)) (t:Tch (fun i=>σ i≠none) w w') (hsn: ∀i,i<w.heap.size→σ i=none→σ' i=none) (hd: ∀i,σ' i≠none→i<w'.heap.size):MF w' mb m (fun i=>F i∨σ' i≠none):=by
 obtain⟨τ,b1,b2,hg,hF⟩:=h
 refine⟨τ,b1,b2,hg.tch t (fun i _ hs=>(hF i (Or.inr hs)).1),fun i hi=>?_⟩
 rcases hi with hi|hi
 ·exact⟨(hF i (Or.inl hi)).1,Nat.lt_of_lt_of_le (hF i (Or.inl hi)).2 t.size⟩
 ·refine⟨?_,hd i hi⟩
  rcases Nat.lt_or_ge i w.heap.size with hlt|hge
  ·exact(hF i (Or.inr (fun h0=>hi (hsn i hlt h0)))).1
  ·cases hs:τ i with
   |none=>rfl
   |some a=>have:=hg.lt i (by rw[hs];exact fun h=>by cases h);omega
theorem lay_any (w:World) (hb mb tb:Nat) (T:List (Int×Nat)) (E:List En) (C:Nat→Ch) (σ:Nat→Option Nat) (q:Nat) (h:HW w hb mb tb T E C σ q) (hq:q≤1000) (k:Int) (h1: -9223372036854775808≤k) (h2:k≤9223372036854775807) (S:ByteArray) (hS:S.size≤maxLen) (z:VV) (hz:VOK w σ z):
  Calls Tryz.prog 60 #[.pointer (some ⟨hb,0,none⟩),.int .i64 k,.string S,.agg #[.int .i64 z.1.wr,.bool z.1.th,.slice z.2.1 z.1.n z.2.2]] w fun x w'=>LayOut w hb mb tb E C σ q k S z x w':=by
 cases hl:lkT T k with
 |none=>exact lay_C w hb mb tb T E C σ q h hq k h1 h2 S hS z hz hl
 |some l=>
  cases he:lkE E k S.data.toList with
  |none=>exact lay_B w hb mb tb T E C σ q h hq k h1 h2 S hS z hz l hl he
  |some cb=>exact lay_A w hb mb tb T E C σ q h hq k h1 h2 S hS z hz l hl cb he
theorem wdone_d (bd bu:Nat) (u:FrameMode) (w:World) (h:w.cell? ⟨bd,0,none⟩=some (.bool true)):
  CallsD Tryz.prog 61 #[.pointer (some ⟨bd,0,none⟩),.pointer (some ⟨bu,0,none⟩)] u w fun e u' w'=>u'=u∧e= .returned (.tuple #[])∧w'=w:=by
 go_enter_d Tryz.func61,Tryz.ntmps61
 go_wp2
 go_end0
 exact⟨rfl,rfl⟩
theorem wundo_d (bd bu:Nat) (u:FrameMode) (w:World) (R:World→Prop) (h:w.cell? ⟨bd,0,none⟩=some (.bool false)) (c1 c2 c3 c4 c5:Value) (hu:w.cell? ⟨bu,0,none⟩=some (.func (.func 89) #[] #[c1,c2,c3,c4,c5]))
  (hc:Calls Tryz.prog 89 #[c1,c2,c3,c4,c5] w fun x w'=>x= .returned (.tuple #[])∧R w'):
  CallsD Tryz.prog 61 #[.pointer (some ⟨bd,0,none⟩),.pointer (some ⟨bu,0,none⟩)] u w fun e u' w'=>u'=u∧e= .returned (.tuple #[])∧R w':=by
 go_enter_d Tryz.func61,Tryz.ntmps61
 go_wp2_with fail
 refine hc.mono ?_
 rintro x w1 ⟨rfl,h1⟩
 go_wp2
 go_end0
 exact⟨rfl,h1⟩
theorem SB.keep {w w':World} {σ:Nat→Option Nat} {hb bh bs bx:Nat} {mn mx:Int} {l:List Int} {so:Option Addr} {sc:Nat} {own:Int} (k:SB w hb bh bs bx mn mx l so sc own) (t:Tch (fun i=>σ i≠none) w w') (l1:σ bh=none) (l2:σ bs=none) (l3:σ bx=none) (l4: ∀a,so=some a→σ a.block=none):SB w' hb bh bs bx mn mx l so sc own:=by
 refine⟨by rw[t.block bh (blk_lt k.h) (fun h=>h l1)];exact k.h,by rw[t.block bs (blk_lt k.s) (fun h=>h l2)];exact k.s,by rw[t.block bx (blk_lt k.x) (fun h=>h l3)];exact k.x,fun i n hi=>?_⟩
 obtain⟨g,o,e,hc⟩:=k.ir i n hi
 exact⟨g,o,e,by rw[t.cell (p:=⟨g,o+i,none⟩) (cell_lt hc) (fun h=>h (l4 ⟨g,o,none⟩ e))];exact hc⟩
def WrOut (w:World) (hb mb tb:Nat) (E:List En) (C:Nat→Ch) (σ:Nat→Option Nat) (q:Nat) (k:Int) (s:List UInt8) (v:Ver) (ee:Nat) (x:Ending) (w':World):Prop:=
 ∃ro rn rc T' E' C' σ',x= .returned (.tuple #[.slice ro rn rc,.int .i64 (ee:Nat)])∧HW w' hb mb tb T' E' C' σ' (q+3)∧labs E' C'=(if ee=0 then appL (labs E C) k s v else labs E C)∧(∀i,σ i≠none→σ' i=σ i)∧(∀i,i<w.heap.size→σ i=none→σ' i=none)∧Tch (fun i=>σ i≠none) w w'
theorem enters_stands: ∀args w,(callFunc 62 args).run Tryz.prog w= .ok (.enter 62 args) w:=enters_of Tryz.func62 (by kernel_rfl) rfl
theorem write_any (w:World) (hb mb tb:Nat) (T:List (Int×Nat)) (E:List En) (C:Nat→Ch) (σ:Nat→Option Nat) (q:Nat) (h:HW w hb mb tb T E C σ q) (hne: ∀e∈E,(C e.b).2.2≠[]) (hq:q≤1000) (m:Mg) (F:Nat→Prop) (hM:MF w mb m (fun i=>F i∨σ i≠none)) (k:Int) (h1: -9223372036854775808≤k) (h2:k≤9223372036854775807) (S:ByteArray) (hS:S.size≤maxLen) (z:VV) (hz:VOK w σ z)
  (bh bs bx:Nat) (mn mx:Int) (l:List Int) (so:Option Addr) (sc:Nat) (own:Int) (h3: -9223372036854775808≤own) (h4:own≤9223372036854775807) (hl:l.length≤9223372036854775807) (sb:SB w hb bh bs bx mn mx l so sc own) (l1:σ bh=none) (l2:σ bs=none) (l3:σ bx=none) (l4: ∀a,so=some a→σ a.block=none):
  Calls Tryz.prog 36 #[.pointer (some ⟨hb,0,none⟩),.int .i64 k,.string S,.agg #[.int .i64 z.1.wr,.bool z.1.th,.slice z.2.1 z.1.n z.2.2],.func (.func 57) #[] #[.pointer (some ⟨bh,0,none⟩),.pointer (some ⟨bs,0,none⟩),.pointer (some ⟨bx,0,none⟩)],.func (.func 38) #[] #[]] w fun x w'=>WrOut w hb mb tb E C σ q k S.data.toList z.1 (insE m mn mx l own (chL (labs E C) k S.data.toList)) x w':=by
 obtain⟨w0,hw0⟩: ∃w0,w0=w.alloc (.cells #[.int .i64 z.1.wr,.bool z.1.th,.slice z.2.1 z.1.n z.2.2] 69):=⟨_,rfl⟩
 have t0:Tch (fun _=>False) w w0:=by rw[hw0];exact Tch.alloc _ _ _
 have qL:=lay_any w0 hb mb tb T E C σ q (h.no t0) hq k h1 h2 S hS z (hz.tch t0 (fun _ _ h=>h.elim) (fun _ _ _=>rfl))
 obtain⟨EE,hEE⟩: ∃EE,EE=insE m mn mx l own (chL (labs E C) k S.data.toList):=⟨_,rfl⟩
 rw[←hEE]
 have HEE:Hid _:=hEE
 obtain⟨wr,hwr⟩: ∃wr,wr=z.1.wr:=⟨_,rfl⟩
 obtain⟨th,hth⟩: ∃th,th=z.1.th:=⟨_,rfl⟩
 obtain⟨rv,hrv⟩: ∃rv,rv=z.2.1:=⟨_,rfl⟩
 obtain⟨rn,hrn⟩: ∃rn,rn=z.1.n:=⟨_,rfl⟩
 obtain⟨rc,hrc⟩: ∃rc,rc=z.2.2:=⟨_,rfl⟩
 have e0:w0.heap[w.heap.size]? =some (.cells #[.int .i64 wr,.bool th,.slice rv rn rc] 69 (0,0)):=by rw[hw0,hwr,hth,hrv,hrn,hrc];exact alloc_new _ _
 rw[←hwr, ←hth, ←hrv, ←hrn, ←hrc] at hw0 qL ⊢
 have T0:Hid _:=t0
 have HH:Hid (∀w1 (σ':Nat→Option Nat),Tch (fun i=>σ i≠none) w0 w1→(∀i,i<w0.heap.size→σ i=none→σ' i=none)→(∀i,σ' i≠none→i<w1.heap.size)→MF w1 mb m (fun i=>F i∨σ' i≠none)∧SB w1 hb bh bs bx mn mx l so sc own∧Tch (fun i=>σ i≠none) w w1):=fun w1 σ' t hsn hd=>⟨(hM.no t0).beside t hsn hd,(sb.no t0).keep t l1 l2 l3 l4,(t0.mono (fun _ _ h=>h.elim)).trans' t⟩
 have HB:Hid (E.Pairwise (fun e f=> ¬(e.k=f.k∧e.s=f.s))∧E.Pairwise (fun e f=>e.b≠f.b)∧(∀e∈E,(C e.b).2.2≠[])∧q≤1000):=⟨h.ek,h.eb,hne,hq⟩
 have HK:Hid (-9223372036854775808≤k∧k≤9223372036854775807∧S.size≤maxLen∧ -9223372036854775808≤own∧own≤9223372036854775807∧l.length≤9223372036854775807∧w0.heap.size=w.heap.size+1):=⟨h1,h2,hS,h3,h4,hl,by rw[hw0];simp⟩
 have Hw0:Hid _:=hw0
 have hmf: ∀(fn:Fn) (first cap:Array Value) (w:World),(Instr.makeFunc fn first cap).run Tryz.prog w= .ok (.func fn first cap) w:=fun _ _ _ _=>rfl
 have k0:w0.cell? ⟨w.heap.size,0,none⟩=some (.int .i64 wr):=by rw[blk_cell e0];rfl
 have k1:w0.cell? ⟨w.heap.size,1,none⟩=some (.bool th):=by rw[blk_cell e0];rfl
 have k2:w0.cell? ⟨w.heap.size,2,none⟩=some (.slice rv rn rc):=by rw[blk_cell e0];rfl
 rw[hw0] at qL
 clear h hne hq hM h1 h2 hS hz h3 h4 hl sb l1 l2 l3 l4 t0 hEE hwr hth hrv hrn hrc e0 hw0 k0 k1 k2
 go_enter_defers Tryz.func36,Tryz.ntmps36
 go_wp2_with fail
 refine qL.mono ?_
 clear qL
 rw[←Hw0.out]
 rintro x w1 ⟨T',E',C',σ',cb,co,cc,zs,bc,bw,bh',bt,bk,wo,wc,rfl,hw1,u1,me,hC,hold,hoth,hsg,hsn,t1⟩
 obtain⟨hM1,sb1,T1⟩:=HH.out w1 σ' t1 hsn hw1.dom
 obtain⟨hek,heb,hne,hq⟩:=HB.out
 obtain⟨h1,h2,hS,h3,h4,hl,hs0⟩:=HK.out
 have hn:lkE E k S.data.toList=none→ ∀e∈E,e.b≠cb:=fun h0 e he=>by
  rcases hold with⟨_,e1,_⟩|⟨rfl,_,_⟩
  ·rw[h0] at e1;cases e1
  ·have:=hw1.eb
   rw[List.pairwise_append] at this
   exact this.2.2 e he _ (List.mem_singleton.2 rfl)
 obtain⟨hlab,hchl⟩:=labs_app hek heb hC hold hoth hn
 have hlabU:=fun wo wc=>labs_undo (wo:=wo) (wc:=wc) hek heb hold hoth hn hne
 have hEE:EE=insE m mn mx l own (zs.map (·.1)):=by rw[HEE.out,hchl]
 have hlz:zs.length≤1000000:=by
  have:=(hw1.chs _ me).2
  rw[hC] at this
  simp at this
  omega
 have hsn': ∀i,i<w.heap.size→σ i=none→σ' i=none:=fun i hi h0=>hsn i (by omega) h0
 have HO:Hid (∀w9 (ee:Nat) (ro:Option Addr) (rn rc:Nat),ee=EE→EE=0→Tch (fun _=>False) w1 w9→WrOut w hb mb tb E C σ q k S.data.toList z.1 EE (.returned (.tuple #[.slice ro rn rc,.int .i64 (ee:Nat)])) w9):=fun w9 ee ro rn rc he h0 t=>by
  subst he
  exact⟨ro,rn,rc,T',E',C',σ',rfl,hw1.no t,by rw[if_pos h0];exact hlab,hsg,hsn',T1.trans t (fun _ _ h=>h.elim)⟩
 have HU:Hid (∀w9 (R:World→Prop),Tch (fun _=>False) w1 w9→EE≠0→(∀w8,WrOut w hb mb tb E C σ q k S.data.toList z.1 EE (.returned (.tuple #[.slice none 0 0,.int .i64 (EE:Nat)])) w8→R w8)→Calls Tryz.prog 89 #[.pointer (some ⟨bc,0,none⟩),.pointer (some ⟨bw,0,none⟩),.pointer (some ⟨bh',0,none⟩),.pointer (some ⟨bt,0,none⟩),.pointer (some ⟨bk,0,none⟩)] w9 fun x w'=>x= .returned (.tuple #[])∧R w'):=fun w9 R t hne0 hR=>by
  refine(undo_any w9 hb mb tb T' E' C' σ' (q+3) (hw1.no t) k h1 h2 S hS cb wo wc zs bc bw bh' bt bk (u1.no t) me co cc z hC (by omega)).mono ?_
  rintro x w8 ⟨rfl,⟨T8,hw8⟩,t8⟩
  refine⟨rfl,hR w8 ⟨none,0,0,T8,_,_,σ',rfl,hw8,by rw[if_neg hne0];exact hlabU wo wc,hsg,hsn',(T1.trans t (fun _ _ h=>h.elim)).trans t8 (fun i hi hs h0=>hs (hsn' i hi h0))⟩⟩
 obtain⟨W2,hW2⟩: ∃W2,W2=(w1.alloc (.cells #[.func (.func 89) #[] #[.pointer (some ⟨bc,0,none⟩),.pointer (some ⟨bw,0,none⟩),.pointer (some ⟨bh',0,none⟩),.pointer (some ⟨bt,0,none⟩),.pointer (some ⟨bk,0,none⟩)]] 1)).alloc (.cells #[.bool false] 4):=⟨_,rfl⟩
 have t2:Tch (fun _=>False) w1 W2:=by rw[hW2];exact(Tch.alloc _ _ _).allocR _
 have b15:W2.heap[w1.heap.size]? =some (.cells #[.func (.func 89) #[] #[.pointer (some ⟨bc,0,none⟩),.pointer (some ⟨bw,0,none⟩),.pointer (some ⟨bh',0,none⟩),.pointer (some ⟨bt,0,none⟩),.pointer (some ⟨bk,0,none⟩)]] 1 (0,0)):=by
  rw[hW2,(Tch.alloc (fun _=>False) (w1.alloc (.cells #[.func (.func 89) #[] #[.pointer (some ⟨bc,0,none⟩),.pointer (some ⟨bw,0,none⟩),.pointer (some ⟨bh',0,none⟩),.pointer (some ⟨bt,0,none⟩),.pointer (some ⟨bk,0,none⟩)]] 1)) _).block _ (by simp) (fun h=>h)];exact alloc_new _ _
 have b16:W2.heap[w1.heap.size+1]? =some (.cells #[.bool false] 4 (0,0)):=by
  rw[hW2]
  have:=alloc_new (w1.alloc (.cells #[.func (.func 89) #[] #[.pointer (some ⟨bc,0,none⟩),.pointer (some ⟨bw,0,none⟩),.pointer (some ⟨bh',0,none⟩),.pointer (some ⟨bt,0,none⟩),.pointer (some ⟨bk,0,none⟩)]] 1)) (.cells #[.bool false] 4)
  rwa [World.size_alloc] at this
 have hc0:=hw1.c0
 have hok:=u1.ok
 have qN:=newest_any wo wc zs hlz W2 ((vrd_of u1.row).tch t2) (fun z=>((m.state z.1.wr:Int) !=4)) 62 #[.pointer (some ⟨hb,0,none⟩)] #[] ⟨enters_stands,fun z' W hz' tW=>by
  have tt:=t2.trans' tW
  exact stands_any hb mb m W _ (hM1.no tt) (by rw[tt.cell (p:=⟨hb,0,none⟩) (cell_lt hc0) (fun h=>h)];exact hc0) z'.1.wr (hok z' hz').lo (hok z' hz').hi z'.1.th z'.2.1 z'.1.n z'.2.2⟩
 have HQ:Hid (∀W (z':VV),z'∈zs→Tch (fun _=>False) w1 W→Calls Tryz.prog 57 #[.agg #[.int .i64 z'.1.wr,.bool z'.1.th,.slice z'.2.1 z'.1.n z'.2.2],.pointer (some ⟨bh,0,none⟩),.pointer (some ⟨bs,0,none⟩),.pointer (some ⟨bx,0,none⟩)] W fun x w'=>x= .returned (.bool (m.sees mn mx l own z'.1.wr))∧Tch (fun _=>False) W w'):=fun W z' hz' tt=>
  seen1_any hb mb m W _ (hM1.no tt) (by rw[tt.cell (p:=⟨hb,0,none⟩) (cell_lt hc0) (fun h=>h)];exact hc0) z'.1.wr (hok z' hz').lo (hok z' hz').hi z'.1.th z'.2.1 z'.1.n z'.2.2 bh bs bx mn mx l so sc own h3 h4 hl (sb1.no tt)
 have HR:Hid (∀W (z':VV),z'∈zs→Tch (fun _=>False) w1 W→RdR W z'.2.1 z'.1.n z'.2.2 z'.1.cs):=fun W z' hz' tt=>(RdR.of_own (hok z' hz').own (hok z' hz').one (hok z' hz').sm).no tt
 obtain⟨ln,hln⟩: ∃ln,ln=zs.length:=⟨_,rfl⟩
 rw[←hln] at qN ⊢
 have HE:Hid _:=hEE
 have T2:Hid _:=t2
 have HW2:Hid _:=hW2
 have B15:Hid _:=b15
 have B16:Hid _:=b16
 clear HH HB HK hM1 sb1 T1 hek heb hne hq h1 h2 hS h3 h4 hl hs0 hn hlab hchl hlabU hEE hlz hsn' hc0 hok hold hoth hsg hsn t1 hC me u1 hw1 t2 b15 b16 hln
 rw[hW2] at qN
 clear hW2
 go_wp2_with fail
 refine qN.mono ?_
 clear qN
 rw[←HW2.out]
 rintro x w3 ⟨hnw,t3⟩
 have T3:Hid (Tch (fun _=>False) w1 w3):=T2.out.trans' t3
 have c15:Hid (∀W,Tch (fun _=>False) w3 W→W.heap[w1.heap.size]? =some (.cells #[.func (.func 89) #[] #[.pointer (some ⟨bc,0,none⟩),.pointer (some ⟨bw,0,none⟩),.pointer (some ⟨bh',0,none⟩),.pointer (some ⟨bt,0,none⟩),.pointer (some ⟨bk,0,none⟩)]] 1 (0,0))∧W.heap[w1.heap.size+1]? =some (.cells #[.bool false] 4 (0,0))):=fun W t=>
  ⟨by rw[(t3.trans' t).block _ (blk_lt B15.out) (fun h=>h)];exact B15.out,by rw[(t3.trans' t).block _ (blk_lt B16.out) (fun h=>h)];exact B16.out⟩
 clear t3
 rcases hnw with⟨hall,rfl⟩|⟨i,z0,hz0,hp0,hla,rfl⟩
 ·have hE0:EE=0:=by rw[HE.out];exact insE_none hall
  obtain⟨w4,hw4⟩: ∃w4,w4=w3.alloc (.cells #[.int .i64 0,.bool false,.slice none 0 0] 69):=⟨_,rfl⟩
  have t4:Tch (fun _=>False) w3 w4:=by rw[hw4];exact Tch.alloc _ _ _
  have OB:Hid (w4.heap[w3.heap.size]? =some (.cells #[.int .i64 0,.bool false,.slice none 0 0] 69 (0,0))):=by
   show _=_
   rw[hw4];exact alloc_new _ _
  have qM:=mayInsert_any 0 false none 0 0 w4
  simp only[Bool.false_eq_true,if_false] at qM
  rw[hw4] at qM
  clear hall
  go_wp2_with fail
  refine qM.mono ?_
  rw[←hw4]
  rintro x w5 ⟨rfl,t5⟩
  clear qM
  obtain⟨b15,b16⟩:=c15.out w5 (t4.trans' t5)
  have bo:w5.heap[w3.heap.size]? =some (.cells #[.int .i64 0,.bool false,.slice none 0 0] 69 (0,0)):=by rw[t5.block _ (blk_lt OB.out) (fun h=>h)];exact OB.out
  have a16:w5.cell? ⟨w1.heap.size+1,0,none⟩=some (.bool false):=by rw[blk_cell b16];rfl
  have f16:=blk_frozen b16 0
  have b16':=blk_set (i:=0) b16 (.bool true)
  have tS:Tch (fun i=>i=w1.heap.size+1) w5 (w5.setCell ⟨w1.heap.size+1,0,none⟩ (.bool true)):=Tch.setCell (fun i=>i=w1.heap.size+1) w5 ⟨w1.heap.size+1,0,none⟩ _ rfl
  have T5:Tch (fun _=>False) w1 w5:=(T3.out.trans' t4).trans' t5
  have T6:Tch (fun _=>False) w1 (w5.setCell ⟨w1.heap.size+1,0,none⟩ (.bool true)):=tch_new T5 (Nat.le_succ _) tS
  have hob:w3.heap.size≠w1.heap.size+1:=fun e=>by rw[e,b16] at bo;cases bo
  have bo':(w5.setCell ⟨w1.heap.size+1,0,none⟩ (.bool true)).heap[w3.heap.size]? =some (.cells #[.int .i64 0,.bool false,.slice none 0 0] 69 (0,0)):=by rw[tS.block _ (blk_lt bo) hob];exact bo
  have ao:(w5.setCell ⟨w1.heap.size+1,0,none⟩ (.bool true)).cell? ⟨w3.heap.size,2,none⟩=some (.slice none 0 0):=by rw[blk_cell bo'];rfl
  have qC:=rclone_any none 0 0 [] (w5.setCell ⟨w1.heap.size+1,0,none⟩ (.bool true)) ⟨rfl,(fun u hu=>by cases hu),by omega,.inl ⟨rfl,rfl,rfl⟩⟩
  have HB16:Hid _:=b16'
  have HT6:Hid _:=T6
  clear b15 b16 b16' bo bo' tS T5 T6 hob t5
  go_wp2_with fail
  refine qC.mono ?_
  rintro x w7 ⟨⟨ro7,rc7,rfl,_⟩,t7⟩
  clear qC
  have d7:w7.cell? ⟨w1.heap.size+1,0,none⟩=some (.bool true):=by rw[t7.cell (p:=⟨w1.heap.size+1,0,none⟩) (blk_lt HB16.out) (fun h=>h),blk_cell HB16.out];rfl
  have T7:Tch (fun _=>False) w1 w7:=HT6.out.trans' t7
  clear t7 ao a16 f16
  go_wp2_with fail
  refine leaves_cons (f:=61) (args:=#[.pointer (some ⟨w1.heap.size+1,0,none⟩),.pointer (some ⟨w1.heap.size,0,none⟩)]) (by simp) (by simp[go_sem]) ?_
  refine(wdone_d _ _ .returning _ d7).mono ?_
  rintro e u' w'' ⟨rfl,rfl,rfl⟩
  refine⟨_,results_tmp2 rfl _ _ _,?_⟩
  exact HO.out _ 0 _ _ _ hE0.symm hE0 T7
 ·have hEs:=HE.out.trans (insE_some hz0 hp0 hla)
  have hm0:z0∈zs:=List.mem_of_getElem? hz0
  obtain⟨w4,hw4⟩: ∃w4,w4=w3.alloc (.cells #[.int .i64 z0.1.wr,.bool z0.1.th,.slice z0.2.1 z0.1.n z0.2.2] 69):=⟨_,rfl⟩
  have t4:Tch (fun _=>False) w3 w4:=by rw[hw4];exact Tch.alloc _ _ _
  have OB:Hid (w4.heap[w3.heap.size]? =some (.cells #[.int .i64 z0.1.wr,.bool z0.1.th,.slice z0.2.1 z0.1.n z0.2.2] 69 (0,0))):=by
   show _=_
   rw[hw4];exact alloc_new _ _
  have qS:=HQ.out w4 z0 hm0 (T3.out.trans' t4)
  rw[hw4] at qS
  clear hz0 hp0 hla
  cases hse:m.sees mn mx l own z0.1.wr
  ·rw[hse] at qS
   have hE0:EE=92:=by rw[hEs,hse];rfl
   clear hEs hse
   go_wp2_with fail
   refine qS.mono ?_
   rw[←hw4]
   rintro x w5 ⟨rfl,t5⟩
   clear qS
   have T5:Tch (fun _=>False) w1 w5:=(T3.out.trans' t4).trans' t5
   obtain⟨b15,b16⟩:=c15.out w5 (t4.trans' t5)
   have d5:w5.cell? ⟨w1.heap.size+1,0,none⟩=some (.bool false):=by rw[blk_cell b16];rfl
   have d6:w5.cell? ⟨w1.heap.size,0,none⟩=some (.func (.func 89) #[] #[.pointer (some ⟨bc,0,none⟩),.pointer (some ⟨bw,0,none⟩),.pointer (some ⟨bh',0,none⟩),.pointer (some ⟨bt,0,none⟩),.pointer (some ⟨bk,0,none⟩)]):=by rw[blk_cell b15];rfl
   clear b15 b16 t5
   go_wp2_with fail
   refine leaves_cons (f:=61) (args:=#[.pointer (some ⟨w1.heap.size+1,0,none⟩),.pointer (some ⟨w1.heap.size,0,none⟩)]) (by simp) (by simp[go_sem]) ?_
   refine(wundo_d _ _ .returning _ _ d5 _ _ _ _ _ d6 (HU.out _ _ T5 (by rw[hE0];decide) (fun _ h=>h))).mono ?_
   rintro e u' w'' ⟨rfl,rfl,hw⟩
   refine⟨_,results_tmp2 rfl _ _ _,?_⟩
   rw[hE0] at hw
   rw[hE0]
   exact hw
  ·rw[hse] at qS
   cases hth0:z0.1.th
   ·have hE0:EE=0:=by rw[hEs,hse,hth0];rfl
    rw[hth0] at qS hw4
    have hrd:=HR.out
    clear hEs hse
    go_wp2_with fail
    refine qS.mono ?_
    rw[←hw4]
    rintro x w5s ⟨rfl,t5s⟩
    clear qS
    have OB1:Hid (w5s.heap[w3.heap.size]? =some (.cells #[.int .i64 z0.1.wr,.bool false,.slice z0.2.1 z0.1.n z0.2.2] 69 (0,0))):=by
     have:=OB.out
     rw[hth0] at this
     show _=_
     rw[t5s.block _ (blk_lt this) (fun h=>h)];exact this
    have o0:w5s.cell? ⟨w3.heap.size,0,none⟩=some (.int .i64 z0.1.wr):=by rw[blk_cell OB1.out];rfl
    have o1:w5s.cell? ⟨w3.heap.size,1,none⟩=some (.bool false):=by rw[blk_cell OB1.out];rfl
    have o2:w5s.cell? ⟨w3.heap.size,2,none⟩=some (.slice z0.2.1 z0.1.n z0.2.2):=by rw[blk_cell OB1.out];rfl
    have t45:=t4.trans' t5s
    have qM:=mayInsert_any z0.1.wr false z0.2.1 z0.1.n z0.2.2 w5s
    simp only[Bool.false_eq_true,if_false] at qM
    clear OB hth0 t5s t4 hw4
    go_wp2_with fail
    refine qM.mono ?_
    rintro x w5 ⟨rfl,t5⟩
    clear qM o0 o1 o2
    obtain⟨b15,b16⟩:=c15.out w5 (t45.trans' t5)
    have bo:w5.heap[w3.heap.size]? =some (.cells #[.int .i64 z0.1.wr,.bool false,.slice z0.2.1 z0.1.n z0.2.2] 69 (0,0)):=by rw[t5.block _ (blk_lt OB1.out) (fun h=>h)];exact OB1.out
    have a16:w5.cell? ⟨w1.heap.size+1,0,none⟩=some (.bool false):=by rw[blk_cell b16];rfl
    have f16:=blk_frozen b16 0
    have b16':=blk_set (i:=0) b16 (.bool true)
    have tS:Tch (fun i=>i=w1.heap.size+1) w5 (w5.setCell ⟨w1.heap.size+1,0,none⟩ (.bool true)):=Tch.setCell (fun i=>i=w1.heap.size+1) w5 ⟨w1.heap.size+1,0,none⟩ _ rfl
    have T5:Tch (fun _=>False) w1 w5:=(T3.out.trans' t45).trans' t5
    have T6:Tch (fun _=>False) w1 (w5.setCell ⟨w1.heap.size+1,0,none⟩ (.bool true)):=tch_new T5 (Nat.le_succ _) tS
    have hob:w3.heap.size≠w1.heap.size+1:=fun e=>by rw[e,b16] at bo;cases bo
    have bo':(w5.setCell ⟨w1.heap.size+1,0,none⟩ (.bool true)).heap[w3.heap.size]? =some (.cells #[.int .i64 z0.1.wr,.bool false,.slice z0.2.1 z0.1.n z0.2.2] 69 (0,0)):=by rw[tS.block _ (blk_lt bo) hob];exact bo
    have ao:(w5.setCell ⟨w1.heap.size+1,0,none⟩ (.bool true)).cell? ⟨w3.heap.size,2,none⟩=some (.slice z0.2.1 z0.1.n z0.2.2):=by rw[blk_cell bo'];rfl
    have qC:=rclone_any z0.2.1 z0.1.n z0.2.2 z0.1.cs (w5.setCell ⟨w1.heap.size+1,0,none⟩ (.bool true)) (hrd _ z0 hm0 T6)
    have HB16:Hid _:=b16'
    have HT6:Hid _:=T6
    clear b15 b16 b16' bo bo' tS T5 T6 hob t5
    go_wp2_with fail
    refine qC.mono ?_
    rintro x w7 ⟨⟨ro7,rc7,rfl,_⟩,t7⟩
    clear qC
    have d7:w7.cell? ⟨w1.heap.size+1,0,none⟩=some (.bool true):=by rw[t7.cell (p:=⟨w1.heap.size+1,0,none⟩) (blk_lt HB16.out) (fun h=>h),blk_cell HB16.out];rfl
    have T7:Tch (fun _=>False) w1 w7:=HT6.out.trans' t7
    clear t7 ao a16 f16
    go_wp2_with fail
    refine leaves_cons (f:=61) (args:=#[.pointer (some ⟨w1.heap.size+1,0,none⟩),.pointer (some ⟨w1.heap.size,0,none⟩)]) (by simp) (by simp[go_sem]) ?_
    refine(wdone_d _ _ .returning _ d7).mono ?_
    rintro e u' w'' ⟨rfl,rfl,rfl⟩
    refine⟨_,results_tmp2 rfl _ _ _,?_⟩
    exact HO.out _ 0 _ _ _ hE0.symm hE0 T7
   ·have hE0:EE=91:=by rw[hEs,hse,hth0];rfl
    rw[hth0] at qS hw4
    clear hEs hse
    go_wp2_with fail
    refine qS.mono ?_
    rw[←hw4]
    rintro x w5s ⟨rfl,t5s⟩
    clear qS
    have OB1:Hid (w5s.heap[w3.heap.size]? =some (.cells #[.int .i64 z0.1.wr,.bool true,.slice z0.2.1 z0.1.n z0.2.2] 69 (0,0))):=by
     have:=OB.out
     rw[hth0] at this
     show _=_
     rw[t5s.block _ (blk_lt this) (fun h=>h)];exact this
    have o0:w5s.cell? ⟨w3.heap.size,0,none⟩=some (.int .i64 z0.1.wr):=by rw[blk_cell OB1.out];rfl
    have o1:w5s.cell? ⟨w3.heap.size,1,none⟩=some (.bool true):=by rw[blk_cell OB1.out];rfl
    have o2:w5s.cell? ⟨w3.heap.size,2,none⟩=some (.slice z0.2.1 z0.1.n z0.2.2):=by rw[blk_cell OB1.out];rfl
    have t45:=t4.trans' t5s
    have qM:=mayInsert_any z0.1.wr true z0.2.1 z0.1.n z0.2.2 w5s
    simp only[if_true] at qM
    clear OB hth0 t5s t4 hw4
    go_wp2_with fail
    refine qM.mono ?_
    rintro x w5 ⟨rfl,t5⟩
    clear qM o0 o1 o2
    have T5:Tch (fun _=>False) w1 w5:=(T3.out.trans' t45).trans' t5
    obtain⟨b15,b16⟩:=c15.out w5 (t45.trans' t5)
    have d5:w5.cell? ⟨w1.heap.size+1,0,none⟩=some (.bool false):=by rw[blk_cell b16];rfl
    have d6:w5.cell? ⟨w1.heap.size,0,none⟩=some (.func (.func 89) #[] #[.pointer (some ⟨bc,0,none⟩),.pointer (some ⟨bw,0,none⟩),.pointer (some ⟨bh',0,none⟩),.pointer (some ⟨bt,0,none⟩),.pointer (some ⟨bk,0,none⟩)]):=by rw[blk_cell b15];rfl
    clear b15 b16 t5
    go_wp2_with fail
    refine leaves_cons (f:=61) (args:=#[.pointer (some ⟨w1.heap.size+1,0,none⟩),.pointer (some ⟨w1.heap.size,0,none⟩)]) (by simp) (by simp[go_sem]) ?_
    refine(wundo_d _ _ .returning _ _ d5 _ _ _ _ _ d6 (HU.out _ _ T5 (by rw[hE0];decide) (fun _ h=>h))).mono ?_
    rintro e u' w'' ⟨rfl,rfl,hw⟩
    refine⟨_,results_tmp2 rfl _ _ _,?_⟩
    rw[hE0] at hw
    rw[hE0]
    exact hw
def HS (w:World) (hb mb:Nat) (m:Mg) (L:HL) (F:Nat→Prop) (q:Nat):Prop:=
 ∃tb T E C σ,HW w hb mb tb T E C σ q∧labs E C=L∧(∀e∈E,(C e.b).2.2≠[])∧MF w mb m (fun i=>F i∨σ i≠none)∧ ∀i,F i→σ i=none∧i<w.heap.size
theorem ne_of_labs {E:List En} {C:Nat→Ch} {L:HL} (h:labs E C=L) (hL: ∀p∈L,p.2≠[]): ∀e∈E,(C e.b).2.2≠[]:=fun e he h0=>by
 have:((e.k,e.s),(C e.b).2.2.map (·.1))∈L:=by rw[←h];exact List.mem_map.2 ⟨e,he,rfl⟩
 exact hL _ this (by rw[h0];rfl)
theorem labs_ne {E:List En} {C:Nat→Ch} (h: ∀e∈E,(C e.b).2.2≠[]): ∀p∈labs E C,p.2≠[]:=fun p hp=>by
 obtain⟨e,he,rfl⟩:=List.mem_map.1 hp
 simp only[ne_eq,List.map_eq_nil_iff]
 exact h e he
theorem appL_ne {L:HL} (h: ∀p∈L,p.2≠[]) (k:Int) (s:List UInt8) (v:Ver): ∀p∈appL L k s v,p.2≠[]:=fun p hp=>by
 unfold appL at hp
 split at hp
 ·obtain⟨p0,h0,rfl⟩:=List.mem_map.1 hp
  split
  ·simp
  ·exact h p0 h0
 ·rcases List.mem_append.1 hp with hp|hp
  ·exact h p hp
  ·obtain rfl:=List.mem_singleton.1 hp;simp
theorem HS.no {w w':World} {hb mb:Nat} {m:Mg} {L:HL} {F:Nat→Prop} {q:Nat} (h:HS w hb mb m L F q) (t:Tch (fun _=>False) w w'):HS w' hb mb m L F q:=by
 obtain⟨tb,T,E,C,σ,h1,h2,h3,h4,h5⟩:=h
 exact⟨tb,T,E,C,σ,h1.no t,h2,h3,h4.no t,fun i hi=>⟨(h5 i hi).1,Nat.lt_of_lt_of_le (h5 i hi).2 t.size⟩⟩
def IC (w0:World) (hb:Nat) (F:Nat→Prop) (own mn mx:Int) (l:List Int) (so:Option Addr) (sc n:Nat) (cs:List Value) (out:Value→World→Prop) (s:List Value) (W:World):Prop:=match s with
 |[]=>Tch (fun _=>False) w0 W
 |[y]=>Tch (fun _=>False) w0 W∧ ∃ro rc,y= .agg #[.int .i64 own,.bool true,.slice ro n rc]∧W.ownsRow w0.heap.size 79 3 (.slice ro n rc) n cs
 |[y,f]=>Tch (fun _=>False) w0 W∧(∃ro rc,y= .agg #[.int .i64 own,.bool true,.slice ro n rc]∧W.ownsRow w0.heap.size 79 3 (.slice ro n rc) n cs∧
   ∃b,f= .func (.func 57) #[] #[.pointer (some ⟨b,0,none⟩),.pointer (some ⟨b+1,0,none⟩),.pointer (some ⟨b+1+1,0,none⟩)]∧w0.heap.size≤b∧(∀g,(Value.slice ro n rc).ownBlock=some g→g<b)∧SB W hb b (b+1) (b+1+1) mn mx l so sc own)
 |[_,_,x]=>out x W∧Tch (fun i=> ¬F i) w0 W
 |_=>False
theorem IC.tch {w0:World} {hb:Nat} {F:Nat→Prop} {own mn mx:Int} {l:List Int} {so:Option Addr} {sc n:Nat} {cs:List Value} {out:Value→World→Prop} {s:List Value} {W:World} (h:IC w0 hb F own mn mx l so sc n cs out s W):Tch (fun i=> ¬F i) w0 W:=by
 match s,h with
 |[],h=>exact Tch.mono h (fun _ _ h=>h.elim)
 |[_],h=>exact h.1.mono (fun _ _ h=>h.elim)
 |[_,_],h=>exact h.1.mono (fun _ _ h=>h.elim)
 |[_,_,_],h=>exact h.2
theorem IC.one {w0:World} {hb:Nat} {F:Nat→Prop} {own mn mx:Int} {l:List Int} {so:Option Addr} {sc n:Nat} {cs:List Value} {out:Value→World→Prop} {W:World} {ao:Option Addr} {c:Nat} (hr:RdR w0 ao n c cs) (h:IC w0 hb F own mn mx l so sc n cs out [] W):
  Calls Tryz.prog 37 #[.int .i64 own,.slice ao n c] W fun x W'=> ∃y,x= .returned y∧IC w0 hb F own mn mx l so sc n cs out [y] W':=by
 have tW:Tch (fun _=>False) w0 W:=h
 refine(filled_any own ao n c cs W (hr.no tW)).mono ?_
 rintro x W' ⟨⟨ro,rc,rfl,ho⟩,t⟩
 exact⟨_,rfl,tW.trans' t,ro,rc,rfl,own_low ho tW.size⟩
theorem IC.two {w0:World} {hb:Nat} {F:Nat→Prop} {own mn mx:Int} {l:List Int} {so:Option Addr} {sc n:Nat} {cs:List Value} {out:Value→World→Prop} {W:World} {y:Value} (hi:IR w0 so l) (h:IC w0 hb F own mn mx l so sc n cs out [y] W):
  Calls Tryz.prog 30 #[.pointer (some ⟨hb,0,none⟩),.agg #[.int .i64 mn,.int .i64 mx,.slice so l.length sc],.int .i64 own] W fun x W'=> ∃f,x= .returned f∧IC w0 hb F own mn mx l so sc n cs out [y,f] W':=by
 obtain⟨tW,ro,rc,rfl,ho⟩:=h
 refine(seenBy_any hb mn mx so l.length sc own W).mono ?_
 rintro x W' ⟨rfl,hW'⟩
 have t1:Tch (fun _=>False) W W':=by rw[hW'];exact((Tch.alloc _ _ _).allocR _).allocR _
 refine⟨_,rfl,tW.trans' t1,ro,rc,rfl,own_tch ho t1 (fun _ _ h=>h),W.heap.size,rfl,tW.size,fun g hg=>?_,⟨?_,?_,?_,(hi.no tW).no t1⟩⟩
 ·obtain⟨cur,hc⟩:=own_blk ho hg
  exact blk_lt hc
 ·rw[hW',((Tch.alloc (fun _=>False) (W.alloc (.cells #[.pointer (some ⟨hb,0,none⟩)] 36)) _).allocR _).block _ (by simp) (fun h=>h)];exact alloc_new _ _
 ·rw[hW',(Tch.alloc (fun _=>False) ((W.alloc (.cells #[.pointer (some ⟨hb,0,none⟩)] 36)).alloc (.cells #[.int .i64 mn,.int .i64 mx,.slice so l.length sc] 38)) _).block _ (by simp) (fun h=>h)]
  have:=alloc_new (W.alloc (.cells #[.pointer (some ⟨hb,0,none⟩)] 36)) (.cells #[.int .i64 mn,.int .i64 mx,.slice so l.length sc] 38)
  rwa [World.size_alloc] at this
 ·rw[hW']
  have:=alloc_new ((W.alloc (.cells #[.pointer (some ⟨hb,0,none⟩)] 36)).alloc (.cells #[.int .i64 mn,.int .i64 mx,.slice so l.length sc] 38)) (.cells #[.int .i64 own] 3)
  simp only[World.size_alloc] at this
  exact this
def InsX (hb mb:Nat) (m:Mg) (L:HL) (F:Nat→Prop) (q:Nat) (k:Int) (s:List UInt8) (v:Ver) (ee:Nat) (x:Value) (W:World):Prop:=(∃ro rn rc,x= .tuple #[.slice ro rn rc,.int .i64 (ee:Nat)])∧HS W hb mb m (if ee=0 then appL L k s v else L) F (q+3)
def InsY (w:World) (hb mb:Nat) (m:Mg) (L:HL) (F:Nat→Prop) (q:Nat) (k:Int) (s:List UInt8) (v:Ver) (ee:Nat) (W:World):Prop:=HS W hb mb m (if ee=0 then appL L k s v else L) F (q+3)∧Kept F w W
theorem IC.three {w0:World} {hb mb:Nat} {m:Mg} {L:HL} {F:Nat→Prop} {q:Nat} {own mn mx:Int} {l:List Int} {so:Option Addr} {sc n:Nat} {cs:List Value} {k:Int} {S:ByteArray} {W:World} {y f:Value} (hh:HS w0 hb mb m L F q) (hq:q≤1000) (h1: -9223372036854775808≤k) (h2:k≤9223372036854775807) (hS:S.size≤maxLen) (h3: -9223372036854775808≤own) (h4:own≤9223372036854775807) (hl:l.length≤9223372036854775807) (hn:n≤1000000) (ho1: ∀u∈cs,u.oneCell'=true) (hso: ∀a,so=some a→F a.block)
  (h:IC w0 hb F own mn mx l so sc n cs (InsX hb mb m L F q k S.data.toList ⟨own,true,n,cs⟩ (insE m mn mx l own (chL L k S.data.toList))) [y,f] W):
  Calls Tryz.prog 36 #[.pointer (some ⟨hb,0,none⟩),.int .i64 k,.string S,y,f,.func (.func 38) #[] #[]] W fun x W'=> ∃u,x= .returned u∧IC w0 hb F own mn mx l so sc n cs (InsX hb mb m L F q k S.data.toList ⟨own,true,n,cs⟩ (insE m mn mx l own (chL L k S.data.toList))) [y,f,u] W':=by
 obtain⟨tW,ro,rc,rfl,ho,b,rfl,hb0,hgb,sb⟩:=h
 obtain⟨tb,T,E,C,σ,hw,hL,hne,hM,hF⟩:=hh
 obtain⟨σ1,hσ1⟩: ∃σ1:Nat→Option Nat,σ1=fun i=>if (Value.slice ro n rc).ownBlock=some i then some (2*i) else σ i:=⟨_,rfl⟩
 have hfr: ∀i,w0.heap.size≤i→σ i=none:=fun i hi=>by
  cases hs:σ i with
  |none=>rfl
  |some a=>exact absurd (hw.dom i (by rw[hs];exact fun h=>by cases h)) (by omega)
 have hsg: ∀i,σ i≠none→σ1 i=σ i:=fun i hi=>by
  rw[hσ1]
  by_cases e:(Value.slice ro n rc).ownBlock=some i
  ·exact absurd (hfr i (row_ge ho e)) hi
  ·simp only[if_neg e]
 have hsn: ∀i,i<w0.heap.size→σ i=none→σ1 i=none:=fun i hi h0=>by
  rw[hσ1]
  have: ¬(Value.slice ro n rc).ownBlock=some i:=fun e=>by have:=row_ge ho e;omega
  simp only[if_neg this];exact h0
 have hd1: ∀i,σ1 i≠none→i<W.heap.size:=fun i hi=>by
  rw[hσ1] at hi
  by_cases e:(Value.slice ro n rc).ownBlock=some i
  ·obtain⟨cur,hc⟩:=own_blk ho e;exact blk_lt hc
  ·simp only[if_neg e] at hi;exact Nat.lt_of_lt_of_le (hw.dom i hi) tW.size
 have hw1:=(hw.no tW).relab hsg hd1
 have hM1:MF W mb m (fun i=>F i∨σ1 i≠none):=hM.beside (tW.mono (fun _ _ h=>h.elim)) hsn hd1
 have hz:VOK W σ1 (⟨own,true,n,cs⟩,(ro,rc)):=by
  refine⟨own_low ho (Nat.zero_le _),fun g hg=>?_,ho1,hn,h3,h4⟩
  rw[hσ1]
  simp only[hg,if_true]
 have lnew: ∀i,b≤i→σ1 i=none:=fun i hi=>by
  rw[hσ1]
  have: ¬(Value.slice ro n rc).ownBlock=some i:=fun e=>by have:=hgb i e;omega
  simp only[if_neg this];exact hfr i (by omega)
 refine(write_any W hb mb tb T E C σ1 q hw1 hne hq m F hM1 k h1 h2 S hS (⟨own,true,n,cs⟩,(ro,rc)) hz b (b+1) (b+1+1) mn mx l so sc own h3 h4 hl sb (lnew _ (by omega)) (lnew _ (by omega)) (lnew _ (by omega)) (fun a ha=>hsn _ (hF _ (hso a ha)).2 (hF _ (hso a ha)).1)).mono ?_
 rw[hL]
 rintro x W' ⟨ro',rn',rc',T',E',C',σ',rfl,hw',hl',hsg',hsn',t'⟩
 have tF:Tch (fun i=> ¬F i) w0 W':=(tW.mono (fun _ _ h=>h.elim)).trans t' (fun i hi hs hf=>hs (hsn i hi (hF i hf).1))
 refine⟨_,rfl,⟨⟨ro',rn',rc',rfl⟩,tb,T',E',C',σ',hw',by rw[hl',hL],?_,hM1.beside t' hsn' hw'.dom,fun i hi=>⟨?_,Nat.lt_of_lt_of_le (hF i hi).2 (Nat.le_trans tW.size t'.size)⟩⟩,tF⟩
 ·refine ne_of_labs hl' ?_
  split
  ·exact appL_ne (labs_ne hne) _ _ _
  ·exact labs_ne hne
 ·exact hsn' i (Nat.lt_of_lt_of_le (hF i hi).2 tW.size) (hsn i (hF i hi).2 (hF i hi).1)
theorem insert_f (w:World) (hb mb:Nat) (m:Mg) (L:HL) (F:Nat→Prop) (q:Nat) (h:HS w hb mb m L F q) (hq:q≤1000) (k:Int) (h1: -9223372036854775808≤k) (h2:k≤9223372036854775807) (S:ByteArray) (hS:S.size≤maxLen) (mn mx:Int) (l:List Int) (so:Option Addr) (sc:Nat) (own:Int) (h3: -9223372036854775808≤own) (h4:own≤9223372036854775807) (hl:l.length≤9223372036854775807) (hi:IR w so l) (hso: ∀a,so=some a→F a.block) (ao:Option Addr) (n c:Nat) (cs:List Value) (hr:RdR w ao n c cs):
  Calls Tryz.prog 16 #[.pointer (some ⟨hb,0,none⟩),.agg #[.int .i64 mn,.int .i64 mx,.slice so l.length sc],.int .i64 own,.int .i64 k,.string S,.slice ao n c] w fun x w'=>x= .returned (.int .i64 (insE m mn mx l own (chL L k S.data.toList):Nat))∧InsY w hb mb m L F q k S.data.toList ⟨own,true,n,cs⟩ (insE m mn mx l own (chL L k S.data.toList)) w':=by
 obtain⟨w0,hw0⟩: ∃w0,w0=w.alloc (.cells #[.int .i64 mn,.int .i64 mx,.slice so l.length sc] 38):=⟨_,rfl⟩
 have t0:Tch (fun _=>False) w w0:=by rw[hw0];exact Tch.alloc _ _ _
 have hFw: ∀i,F i→i<w.heap.size:=by
  obtain⟨_,_,_,_,_,_,_,_,_,h5⟩:=h
  exact fun i hi=>(h5 i hi).2
 have e0:w0.heap[w.heap.size]? =some (.cells #[.int .i64 mn,.int .i64 mx,.slice so l.length sc] 38 (0,0)):=by rw[hw0];exact alloc_new _ _
 have h0:HS w0 hb mb m L (fun i=>F i∨i=w.heap.size) q:=by
  obtain⟨tb,T,E,C,σ,g1,g2,g3,g4,g5⟩:=h
  have hfr:σ w.heap.size=none:=by
   cases hs:σ w.heap.size with
   |none=>rfl
   |some a=>exact absurd (g1.dom _ (by rw[hs];exact fun h=>by cases h)) (Nat.lt_irrefl _)
  refine⟨tb,T,E,C,σ,g1.no t0,g2,g3,(g4.fresh t0).mono (fun i hi=>?_),fun i hi=>?_⟩
  ·rcases hi with(hi|hi)|hi
   ·exact .inl (.inl hi)
   ·exact .inr ⟨by omega,by rw[hi];exact blk_lt e0⟩
   ·exact .inl (.inr hi)
  ·rcases hi with hi|hi
   ·exact⟨(g5 i hi).1,Nat.lt_of_lt_of_le (g5 i hi).2 t0.size⟩
   ·rw[hi];exact⟨hfr,blk_lt e0⟩
 obtain⟨EE,hEE⟩: ∃EE,EE=insE m mn mx l own (chL L k S.data.toList):=⟨_,rfl⟩
 obtain⟨C,hC⟩: ∃C:List Value→World→Prop,C=IC w0 hb (fun i=>F i∨i=w.heap.size) own mn mx l so sc n cs (InsX hb mb m L (fun i=>F i∨i=w.heap.size) q k S.data.toList ⟨own,true,n,cs⟩ (insE m mn mx l own (chL L k S.data.toList))):=⟨_,rfl⟩
 obtain⟨ln,hln⟩: ∃ln,ln=l.length:=⟨_,rfl⟩
 have hK: ∀s W,C s W→W.cell? ⟨w.heap.size,0,none⟩=some (.int .i64 mn)∧W.cell? ⟨w.heap.size,1,none⟩=some (.int .i64 mx)∧W.cell? ⟨w.heap.size,2,none⟩=some (.slice so ln sc):=fun s W hW=>by
  rw[hC] at hW
  have hb:=(IC.tch hW).block _ (blk_lt e0) (fun hn=>hn (Or.inr rfl))
  rw[e0] at hb
  exact⟨by rw[blk_cell hb];rfl,by rw[blk_cell hb];rfl,by rw[blk_cell hb,hln];rfl⟩
 have h0':C [] w0.drew:=by rw[hC];exact(Tch.refl _ _).drew
 have c1: ∀W,C [] W→Calls Tryz.prog 37 #[.int .i64 own,.slice ao n c] W fun x W'=> ∃y,x= .returned y∧C [y] W':=fun W hW=>by
  rw[hC] at hW ⊢
  exact IC.one (hr.no t0) hW
 have c2: ∀y W,C [y] W→Calls Tryz.prog 30 #[.pointer (some ⟨hb,0,none⟩),.agg #[.int .i64 mn,.int .i64 mx,.slice so ln sc],.int .i64 own] W fun x W'=> ∃f,x= .returned f∧C [y,f] W':=fun y W hW=>by
  rw[hC] at hW ⊢
  rw[hln]
  exact IC.two (hi.no t0) hW
 have c3: ∀y f W,C [y,f] W→Calls Tryz.prog 36 #[.pointer (some ⟨hb,0,none⟩),.int .i64 k,.string S,y,f,.func (.func 38) #[] #[]] W fun x W'=> ∃u,x= .returned u∧C [y,f,u] W':=fun y f W hW=>by
  rw[hC] at hW ⊢
  exact IC.three h0 hq h1 h2 hS h3 h4 hl hr.sm hr.one (fun a ha=>.inl (hso a ha)) hW
 have s1: ∀y W,C [y] W→ ∃ro rc,y= .agg #[.int .i64 own,.bool true,.slice ro n rc]:=fun y W hW=>by
  rw[hC] at hW
  obtain⟨_,ro,rc,e,_⟩:=hW
  exact⟨ro,rc,e⟩
 have s2: ∀y f W,C [y,f] W→ ∃b,f= .func (.func 57) #[] #[.pointer (some ⟨b,0,none⟩),.pointer (some ⟨b+1,0,none⟩),.pointer (some ⟨b+1+1,0,none⟩)]:=fun y f W hW=>by
  rw[hC] at hW
  obtain⟨_,ro,rc,_,_,b,e,_⟩:=hW
  exact⟨b,e⟩
 have s3: ∀y f u W,C [y,f,u] W→ ∃ro rn rc,u= .tuple #[.slice ro rn rc,.int .i64 (EE:Nat)]:=fun y f u W hW=>by
  rw[hC] at hW
  rw[hEE]
  exact hW.1.1
 have HF:Hid (∀y f u W,C [y,f,u] W→InsY w hb mb m L F q k S.data.toList ⟨own,true,n,cs⟩ EE W):=fun y f u W hW=>by
  rw[hC] at hW
  obtain⟨⟨_,hs⟩,tt⟩:=hW
  rw[hEE]
  refine⟨?_,(t0.mono (fun _ _ h=>h.elim)).trans tt (fun i hi hn hf=>hn (Or.inl hf))⟩
  obtain⟨tb,T,E,C',σ,g1,g2,g3,g4,g5⟩:=hs
  exact⟨tb,T,E,C',σ,g1,g2,g3,g4.mono (fun i hi=>hi.imp Or.inl id),fun i hi=>g5 i (Or.inl hi)⟩
 rw[←hEE]
 have Hw0:Hid _:=hw0
 rw[←hln] at hw0 Hw0 ⊢
 clear h h0 hC hEE hFw hi hr hso h1 h2 hS h3 h4 hl hq t0 e0 hw0 hln
 go_enter Tryz.func16,Tryz.ntmps16
 go_wp2_with fail
 have hw0:=Hw0.out
 rw[←hw0]
 clear hw0 Hw0
 refine wp_region_ordv [5,9,10] C 15 [0,1,2,3,4,6,7,8,5,9,10,11,12,13,14] (by kernel_rfl) (by kernel_rfl) h0' ?_
 clear h0'
 iterate 8
  refine ordv_read rfl (by go_simp) (by rfl) ?_
  apply Exists.intro
  refine⟨fun s' W hW b K Q hK'=>?_,fun K hK'=>?_⟩
  ·obtain⟨q0,q1,q2⟩:=hK _ W hW
   go_simp
   exact hK' W hW
  go_simp
  refine hK' _ ?_
  clear hK' K
 refine ordv_turn rfl (by go_simp) (by rfl) (fun W hW b K Q hK'=>?_) (fun u hu K hK'=>?_)
 ·go_simp
  go_at_call 37
  refine(c1 W hW).mono ?_
  rintro x w' ⟨y,rfl,h1⟩
  exact hK' y w' h1
 obtain⟨ro,rc,rfl⟩: ∃ro rc,u= .agg #[.int .i64 own,.bool true,.slice ro n rc]:=by
  obtain⟨W',hW'⟩:=hu
  exact s1 u W' hW'
 clear hu c1 s1
 go_simp
 refine hK' _ ?_
 clear hK' K
 refine ordv_turn rfl (by go_simp) (by rfl) (fun W hW b K Q hK'=>?_) (fun u hu K hK'=>?_)
 ·go_simp
  go_at_call 30
  refine(c2 _ W hW).mono ?_
  rintro x w' ⟨y,rfl,h1⟩
  exact hK' y w' h1
 obtain⟨b9,rfl⟩: ∃b,u= .func (.func 57) #[] #[.pointer (some ⟨b,0,none⟩),.pointer (some ⟨b+1,0,none⟩),.pointer (some ⟨b+1+1,0,none⟩)]:=by
  obtain⟨W',hW'⟩:=hu
  exact s2 _ u W' hW'
 clear hu c2 s2
 go_simp
 refine hK' _ ?_
 clear hK' K
 refine ordv_turn rfl (by go_simp) (by rfl) (fun W hW b K Q hK'=>?_) (fun u hu K hK'=>?_)
 ·go_simp
  go_at_call 36
  refine(c3 _ _ W hW).mono ?_
  rintro x w' ⟨y,rfl,h1⟩
  exact hK' y w' h1
 obtain⟨ro3,rn3,rc3,rfl⟩: ∃ro rn rc,u= .tuple #[.slice ro rn rc,.int .i64 (EE:Nat)]:=by
  obtain⟨W',hW'⟩:=hu
  exact s3 _ _ u W' hW'
 clear hu c3 s3
 iterate 4
  go_simp
  refine hK' _ ?_
  clear hK' K
  refine ordv_read rfl (by go_simp) (by rfl) ?_
  apply Exists.intro
  refine⟨fun s' W hW b K Q hK'=>?_,fun K hK'=>?_⟩
  ·obtain⟨q0,q1,q2⟩:=hK _ W hW
   go_simp
   exact hK' W hW
 go_simp
 refine hK' _ ?_
 clear hK' K
 refine ordv_nil ?_
 intro w5 hw5
 have HG:Hid _:=HF.out _ _ _ w5 hw5
 clear hK HF hw5
 go_wp2
 go_ret
 exact⟨rfl,HG.out⟩
end Go.Proofs.YtppokgdofgigfaaGreat
