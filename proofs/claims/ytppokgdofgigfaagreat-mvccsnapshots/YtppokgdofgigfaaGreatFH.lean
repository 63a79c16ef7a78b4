import Derived.Test.YtppokgdofgigfaaGreatMWr3
set_option maxHeartbeats 4000000
set_option maxRecDepth 100000
namespace Go.Proofs.YtppokgdofgigfaaGreat
open Go.RowKit Go Go.Sort Go.Maps
theorem rs_gone:Tryz.f73.results=#[.cell 2 69]:=by kernel_rfl
theorem gone_any (wr:Int) (w:World):Calls Tryz.prog 73 #[.int .i64 wr] w fun x w'=>x= .returned (.agg #[.int .i64 wr,.bool false,.slice none 0 0])∧Tch (fun _=>False) w w':=by
 go_enter Tryz.func73,Tryz.ntmps73
 go_wp2_with fail
 refine bodyPost_ret (res_ver1 rs_gone rfl (alloc_new _ _)) rfl ⟨rfl,Tch.alloc _ _ _⟩
def ID (w0:World) (hb:Nat) (F:Nat→Prop) (own mn mx:Int) (l:List Int) (so:Option Addr) (sc n:Nat) (th:Bool) (cs:List Value) (out:Value→World→Prop) (s:List Value) (W:World):Prop:=match s with
 |[]=>Tch (fun _=>False) w0 W
 |[y]=>Tch (fun _=>False) w0 W∧ ∃ro rc,y= .agg #[.int .i64 own,.bool th,.slice ro n rc]∧W.ownsRow w0.heap.size 79 3 (.slice ro n rc) n cs
 |[y,f]=>Tch (fun _=>False) w0 W∧(∃ro rc,y= .agg #[.int .i64 own,.bool th,.slice ro n rc]∧W.ownsRow w0.heap.size 79 3 (.slice ro n rc) n cs∧
   ∃b,f= .func (.func 57) #[] #[.pointer (some ⟨b,0,none⟩),.pointer (some ⟨b+1,0,none⟩),.pointer (some ⟨b+1+1,0,none⟩)]∧w0.heap.size≤b∧(∀g,(Value.slice ro n rc).ownBlock=some g→g<b)∧SB W hb b (b+1) (b+1+1) mn mx l so sc own)
 |[_,_,x]=>out x W∧Tch (fun i=> ¬F i) w0 W
 |_=>False
theorem ID.tch {w0:World} {hb:Nat} {F:Nat→Prop} {own mn mx:Int} {l:List Int} {so:Option Addr} {sc n:Nat} {th:Bool} {cs:List Value} {out:Value→World→Prop} {s:List Value} {W:World} (h:ID w0 hb F own mn mx l so sc n th cs out s W):Tch (fun i=> ¬F i) w0 W:=by
 match s,h with
 |[],h=>exact Tch.mono h (fun _ _ h=>h.elim)
 |[_],h=>exact h.1.mono (fun _ _ h=>h.elim)
 |[_,_],h=>exact h.1.mono (fun _ _ h=>h.elim)
 |[_,_,_],h=>exact h.2
theorem ID.one {w0:World} {hb:Nat} {F:Nat→Prop} {own mn mx:Int} {l:List Int} {so:Option Addr} {sc n:Nat} {cs:List Value} {out:Value→World→Prop} {W:World} {ao:Option Addr} {c:Nat} (hr:RdR w0 ao n c cs) (h:ID w0 hb F own mn mx l so sc n true cs out [] W):
  Calls Tryz.prog 37 #[.int .i64 own,.slice ao n c] W fun x W'=> ∃y,x= .returned y∧ID w0 hb F own mn mx l so sc n true cs out [y] W':=by
 have tW:Tch (fun _=>False) w0 W:=h
 refine(filled_any own ao n c cs W (hr.no tW)).mono ?_
 rintro x W' ⟨⟨ro,rc,rfl,ho⟩,t⟩
 exact⟨_,rfl,tW.trans' t,ro,rc,rfl,own_low ho tW.size⟩
theorem ID.gone {w0:World} {hb:Nat} {F:Nat→Prop} {own mn mx:Int} {l:List Int} {so:Option Addr} {sc:Nat} {out:Value→World→Prop} {W:World} (h:ID w0 hb F own mn mx l so sc 0 false [] out [] W):
  Calls Tryz.prog 73 #[.int .i64 own] W fun x W'=> ∃y,x= .returned y∧ID w0 hb F own mn mx l so sc 0 false [] out [y] W':=by
 have tW:Tch (fun _=>False) w0 W:=h
 refine(gone_any own W).mono ?_
 rintro x W' ⟨rfl,t⟩
 exact⟨_,rfl,tW.trans' t,none,0,rfl,World.ownsRow_nil _ _ _ _⟩
theorem ID.two {w0:World} {hb:Nat} {F:Nat→Prop} {own mn mx:Int} {l:List Int} {so:Option Addr} {sc n:Nat} {th:Bool} {cs:List Value} {out:Value→World→Prop} {W:World} {y:Value} (hi:IR w0 so l) (h:ID w0 hb F own mn mx l so sc n th cs out [y] W):
  Calls Tryz.prog 30 #[.pointer (some ⟨hb,0,none⟩),.agg #[.int .i64 mn,.int .i64 mx,.slice so l.length sc],.int .i64 own] W fun x W'=> ∃f,x= .returned f∧ID w0 hb F own mn mx l so sc n th cs out [y,f] W':=by
 obtain⟨tW,ro,rc,rfl,ho⟩:=h
 refine(seenBy_any hb mn mx so l.length sc own W).mono ?_
 rintro x W' ⟨rfl,hW'⟩
 have t1:Tch (fun _=>False) W W':=by rw[hW'];exact((Tch.alloc _ _ _).allocR _).allocR _
 refine⟨_,rfl,tW.trans' t1,ro,rc,rfl,own_tch ho t1 (fun _ _ h=>h),W.heap.size,rfl,tW.size,fun g hg=>?_,⟨?_,?_,?_,(hi.no tW).no t1⟩⟩
 ·obtain⟨cur,hc⟩:=own_blk ho hg
  exact blk_lt hc
 ·rw[hW',((Tch.alloc (fun _=>False) (W.alloc (.cells #[.pointer (some ⟨hb,0,none⟩)] 36)) _).allocR _).block _ (by simp) (fun h=>h)];exact alloc_new _ _
 ·rw[hW',(Tch.alloc (fun _=>False) ((W.alloc (.cells #[.pointer (some ⟨hb,0,none⟩)] 36)).alloc (.cells #[.int .i64 mn,.int .i64 mx,.slice so l.length sc] 38)) _).block _ (by simp) (fun h=>h)]
  have:=alloc_new (W.alloc (.cells #[.pointer (some ⟨hb,0,none⟩)] 36)) (.cells #[.int .i64 mn,.int .i64 mx,.slice so l.length sc] 38)
  rwa [World.size_alloc] at this
 ·rw[hW']
  have:=alloc_new ((W.alloc (.cells #[.pointer (some ⟨hb,0,none⟩)] 36)).alloc (.cells #[.int .i64 mn,.int .i64 mx,.slice so l.length sc] 38)) (.cells #[.int .i64 own] 3)
  simp only[World.size_alloc] at this
  exact this
def RowB (base:Nat) (m:Mg) (c:List Ver) (ee:Nat) (ro:Option Addr) (rn rc:Nat) (W:World):Prop:=(ee=0→ ∃v,stdV m c=some v∧rn=v.n∧W.ownsRow base 79 3 (.slice ro rn rc) rn v.cs)∧(ee≠0→rn=0)
def UpdX (base hb mb:Nat) (m:Mg) (L:HL) (F:Nat→Prop) (q:Nat) (k:Int) (s:List UInt8) (v:Ver) (ee:Nat) (x:Value) (W:World):Prop:=(∃ro rn rc,x= .tuple #[.slice ro rn rc,.int .i64 (ee:Nat)]∧RowB base m (chL L k s) ee ro rn rc W)∧HS W hb mb m (if ee=0 then appL L k s v else L) F (q+3)
def UpdY (w:World) (hb mb:Nat) (m:Mg) (L:HL) (F:Nat→Prop) (q:Nat) (k:Int) (s:List UInt8) (v:Ver) (ee:Nat) (W:World):Prop:=HS W hb mb m (if ee=0 then appL L k s v else L) F (q+3)∧Kept F w W
theorem ID.three {w0:World} {hb mb:Nat} {m:Mg} {L:HL} {F:Nat→Prop} {q:Nat} {own mn mx:Int} {l:List Int} {so:Option Addr} {sc n:Nat} {th:Bool} {cs:List Value} {k:Int} {S:ByteArray} {W:World} {y f:Value} (hh:HS w0 hb mb m L F q) (hq:q≤1000) (h1: -9223372036854775808≤k) (h2:k≤9223372036854775807) (hS:S.size≤maxLen) (h3: -9223372036854775808≤own) (h4:own≤9223372036854775807) (hl:l.length≤9223372036854775807) (hn:n≤1000000) (ho1: ∀u∈cs,u.oneCell'=true) (hso: ∀a,so=some a→F a.block)
  (h:ID w0 hb F own mn mx l so sc n th cs (UpdX w0.heap.size hb mb m L F q k S.data.toList ⟨own,th,n,cs⟩ (repE m mn mx l own (chL L k S.data.toList))) [y,f] W):
  Calls Tryz.prog 36 #[.pointer (some ⟨hb,0,none⟩),.int .i64 k,.string S,y,f,.func (.func 72) #[] #[]] W fun x W'=> ∃u,x= .returned u∧ID w0 hb F own mn mx l so sc n th cs (UpdX w0.heap.size hb mb m L F q k S.data.toList ⟨own,th,n,cs⟩ (repE m mn mx l own (chL L k S.data.toList))) [y,f,u] W':=by
 obtain⟨tW,ro,rc,rfl,ho,b,rfl,hb0,hgb,sb⟩:=h
 obtain⟨tb,T,E,C,σ,hw,hL,hne,hM,hF⟩:=hh
 obtain⟨σ1,hσ1⟩: ∃σ1:Nat→Option Nat,σ1=fun i=>if (Value.slice ro n rc).ownBlock=some i then some (2*i) else σ i:=⟨_,rfl⟩
 have hfr: ∀i,w0.heap.size≤i→σ i=none:=fun i hi=>by
  cases hs:σ i with
  |none=>rfl
  |some a=>exact absurd (hw.dom i (by rw[hs];exact fun h=>by cases h)) (by omega)
 have hsg: ∀i,σ i≠none→σ1 i=σ i:=fun i hi=>by
  rw[hσ1]
  by_cases e:(Value.slice ro n rc).ownBlock=some i
  ·exact absurd (hfr i (row_ge ho e)) hi
  ·simp only[if_neg e]
 have hsn: ∀i,i<w0.heap.size→σ i=none→σ1 i=none:=fun i hi h0=>by
  rw[hσ1]
  have: ¬(Value.slice ro n rc).ownBlock=some i:=fun e=>by have:=row_ge ho e;omega
  simp only[if_neg this];exact h0
 have hd1: ∀i,σ1 i≠none→i<W.heap.size:=fun i hi=>by
  rw[hσ1] at hi
  by_cases e:(Value.slice ro n rc).ownBlock=some i
  ·obtain⟨cur,hc⟩:=own_blk ho e;exact blk_lt hc
  ·simp only[if_neg e] at hi;exact Nat.lt_of_lt_of_le (hw.dom i hi) tW.size
 have hw1:=(hw.no tW).relab hsg hd1
 have hM1:MF W mb m (fun i=>F i∨σ1 i≠none):=hM.beside (tW.mono (fun _ _ h=>h.elim)) hsn hd1
 have hz:VOK W σ1 (⟨own,th,n,cs⟩,(ro,rc)):=by
  refine⟨own_low ho (Nat.zero_le _),fun g hg=>?_,ho1,hn,h3,h4⟩
  rw[hσ1]
  simp only[hg,if_true]
 have lnew: ∀i,b≤i→σ1 i=none:=fun i hi=>by
  rw[hσ1]
  have: ¬(Value.slice ro n rc).ownBlock=some i:=fun e=>by have:=hgb i e;omega
  simp only[if_neg this];exact hfr i (by omega)
 refine(write3_any W hb mb tb T E C σ1 q hw1 hne hq m F hM1 k h1 h2 S hS (⟨own,th,n,cs⟩,(ro,rc)) hz b (b+1) (b+1+1) mn mx l so sc own h3 h4 hl sb (lnew _ (by omega)) (lnew _ (by omega)) (lnew _ (by omega)) (fun a ha=>hsn _ (hF _ (hso a ha)).2 (hF _ (hso a ha)).1)).mono ?_
 rw[hL]
 rintro x W' ⟨ro',rn',rc',T',E',C',σ',rfl,hw',hl',hsg',hsn',t',hrow,_⟩
 have tF:Tch (fun i=> ¬F i) w0 W':=(tW.mono (fun _ _ h=>h.elim)).trans t' (fun i hi hs hf=>hs (hsn i hi (hF i hf).1))
 refine⟨_,rfl,⟨⟨ro',rn',rc',rfl,?_,hrow.2⟩,tb,T',E',C',σ',hw',by rw[hl',hL],?_,hM1.beside t' hsn' hw'.dom,fun i hi=>⟨?_,Nat.lt_of_lt_of_le (hF i hi).2 (Nat.le_trans tW.size t'.size)⟩⟩,tF⟩
 ·intro he
  obtain⟨v,e1,e2,e3⟩:=hrow.1 he
  exact⟨v,by rw[←hL];exact e1,e2,own_low e3 tW.size⟩
 ·refine ne_of_labs hl' ?_
  split
  ·exact appL_ne (labs_ne hne) _ _ _
  ·exact labs_ne hne
 ·exact hsn' i (Nat.lt_of_lt_of_le (hF i hi).2 tW.size) (hsn i (hF i hi).2 (hF i hi).1)
theorem update_f (w:World) (hb mb:Nat) (m:Mg) (L:HL) (F:Nat→Prop) (q:Nat) (h:HS w hb mb m L F q) (hq:q≤1000) (k:Int) (h1: -9223372036854775808≤k) (h2:k≤9223372036854775807) (S:ByteArray) (hS:S.size≤maxLen) (mn mx:Int) (l:List Int) (so:Option Addr) (sc:Nat) (own:Int) (h3: -9223372036854775808≤own) (h4:own≤9223372036854775807) (hl:l.length≤9223372036854775807) (hi:IR w so l) (hso: ∀a,so=some a→F a.block) (ao:Option Addr) (n c:Nat) (cs:List Value) (hr:RdR w ao n c cs):
  Calls Tryz.prog 49 #[.pointer (some ⟨hb,0,none⟩),.agg #[.int .i64 mn,.int .i64 mx,.slice so l.length sc],.int .i64 own,.int .i64 k,.string S,.slice ao n c] w fun x w'=>(∃ro rn rc,x= .returned (.tuple #[.slice ro rn rc,.int .i64 (repE m mn mx l own (chL L k S.data.toList):Nat)])∧RowB w.heap.size m (chL L k S.data.toList) (repE m mn mx l own (chL L k S.data.toList)) ro rn rc w')∧UpdY w hb mb m L F q k S.data.toList ⟨own,true,n,cs⟩ (repE m mn mx l own (chL L k S.data.toList)) w':=by
 obtain⟨w0,hw0⟩: ∃w0,w0=w.alloc (.cells #[.int .i64 mn,.int .i64 mx,.slice so l.length sc] 38):=⟨_,rfl⟩
 have t0:Tch (fun _=>False) w w0:=by rw[hw0];exact Tch.alloc _ _ _
 have hFw: ∀i,F i→i<w.heap.size:=by
  obtain⟨_,_,_,_,_,_,_,_,_,h5⟩:=h
  exact fun i hi=>(h5 i hi).2
 have e0:w0.heap[w.heap.size]? =some (.cells #[.int .i64 mn,.int .i64 mx,.slice so l.length sc] 38 (0,0)):=by rw[hw0];exact alloc_new _ _
 have h0:HS w0 hb mb m L (fun i=>F i∨i=w.heap.size) q:=by
  obtain⟨tb,T,E,C,σ,g1,g2,g3,g4,g5⟩:=h
  have hfr:σ w.heap.size=none:=by
   cases hs:σ w.heap.size with
   |none=>rfl
   |some a=>exact absurd (g1.dom _ (by rw[hs];exact fun h=>by cases h)) (Nat.lt_irrefl _)
  refine⟨tb,T,E,C,σ,g1.no t0,g2,g3,(g4.fresh t0).mono (fun i hi=>?_),fun i hi=>?_⟩
  ·rcases hi with(hi|hi)|hi
   ·exact .inl (.inl hi)
   ·exact .inr ⟨by omega,by rw[hi];exact blk_lt e0⟩
   ·exact .inl (.inr hi)
  ·rcases hi with hi|hi
   ·exact⟨(g5 i hi).1,Nat.lt_of_lt_of_le (g5 i hi).2 t0.size⟩
   ·rw[hi];exact⟨hfr,blk_lt e0⟩
 obtain⟨EE,hEE⟩: ∃EE,EE=repE m mn mx l own (chL L k S.data.toList):=⟨_,rfl⟩
 obtain⟨C,hC⟩: ∃C:List Value→World→Prop,C=ID w0 hb (fun i=>F i∨i=w.heap.size) own mn mx l so sc n true cs (UpdX w0.heap.size hb mb m L (fun i=>F i∨i=w.heap.size) q k S.data.toList ⟨own,true,n,cs⟩ (repE m mn mx l own (chL L k S.data.toList))):=⟨_,rfl⟩
 obtain⟨ln,hln⟩: ∃ln,ln=l.length:=⟨_,rfl⟩
 have hK: ∀s W,C s W→W.cell? ⟨w.heap.size,0,none⟩=some (.int .i64 mn)∧W.cell? ⟨w.heap.size,1,none⟩=some (.int .i64 mx)∧W.cell? ⟨w.heap.size,2,none⟩=some (.slice so ln sc):=fun s W hW=>by
  rw[hC] at hW
  have hb:=(ID.tch hW).block _ (blk_lt e0) (fun hn=>hn (Or.inr rfl))
  rw[e0] at hb
  exact⟨by rw[blk_cell hb];rfl,by rw[blk_cell hb];rfl,by rw[blk_cell hb,hln];rfl⟩
 have h0':C [] w0.drew:=by rw[hC];exact(Tch.refl _ _).drew
 have c1: ∀W,C [] W→Calls Tryz.prog 37 #[.int .i64 own,.slice ao n c] W fun x W'=> ∃y,x= .returned y∧C [y] W':=fun W hW=>by
  rw[hC] at hW ⊢
  exact ID.one (hr.no t0) hW
 have c2: ∀y W,C [y] W→Calls Tryz.prog 30 #[.pointer (some ⟨hb,0,none⟩),.agg #[.int .i64 mn,.int .i64 mx,.slice so ln sc],.int .i64 own] W fun x W'=> ∃f,x= .returned f∧C [y,f] W':=fun y W hW=>by
  rw[hC] at hW ⊢
  rw[hln]
  exact ID.two (hi.no t0) hW
 have c3: ∀y f W,C [y,f] W→Calls Tryz.prog 36 #[.pointer (some ⟨hb,0,none⟩),.int .i64 k,.string S,y,f,.func (.func 72) #[] #[]] W fun x W'=> ∃u,x= .returned u∧C [y,f,u] W':=fun y f W hW=>by
  rw[hC] at hW ⊢
  exact ID.three h0 hq h1 h2 hS h3 h4 hl hr.sm hr.one (fun a ha=>.inl (hso a ha)) hW
 have s1: ∀y W,C [y] W→ ∃ro rc,y= .agg #[.int .i64 own,.bool true,.slice ro n rc]:=fun y W hW=>by
  rw[hC] at hW
  obtain⟨_,ro,rc,e,_⟩:=hW
  exact⟨ro,rc,e⟩
 have s2: ∀y f W,C [y,f] W→ ∃b,f= .func (.func 57) #[] #[.pointer (some ⟨b,0,none⟩),.pointer (some ⟨b+1,0,none⟩),.pointer (some ⟨b+1+1,0,none⟩)]:=fun y f W hW=>by
  rw[hC] at hW
  obtain⟨_,ro,rc,_,_,b,e,_⟩:=hW
  exact⟨b,e⟩
 have s3: ∀y f u W,C [y,f,u] W→ ∃ro rn rc,u= .tuple #[.slice ro rn rc,.int .i64 (EE:Nat)]:=fun y f u W hW=>by
  rw[hC] at hW
  rw[hEE]
  obtain⟨ro,rn,rc,e,_⟩:=hW.1.1
  exact⟨ro,rn,rc,e⟩
 have HF:Hid (∀y f ro rn rc W,C [y,f,.tuple #[.slice ro rn rc,.int .i64 (EE:Nat)]] W→RowB w.heap.size m (chL L k S.data.toList) EE ro rn rc W∧UpdY w hb mb m L F q k S.data.toList ⟨own,true,n,cs⟩ EE W):=fun y f ro rn rc W hW=>by
  rw[hC] at hW
  obtain⟨⟨⟨ro',rn',rc',e,hrow⟩,hs⟩,tt⟩:=hW
  injection e with e
  simp only[Array.mk.injEq,List.cons.injEq,Value.slice.injEq,and_true] at e
  obtain⟨⟨rfl,rfl,rfl⟩,_⟩:=e
  rw[hEE]
  refine⟨⟨fun h=>?_,hrow.2⟩,?_,(t0.mono (fun _ _ h=>h.elim)).trans tt (fun i hi hn hf=>hn (Or.inl hf))⟩
  ·obtain⟨v,e1,e2,e3⟩:=hrow.1 h
   exact⟨v,e1,e2,own_low e3 t0.size⟩
  ·obtain⟨tb,T,E,C',σ,g1,g2,g3,g4,g5⟩:=hs
   exact⟨tb,T,E,C',σ,g1,g2,g3,g4.mono (fun i hi=>hi.imp Or.inl id),fun i hi=>g5 i (Or.inl hi)⟩
 rw[←hEE]
 have Hw0:Hid _:=hw0
 rw[←hln] at hw0 Hw0 ⊢
 clear h h0 hC hEE hFw hi hr hso h1 h2 hS h3 h4 hl hq t0 e0 hw0 hln
 go_enter Tryz.func49,Tryz.ntmps49
 go_wp2_with fail
 have hw0:=Hw0.out
 rw[←hw0]
 clear hw0 Hw0
 refine wp_region_ordv [5,9,10] C 14 [0,1,2,3,4,6,7,8,5,9,10,11,12,13] (by kernel_rfl) (by kernel_rfl) h0' ?_
 clear h0'
 iterate 8
  refine ordv_read rfl (by go_simp) (by rfl) ?_
  apply Exists.intro
  refine⟨fun s' W hW b K Q hK'=>?_,fun K hK'=>?_⟩
  ·obtain⟨q0,q1,q2⟩:=hK _ W hW
   go_simp
   exact hK' W hW
  go_simp
  refine hK' _ ?_
  clear hK' K
 refine ordv_turn rfl (by go_simp) (by rfl) (fun W hW b K Q hK'=>?_) (fun u hu K hK'=>?_)
 ·go_simp
  go_at_call 37
  refine(c1 W hW).mono ?_
  rintro x w' ⟨y,rfl,h1⟩
  exact hK' y w' h1
 obtain⟨ro,rc,rfl⟩: ∃ro rc,u= .agg #[.int .i64 own,.bool true,.slice ro n rc]:=by
  obtain⟨W',hW'⟩:=hu
  exact s1 u W' hW'
 clear hu c1 s1
 go_simp
 refine hK' _ ?_
 clear hK' K
 refine ordv_turn rfl (by go_simp) (by rfl) (fun W hW b K Q hK'=>?_) (fun u hu K hK'=>?_)
 ·go_simp
  go_at_call 30
  refine(c2 _ W hW).mono ?_
  rintro x w' ⟨y,rfl,h1⟩
  exact hK' y w' h1
 obtain⟨b9,rfl⟩: ∃b,u= .func (.func 57) #[] #[.pointer (some ⟨b,0,none⟩),.pointer (some ⟨b+1,0,none⟩),.pointer (some ⟨b+1+1,0,none⟩)]:=by
  obtain⟨W',hW'⟩:=hu
  exact s2 _ u W' hW'
 clear hu c2 s2
 go_simp
 refine hK' _ ?_
 clear hK' K
 refine ordv_turn rfl (by go_simp) (by rfl) (fun W hW b K Q hK'=>?_) (fun u hu K hK'=>?_)
 ·go_simp
  go_at_call 36
  refine(c3 _ _ W hW).mono ?_
  rintro x w' ⟨y,rfl,h1⟩
  exact hK' y w' h1
 obtain⟨ro3,rn3,rc3,rfl⟩: ∃ro rn rc,u= .tuple #[.slice ro rn rc,.int .i64 (EE:Nat)]:=by
  obtain⟨W',hW'⟩:=hu
  exact s3 _ _ u W' hW'
 clear hu c3 s3
 iterate 3
  go_simp
  refine hK' _ ?_
  clear hK' K
  refine ordv_read rfl (by go_simp) (by rfl) ?_
  apply Exists.intro
  refine⟨fun s' W hW b K Q hK'=>?_,fun K hK'=>?_⟩
  ·obtain⟨q0,q1,q2⟩:=hK _ W hW
   go_simp
   exact hK' W hW
 go_simp
 refine hK' _ ?_
 clear hK' K
 refine ordv_nil ?_
 intro w5 hw5
 have HG:Hid _:=HF.out _ _ _ _ _ w5 hw5
 clear hK HF hw5
 go_wp2
 go_ret2
 exact⟨⟨_,_,_,rfl,HG.out.1⟩,HG.out.2⟩
theorem delete_f (w:World) (hb mb:Nat) (m:Mg) (L:HL) (F:Nat→Prop) (q:Nat) (h:HS w hb mb m L F q) (hq:q≤1000) (k:Int) (h1: -9223372036854775808≤k) (h2:k≤9223372036854775807) (S:ByteArray) (hS:S.size≤maxLen) (mn mx:Int) (l:List Int) (so:Option Addr) (sc:Nat) (own:Int) (h3: -9223372036854775808≤own) (h4:own≤9223372036854775807) (hl:l.length≤9223372036854775807) (hi:IR w so l) (hso: ∀a,so=some a→F a.block):
  Calls Tryz.prog 50 #[.pointer (some ⟨hb,0,none⟩),.agg #[.int .i64 mn,.int .i64 mx,.slice so l.length sc],.int .i64 own,.int .i64 k,.string S] w fun x w'=>(∃ro rn rc,x= .returned (.tuple #[.slice ro rn rc,.int .i64 (repE m mn mx l own (chL L k S.data.toList):Nat)])∧RowB w.heap.size m (chL L k S.data.toList) (repE m mn mx l own (chL L k S.data.toList)) ro rn rc w')∧UpdY w hb mb m L F q k S.data.toList ⟨own,false,0,[]⟩ (repE m mn mx l own (chL L k S.data.toList)) w':=by
 obtain⟨w0,hw0⟩: ∃w0,w0=w.alloc (.cells #[.int .i64 mn,.int .i64 mx,.slice so l.length sc] 38):=⟨_,rfl⟩
 have t0:Tch (fun _=>False) w w0:=by rw[hw0];exact Tch.alloc _ _ _
 have hFw: ∀i,F i→i<w.heap.size:=by
  obtain⟨_,_,_,_,_,_,_,_,_,h5⟩:=h
  exact fun i hi=>(h5 i hi).2
 have e0:w0.heap[w.heap.size]? =some (.cells #[.int .i64 mn,.int .i64 mx,.slice so l.length sc] 38 (0,0)):=by rw[hw0];exact alloc_new _ _
 have h0:HS w0 hb mb m L (fun i=>F i∨i=w.heap.size) q:=by
  obtain⟨tb,T,E,C,σ,g1,g2,g3,g4,g5⟩:=h
  have hfr:σ w.heap.size=none:=by
   cases hs:σ w.heap.size with
   |none=>rfl
   |some a=>exact absurd (g1.dom _ (by rw[hs];exact fun h=>by cases h)) (Nat.lt_irrefl _)
  refine⟨tb,T,E,C,σ,g1.no t0,g2,g3,(g4.fresh t0).mono (fun i hi=>?_),fun i hi=>?_⟩
  ·rcases hi with(hi|hi)|hi
   ·exact .inl (.inl hi)
   ·exact .inr ⟨by omega,by rw[hi];exact blk_lt e0⟩
   ·exact .inl (.inr hi)
  ·rcases hi with hi|hi
   ·exact⟨(g5 i hi).1,Nat.lt_of_lt_of_le (g5 i hi).2 t0.size⟩
   ·rw[hi];exact⟨hfr,blk_lt e0⟩
 obtain⟨EE,hEE⟩: ∃EE,EE=repE m mn mx l own (chL L k S.data.toList):=⟨_,rfl⟩
 obtain⟨C,hC⟩: ∃C:List Value→World→Prop,C=ID w0 hb (fun i=>F i∨i=w.heap.size) own mn mx l so sc 0 false [] (UpdX w0.heap.size hb mb m L (fun i=>F i∨i=w.heap.size) q k S.data.toList ⟨own,false,0,[]⟩ (repE m mn mx l own (chL L k S.data.toList))):=⟨_,rfl⟩
 obtain⟨ln,hln⟩: ∃ln,ln=l.length:=⟨_,rfl⟩
 have hK: ∀s W,C s W→W.cell? ⟨w.heap.size,0,none⟩=some (.int .i64 mn)∧W.cell? ⟨w.heap.size,1,none⟩=some (.int .i64 mx)∧W.cell? ⟨w.heap.size,2,none⟩=some (.slice so ln sc):=fun s W hW=>by
  rw[hC] at hW
  have hb:=(ID.tch hW).block _ (blk_lt e0) (fun hn=>hn (Or.inr rfl))
  rw[e0] at hb
  exact⟨by rw[blk_cell hb];rfl,by rw[blk_cell hb];rfl,by rw[blk_cell hb,hln];rfl⟩
 have h0':C [] w0.drew:=by rw[hC];exact(Tch.refl _ _).drew
 have c1: ∀W,C [] W→Calls Tryz.prog 73 #[.int .i64 own] W fun x W'=> ∃y,x= .returned y∧C [y] W':=fun W hW=>by
  rw[hC] at hW ⊢
  exact ID.gone hW
 have c2: ∀y W,C [y] W→Calls Tryz.prog 30 #[.pointer (some ⟨hb,0,none⟩),.agg #[.int .i64 mn,.int .i64 mx,.slice so ln sc],.int .i64 own] W fun x W'=> ∃f,x= .returned f∧C [y,f] W':=fun y W hW=>by
  rw[hC] at hW ⊢
  rw[hln]
  exact ID.two (hi.no t0) hW
 have c3: ∀y f W,C [y,f] W→Calls Tryz.prog 36 #[.pointer (some ⟨hb,0,none⟩),.int .i64 k,.string S,y,f,.func (.func 72) #[] #[]] W fun x W'=> ∃u,x= .returned u∧C [y,f,u] W':=fun y f W hW=>by
  rw[hC] at hW ⊢
  exact ID.three h0 hq h1 h2 hS h3 h4 hl (Nat.zero_le _) (fun u hu=>by cases hu) (fun a ha=>.inl (hso a ha)) hW
 have s1: ∀y W,C [y] W→ ∃ro rc,y= .agg #[.int .i64 own,.bool false,.slice ro 0 rc]:=fun y W hW=>by
  rw[hC] at hW
  obtain⟨_,ro,rc,e,_⟩:=hW
  exact⟨ro,rc,e⟩
 have s2: ∀y f W,C [y,f] W→ ∃b,f= .func (.func 57) #[] #[.pointer (some ⟨b,0,none⟩),.pointer (some ⟨b+1,0,none⟩),.pointer (some ⟨b+1+1,0,none⟩)]:=fun y f W hW=>by
  rw[hC] at hW
  obtain⟨_,ro,rc,_,_,b,e,_⟩:=hW
  exact⟨b,e⟩
 have s3: ∀y f u W,C [y,f,u] W→ ∃ro rn rc,u= .tuple #[.slice ro rn rc,.int .i64 (EE:Nat)]:=fun y f u W hW=>by
  rw[hC] at hW
  rw[hEE]
  obtain⟨ro,rn,rc,e,_⟩:=hW.1.1
  exact⟨ro,rn,rc,e⟩
 have HF:Hid (∀y f ro rn rc W,C [y,f,.tuple #[.slice ro rn rc,.int .i64 (EE:Nat)]] W→RowB w.heap.size m (chL L k S.data.toList) EE ro rn rc W∧UpdY w hb mb m L F q k S.data.toList ⟨own,false,0,[]⟩ EE W):=fun y f ro rn rc W hW=>by
  rw[hC] at hW
  obtain⟨⟨⟨ro',rn',rc',e,hrow⟩,hs⟩,tt⟩:=hW
  injection e with e
  simp only[Array.mk.injEq,List.cons.injEq,Value.slice.injEq,and_true] at e
  obtain⟨⟨rfl,rfl,rfl⟩,_⟩:=e
  rw[hEE]
  refine⟨⟨fun h=>?_,hrow.2⟩,?_,(t0.mono (fun _ _ h=>h.elim)).trans tt (fun i hi hn hf=>hn (Or.inl hf))⟩
  ·obtain⟨v,e1,e2,e3⟩:=hrow.1 h
   exact⟨v,e1,e2,own_low e3 t0.size⟩
  ·obtain⟨tb,T,E,C',σ,g1,g2,g3,g4,g5⟩:=hs
   exact⟨tb,T,E,C',σ,g1,g2,g3,g4.mono (fun i hi=>hi.imp Or.inl id),fun i hi=>g5 i (Or.inl hi)⟩
 rw[←hEE]
 have Hw0:Hid _:=hw0
 rw[←hln] at hw0 Hw0 ⊢
 clear h h0 hC hEE hFw hi hso h1 h2 hS h3 h4 hl hq t0 e0 hw0 hln
 go_enter Tryz.func50,Tryz.ntmps50
 go_wp2_with fail
 have hw0:=Hw0.out
 rw[←hw0]
 clear hw0 Hw0
 refine wp_region_ordv [4,8,9] C 13 [0,1,2,3,5,6,7,4,8,9,10,11,12] (by kernel_rfl) (by kernel_rfl) h0' ?_
 clear h0'
 iterate 7
  refine ordv_read rfl (by go_simp) (by rfl) ?_
  apply Exists.intro
  refine⟨fun s' W hW b K Q hK'=>?_,fun K hK'=>?_⟩
  ·obtain⟨q0,q1,q2⟩:=hK _ W hW
   go_simp
   exact hK' W hW
  go_simp
  refine hK' _ ?_
  clear hK' K
 refine ordv_turn rfl (by go_simp) (by rfl) (fun W hW b K Q hK'=>?_) (fun u hu K hK'=>?_)
 ·go_simp
  go_at_call 73
  refine(c1 W hW).mono ?_
  rintro x w' ⟨y,rfl,h1⟩
  exact hK' y w' h1
 obtain⟨ro,rc,rfl⟩: ∃ro rc,u= .agg #[.int .i64 own,.bool false,.slice ro 0 rc]:=by
  obtain⟨W',hW'⟩:=hu
  exact s1 u W' hW'
 clear hu c1 s1
 go_simp
 refine hK' _ ?_
 clear hK' K
 refine ordv_turn rfl (by go_simp) (by rfl) (fun W hW b K Q hK'=>?_) (fun u hu K hK'=>?_)
 ·go_simp
  go_at_call 30
  refine(c2 _ W hW).mono ?_
  rintro x w' ⟨y,rfl,h1⟩
  exact hK' y w' h1
 obtain⟨b9,rfl⟩: ∃b,u= .func (.func 57) #[] #[.pointer (some ⟨b,0,none⟩),.pointer (some ⟨b+1,0,none⟩),.pointer (some ⟨b+1+1,0,none⟩)]:=by
  obtain⟨W',hW'⟩:=hu
  exact s2 _ u W' hW'
 clear hu c2 s2
 go_simp
 refine hK' _ ?_
 clear hK' K
 refine ordv_turn rfl (by go_simp) (by rfl) (fun W hW b K Q hK'=>?_) (fun u hu K hK'=>?_)
 ·go_simp
  go_at_call 36
  refine(c3 _ _ W hW).mono ?_
  rintro x w' ⟨y,rfl,h1⟩
  exact hK' y w' h1
 obtain⟨ro3,rn3,rc3,rfl⟩: ∃ro rn rc,u= .tuple #[.slice ro rn rc,.int .i64 (EE:Nat)]:=by
  obtain⟨W',hW'⟩:=hu
  exact s3 _ _ u W' hW'
 clear hu c3 s3
 iterate 3
  go_simp
  refine hK' _ ?_
  clear hK' K
  refine ordv_read rfl (by go_simp) (by rfl) ?_
  apply Exists.intro
  refine⟨fun s' W hW b K Q hK'=>?_,fun K hK'=>?_⟩
  ·obtain⟨q0,q1,q2⟩:=hK _ W hW
   go_simp
   exact hK' W hW
 go_simp
 refine hK' _ ?_
 clear hK' K
 refine ordv_nil ?_
 intro w5 hw5
 have HG:Hid _:=HF.out _ _ _ _ _ w5 hw5
 clear hK HF hw5
 go_wp2
 go_ret2
 exact⟨⟨_,_,_,rfl,HG.out.1⟩,HG.out.2⟩
end Go.Proofs.YtppokgdofgigfaaGreat
namespace Go.Proofs.YtppokgdofgigfaaGreat.F
open Go.RowKit Go Go.Sort
def ver (v:Vn):Ver:=⟨v.wr, !v.gone,if v.gone then 0 else 1,if v.gone then[] else rowC v.n⟩
def HK (L:HL) (K:Nat→List Vn):Prop:=(∀κ,κ<6→chL L 1 (keyB κ).data.toList=(K κ).map ver)∧ ∀p∈L, ∃κ,κ<6∧p.1=((1:Int),(keyB κ).data.toList)
theorem keyB_inj {a b:Nat} (ha:a<6) (hb:b<6) (h:(keyB a).data.toList=(keyB b).data.toList):a=b:=by
 rcases(by omega:a=0∨a=1∨a=2∨a=3∨a=4∨a=5) with rfl|rfl|rfl|rfl|rfl|rfl<;>rcases(by omega:b=0∨b=1∨b=2∨b=3∨b=4∨b=5) with rfl|rfl|rfl|rfl|rfl|rfl<;>first|rfl|(exact absurd h (by decide))
theorem find_upd {L:HL} {k:Int} {s:List UInt8} (f:List Ver→List Ver) (k':Int) (s':List UInt8):(L.map (fun p=>if p.1=(k,s) then(p.1,f p.2) else p)).find? (fun p=>decide (p.1=(k',s')))=(L.find? (fun p=>decide (p.1=(k',s')))).map (fun p=>if p.1=(k,s) then(p.1,f p.2) else p):=by
 induction L with
 |nil=>rfl
 |cons a L ih=>
  rw[List.map_cons,List.find?_cons,List.find?_cons]
  have e:(if a.1=(k,s) then(a.1,f a.2) else a).1=a.1:=by split<;>rfl
  rw[e]
  cases h:decide (a.1=(k',s')) with
  |true=>rfl
  |false=>exact ih
theorem chL_app (L:HL) (k k':Int) (s s':List UInt8) (v:Ver):chL (appL L k s v) k' s'=if (k',s')=(k,s) then chL L k s++[v] else chL L k' s':=by
 unfold appL
 split
 ·rename_i hany
  unfold chL
  rw[find_upd (fun c=>c++[v])]
  by_cases e:(k',s')=(k,s)
  ·rw[if_pos e]
   injection e with e1 e2
   subst e1 e2
   cases hf:L.find? (fun p=>decide (p.1=(k',s'))) with
   |none=>
    rw[List.any_eq_true] at hany
    obtain⟨p,hp,hpe⟩:=hany
    exact absurd hpe (by simpa using List.find?_eq_none.1 hf p hp)
   |some p=>
    have hp:p.1=(k',s'):=by simpa using List.find?_some hf
    simp only[Option.map_some,hp,if_true]
  ·rw[if_neg e]
   cases hf:L.find? (fun p=>decide (p.1=(k',s'))) with
   |none=>rfl
   |some p=>
    have hp:p.1=(k',s'):=by simpa using List.find?_some hf
    have: ¬p.1=(k,s):=fun e2=>e (hp.symm.trans e2)
    simp only[Option.map_some,if_neg this]
 ·rename_i hany
  unfold chL
  rw[List.find?_append]
  by_cases e:(k',s')=(k,s)
  ·rw[if_pos e]
   injection e with e1 e2
   subst e1 e2
   have hn:L.find? (fun p=>decide (p.1=(k',s')))=none:=by
    rw[List.find?_eq_none]
    intro p hp hpe
    exact hany (List.any_eq_true.2 ⟨p,hp,hpe⟩)
   rw[hn]
   simp
  ·rw[if_neg e]
   have:List.find? (fun p:(Int×List UInt8)×List Ver=>decide (p.1=(k',s'))) [((k,s),[v])]=none:=by
    rw[List.find?_eq_none]
    intro p hp
    rw[List.mem_singleton.1 hp]
    simp only[decide_eq_true_eq]
    exact fun e2=>e e2.symm
   rw[this,Option.or_none]
theorem appL_mem {L:HL} {k:Int} {s:List UInt8} {v:Ver} {p:(Int×List UInt8)×List Ver} (h:p∈appL L k s v):p.1=(k,s)∨ ∃a∈L,p.1=a.1:=by
 unfold appL at h
 split at h
 ·obtain⟨a,ha,e⟩:=List.mem_map.1 h
  refine .inr ⟨a,ha,?_⟩
  rw[←e];split<;>rfl
 ·rcases List.mem_append.1 h with h|h
  ·exact .inr ⟨p,h,rfl⟩
  ·rw[List.mem_singleton.1 h];exact .inl rfl
theorem HK.app {L:HL} {K:Nat→List Vn} (h:HK L K) {κ:Nat} (hκ:κ<6) (v:Vn):HK (appL L 1 (keyB κ).data.toList (ver v)) (fun j=>if j=κ then K κ++[v] else K j):=by
 refine⟨fun κ' hκ'=>?_,fun p hp=>?_⟩
 ·rw[chL_app]
  by_cases e:κ'=κ
  ·subst e
   show _=List.map ver (if κ'=κ' then K κ'++[v] else K κ')
   rw[if_pos rfl,if_pos rfl,h.1 κ' hκ',List.map_append];rfl
  ·have: ¬((1:Int),(keyB κ').data.toList)=(1,(keyB κ).data.toList):=fun e2=>by
    injection e2 with _ e2
    exact e (keyB_inj hκ' hκ e2)
   show _=List.map ver (if κ'=κ then K κ++[v] else K κ')
   rw[if_neg this,if_neg e,h.1 κ' hκ']
 ·rcases appL_mem hp with e|⟨a,ha,e⟩
  ·exact⟨κ,hκ,e⟩
  ·obtain⟨κ',h1,h2⟩:=h.2 a ha
   exact⟨κ',h1,e.trans h2⟩
theorem find_last9 {α β:Type} (l:List α) (f:α→β) (p:β→Bool):(l.map f).reverse.find? p=((l.filter (fun a=>p (f a))).getLast?).map f:=by
 rw[←List.map_reverse,List.find?_map,List.getLast?_eq_head?_reverse, ←List.filter_reverse,List.head?_filter]
 rfl
theorem state_ne (m:Mg) (v:Vn):((m.state (ver v).wr:Int) !=4)=(m.state v.wr !=4):=by
 show((m.state (v.wr:Int):Int) !=4)=(m.state v.wr !=4)
 by_cases e:m.state v.wr=4
 ·rw[e];rfl
 ·have h1:((m.state (v.wr:Int):Int) !=4)=true:=by
   simp only[bne_iff_ne,ne_eq];omega
  have h2:(m.state (v.wr:Int) !=4)=true:=by
   simp only[bne_iff_ne,ne_eq];exact e
  rw[h1,h2]
section
variable {m:Mg} {q:Mo} {K:Nat→List Vn} {σ:Nat→Nat} {k:Nat} {s:Se} {t:Tx}
def wantE (q:Mo) (k:Nat) (s:Se) (κ:Nat) (ins:Bool):Nat:=if confB q k s κ then 92 else if ins then(if seesS s κ=0 then 0 else 91) else(if seesS s κ=0 then 90 else 0)
theorem std_eq (c:List Vn):(c.map ver).reverse.find? (fun v=>((m.state v.wr:Int) !=4))=((c.filter (fun v=>m.state v.wr !=4)).getLast?).map ver:=by
 rw[find_last9 c ver (fun v=>((m.state v.wr:Int) !=4))]
 congr 2
 exact List.filter_congr (fun v _=>state_ne m v)
end
structure Iv (m:Mg) (q:Mo) (K:Nat→List Vn):Prop where
 wf:Wf m
 get: ∀ {k:Nat} {s:Se},q.l[k]? =some s→s.op=true→s.pp=false→ ∀ {t:Tx},SesTx m s t→ ∀ {x i:Int},fnd m.tx x=some (t,i)→ ∀ {κ:Nat},κ<6→(getV m s.mn s.mx (onI s) x ((K κ).map ver)=none∧seesS s κ=0)∨ ∃(n:Nat) (wr:Int),getV m s.mn s.mx (onI s) x ((K κ).map ver)=some ⟨wr,true,1,rowC n⟩∧seesS s κ=n+1
 ins: ∀ {k:Nat} {s:Se},q.l[k]? =some s→s.op=true→s.pp=false→ ∀ {t:Tx},SesTx m s t→ ∀ {x i:Int},fnd m.tx x=some (t,i)→ ∀ {κ:Nat},κ<6→insE m s.mn s.mx (onI s) x ((K κ).map ver)=wantE q k s κ true
 rep: ∀ {k:Nat} {s:Se},q.l[k]? =some s→s.op=true→s.pp=false→ ∀ {t:Tx},SesTx m s t→ ∀ {x i:Int},fnd m.tx x=some (t,i)→ ∀ {κ:Nat},κ<6→repE m s.mn s.mx (onI s) x ((K κ).map ver)=wantE q k s κ false∧(wantE q k s κ false=0→ ∃(n:Nat) (wr:Int),stdV m ((K κ).map ver)=some ⟨wr,true,1,rowC n⟩∧seesS s κ=n+1)
end Go.Proofs.YtppokgdofgigfaaGreat.F
