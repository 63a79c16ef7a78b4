import Derived.Test.YtppokgdofgigfaaGreatFP4
set_option maxHeartbeats 4000000
set_option maxRecDepth 100000
namespace Go.Proofs.YtppokgdofgigfaaGreat.F
open Go.RowKit Go Go.Sort
def addK (K:Nat→List Vn) (κ:Nat) (v:Vn) (e:Nat):Nat→List Vn:=if e=0 then(fun j=>if j=κ then K κ++[v] else K j) else K
theorem HK.add {L:HL} {K:Nat→List Vn} (h:HK L K) {κ:Nat} (hκ:κ<6) (v:Vn) (e:Nat):HK (if e=0 then appL L 1 (keyB κ).data.toList (ver v) else L) (addK K κ v e):=by
 unfold addK
 split
 ·exact h.app hκ v
 ·exact h
theorem keyB_max (κ:Nat):(keyB κ).size≤maxLen:=by
 have:(keyB κ).size=2:=rfl
 rw[this];unfold maxLen;omega
section
variable {w0:Fr} {w:World} {qb hb mb nq:Nat} {m:Mg} {L:HL} {q:Mo} {A:Nat→Sx} {F:Nat→Prop} {K:Nat→List Vn} {σ:Nat→Nat} {k:Nat} {s:Se} {t:Tx}
theorem SeIn.ir {F:Nat→Prop} {a:Sx} (h:SeIn w0 w F s a):IR w a.so (onI s):=IR.of_own h.on
theorem SeIn.sof {F:Nat→Prop} {a:Sx} (h:SeIn w0 w F s a): ∀ad,a.so=some ad→F ad.block:=fun ad e=>by
 have hh:=h.on
 have hf:=h.onf
 rw[e] at hh hf
 rcases hh.2 with⟨e1,_⟩|⟨g1,c1,u1,e1,_⟩
 ·cases e1
 ·injection e1 with e2
  injection e2 with e2
  exact hf ad.block (by rw[e2];rfl)
theorem onI_len (s:Se):(onI s).length=s.on.length:=by unfold onI;rw[List.length_map]
theorem LW.inserts (h:LW w0 w qb hb mb nq m L q A F) (hI:Iv m q K) (hK:HK L K) (hs:q.l[k]? =some s) (ho:s.op=true) (ht:SesTx m s t) (hpp:s.pp=false) (hq:nq≤1000) (hn:m.nx≤1000000) (hol:s.on.length≤1000000) {κ:Nat} (hκ:κ<6) {v:Nat} {ao:Option Addr} {c:Nat} (hr:RdR w ao 1 c (rowC v)):
  Calls Tryz.prog 16 #[.pointer (some ⟨hb,0,none⟩),.agg #[.int .i64 s.mn,.int .i64 s.mx,.slice (A k).so s.on.length (A k).sc],.int .i64 (wrN s (innS s)),.int .i64 1,.string (keyB κ),.slice ao 1 c] w fun x w'=>x= .returned (.int .i64 (wantE q k s κ true:Nat))∧ ∃L',LW w0 w' qb hb mb (nq+3) m L' q A F∧HK L' (addK K κ ⟨wrN s (innS s),false,v⟩ (wantE q k s κ true))∧Kept F w w':=by
 obtain⟨i1,i2,_,_⟩:=inn_ok ht hpp
 have hf:=ses_fnd hI.wf ht i1 i2
 have hlt:=hI.wf.fnd_lt hf
 have hsk:=h.se k s hs
 have e1:=hI.ins hs ho hpp ht hf hκ
 rw[←hK.1 κ hκ] at e1
 have q1:=insert_f w hb mb m L F nq h.hs hq 1 (by omega) (by omega) (keyB κ) (keyB_max κ) s.mn s.mx (onI s) (A k).so (A k).sc (wrN s (innS s)) (by omega) (by omega) (by rw[onI_len];omega) hsk.ir hsk.sof ao 1 c (rowC v) hr
 rw[e1,onI_len] at q1
 refine q1.mono ?_
 rintro x w' ⟨rfl,hs',tk⟩
 exact⟨rfl,_,h.kept hs' tk,hK.add hκ ⟨wrN s (innS s),false,v⟩ _,tk⟩
theorem LW.updates (h:LW w0 w qb hb mb nq m L q A F) (hI:Iv m q K) (hK:HK L K) (hs:q.l[k]? =some s) (ho:s.op=true) (ht:SesTx m s t) (hpp:s.pp=false) (hq:nq≤1000) (hn:m.nx≤1000000) (hol:s.on.length≤1000000) {κ:Nat} (hκ:κ<6) {v:Nat} {ao:Option Addr} {c:Nat} (hr:RdR w ao 1 c (rowC v)):
  Calls Tryz.prog 49 #[.pointer (some ⟨hb,0,none⟩),.agg #[.int .i64 s.mn,.int .i64 s.mx,.slice (A k).so s.on.length (A k).sc],.int .i64 (wrN s (innS s)),.int .i64 1,.string (keyB κ),.slice ao 1 c] w fun x w'=>(∃ro rn rc,x= .returned (.tuple #[.slice ro rn rc,.int .i64 (wantE q k s κ false:Nat)])∧(wantE q k s κ false=0→rn=1∧ ∃n:Nat,seesS s κ=n+1∧w'.ownsRow w.heap.size 79 3 (.slice ro 1 rc) 1 (rowC n))∧(wantE q k s κ false≠0→rn=0))∧ ∃L',LW w0 w' qb hb mb (nq+3) m L' q A F∧HK L' (addK K κ ⟨wrN s (innS s),false,v⟩ (wantE q k s κ false))∧Kept F w w':=by
 obtain⟨i1,i2,_,_⟩:=inn_ok ht hpp
 have hf:=ses_fnd hI.wf ht i1 i2
 have hlt:=hI.wf.fnd_lt hf
 have hsk:=h.se k s hs
 obtain⟨e1,e2⟩:=hI.rep hs ho hpp ht hf hκ
 rw[←hK.1 κ hκ] at e1 e2
 have q1:=update_f w hb mb m L F nq h.hs hq 1 (by omega) (by omega) (keyB κ) (keyB_max κ) s.mn s.mx (onI s) (A k).so (A k).sc (wrN s (innS s)) (by omega) (by omega) (by rw[onI_len];omega) hsk.ir hsk.sof ao 1 c (rowC v) hr
 rw[e1,onI_len] at q1
 refine q1.mono ?_
 rintro x w' ⟨⟨ro,rn,rc,rfl,hrow⟩,hs',tk⟩
 refine⟨⟨ro,rn,rc,rfl,fun h0=>?_,hrow.2⟩,_,h.kept hs' tk,hK.add hκ ⟨wrN s (innS s),false,v⟩ _,tk⟩
 obtain⟨n,wr,e3,e4⟩:=e2 h0
 obtain⟨v2,e5,e6,e7⟩:=hrow.1 h0
 rw[e3] at e5
 injection e5 with e5
 subst e5
 have e6:rn=1:=e6
 subst e6
 exact⟨rfl,n,e4,e7⟩
theorem LW.deletes (h:LW w0 w qb hb mb nq m L q A F) (hI:Iv m q K) (hK:HK L K) (hs:q.l[k]? =some s) (ho:s.op=true) (ht:SesTx m s t) (hpp:s.pp=false) (hq:nq≤1000) (hn:m.nx≤1000000) (hol:s.on.length≤1000000) {κ:Nat} (hκ:κ<6) (v:Nat):
  Calls Tryz.prog 50 #[.pointer (some ⟨hb,0,none⟩),.agg #[.int .i64 s.mn,.int .i64 s.mx,.slice (A k).so s.on.length (A k).sc],.int .i64 (wrN s (innS s)),.int .i64 1,.string (keyB κ)] w fun x w'=>(∃ro rn rc,x= .returned (.tuple #[.slice ro rn rc,.int .i64 (wantE q k s κ false:Nat)])∧(wantE q k s κ false=0→rn=1∧ ∃n:Nat,seesS s κ=n+1∧w'.ownsRow w.heap.size 79 3 (.slice ro 1 rc) 1 (rowC n))∧(wantE q k s κ false≠0→rn=0))∧ ∃L',LW w0 w' qb hb mb (nq+3) m L' q A F∧HK L' (addK K κ ⟨wrN s (innS s),true,v⟩ (wantE q k s κ false))∧Kept F w w':=by
 obtain⟨i1,i2,_,_⟩:=inn_ok ht hpp
 have hf:=ses_fnd hI.wf ht i1 i2
 have hlt:=hI.wf.fnd_lt hf
 have hsk:=h.se k s hs
 obtain⟨e1,e2⟩:=hI.rep hs ho hpp ht hf hκ
 rw[←hK.1 κ hκ] at e1 e2
 have q1:=delete_f w hb mb m L F nq h.hs hq 1 (by omega) (by omega) (keyB κ) (keyB_max κ) s.mn s.mx (onI s) (A k).so (A k).sc (wrN s (innS s)) (by omega) (by omega) (by rw[onI_len];omega) hsk.ir hsk.sof
 rw[e1,onI_len] at q1
 refine q1.mono ?_
 rintro x w' ⟨⟨ro,rn,rc,rfl,hrow⟩,hs',tk⟩
 refine⟨⟨ro,rn,rc,rfl,fun h0=>?_,hrow.2⟩,_,h.kept hs' tk,hK.add hκ ⟨wrN s (innS s),true,v⟩ _,tk⟩
 obtain⟨n,wr,e3,e4⟩:=e2 h0
 obtain⟨v2,e5,e6,e7⟩:=hrow.1 h0
 rw[e3] at e5
 injection e5 with e5
 subst e5
 have e6:rn=1:=e6
 subst e6
 exact⟨rfl,n,e4,e7⟩
theorem LW.gets (h:LW w0 w qb hb mb nq m L q A F) (hI:Iv m q K) (hK:HK L K) (hs:q.l[k]? =some s) (ho:s.op=true) (ht:SesTx m s t) (hpp:s.pp=false) (hq:nq≤2000) (hn:m.nx≤1000000) (hol:s.on.length≤1000000) {κ:Nat} (hκ:κ<6):
  Calls Tryz.prog 9 #[.pointer (some ⟨hb,0,none⟩),.agg #[.int .i64 s.mn,.int .i64 s.mx,.slice (A k).so s.on.length (A k).sc],.int .i64 (wrN s (innS s)),.int .i64 1,.string (keyB κ)] w fun x w'=>((seesS s κ=0∧x= .returned (.tuple #[.slice none 0 0,.int .i64 90]))∨ ∃(n:Nat) (ro:Option Addr) (rc:Nat),seesS s κ=n+1∧x= .returned (.tuple #[.slice ro 1 rc,.int .i64 0])∧w'.ownsRow w.heap.size 79 3 (.slice ro 1 rc) 1 (rowC n))∧Tch (fun _=>False) w w':=by
 obtain⟨i1,i2,_,_⟩:=inn_ok ht hpp
 have hf:=ses_fnd hI.wf ht i1 i2
 have hlt:=hI.wf.fnd_lt hf
 have hsk:=h.se k s hs
 have e1:=hI.get hs ho hpp ht hf hκ
 rw[←hK.1 κ hκ] at e1
 have q1:=get_f h.hs hq 1 (by omega) (by omega) (keyB κ) (keyB_max κ) s.mn s.mx (onI s) (A k).so (A k).sc (wrN s (innS s)) (by omega) (by omega) (by rw[onI_len];omega) hsk.ir
 rw[onI_len] at q1
 refine q1.mono ?_
 rintro x w' ⟨hx,tk⟩
 refine⟨?_,tk⟩
 rcases e1 with⟨e1,e2⟩|⟨n,wr,e1,e2⟩
 ·rw[e1] at hx
  exact Or.inl ⟨e2,hx⟩
 ·rw[e1] at hx
  obtain⟨ro,rc,hx,how⟩:=hx
  exact Or.inr ⟨n,ro,rc,e2,hx,how⟩
end
set_option maxRecDepth 100000
def sB (m:Mg) (q:Mo) (x:Nat):Se:=⟨true,false,x,m.on.headD m.nx,m.nx,m.on,q.now,q.n,[],[]⟩
theorem sB_bd (m:Mg) (q:Mo) (x:Nat) (hb: ∀κ,κ<6→q.now.getD κ 0≤1000):SeBd (sB m q x):=⟨Nat.zero_le _,Nat.zero_le _,(fun i v e=>by cases e),(fun v hv=>by cases hv),hb⟩
def B1 (w0:Fr) (qb hb mb nq:Nat) (m:Mg) (L:HL) (q:Mo) (A:Nat→Sx) (s:List Value) (W:World):Prop:=match s with
 |[]=> ∃F,LW w0 W qb hb mb nq m L q A F
 |[y]=> ∃F so sc,y= .agg #[.int .i64 (m.on.headD m.nx:Nat),.int .i64 m.nx,.slice so m.on.length sc]∧LW w0 W qb hb mb nq m L q A F∧W.ownsRow w0.heap.size 3 1 (.slice so m.on.length sc) m.on.length (icl m.on)∧ ∀g,(Value.slice so m.on.length sc).ownBlock=some g→F g
 |_=>False
theorem B1.mor {w0:Fr} {qb hb mb nq:Nat} {m:Mg} {L:HL} {q:Mo} {A:Nat→Sx} {s:List Value} {W:World} (h:B1 w0 qb hb mb nq m L q A s W):MoR W qb mb hb q A:=by
 match s,h with
 |[],⟨F,h⟩=>exact h.mor
 |[_],⟨F,so,sc,_,h,_⟩=>exact h.mor
theorem B1.call {w0:Fr} {qb hb mb nq:Nat} {m:Mg} {L:HL} {q:Mo} {A:Nat→Sx} {W:World} (h:B1 w0 qb hb mb nq m L q A [] W):Calls Tryz.prog 10 #[.pointer (some ⟨mb,0,none⟩)] W fun x W'=> ∃y,x= .returned y∧B1 w0 qb hb mb nq m L q A [y] W':=by
 obtain⟨F,h⟩:=h
 refine h.snaps.mono ?_
 rintro x W' ⟨so,sc,rfl,ho,h2⟩
 refine⟨_,rfl,_,so,sc,rfl,h2,own_low ho h.t.size,fun g e=>.inr ⟨row_ge ho e,?_⟩⟩
 exact slice_lt (ad:=⟨g,0,none⟩) (by rw[←own_addr ho e];exact ho)
theorem B1.fin {w0:Fr} {qb hb mb nq:Nat} {m:Mg} {L:HL} {q:Mo} {A:Nat→Sx} {W:World} {v0 v1:Value} {so:Option Addr} {sc:Nat} (h:B1 w0 qb hb mb nq m L q A [.agg #[v0,v1,.slice so m.on.length sc]] W) {k:Nat} (hk:k<5) (hb': ∀κ,κ<6→q.now.getD κ 0≤1000): ∃F,LW w0 (W.setCells qb (2+k*15) (seC (sB m q 0) ⟨so,sc,none,0,none,0⟩)) qb hb mb nq m L { q with l:=q.l.set k (sB m q 0) } (updA A k ⟨so,sc,none,0,none,0⟩) F:=by
 obtain⟨F,so',sc',e,h,ho,hf⟩:=h
 injection e with e
 simp only[Array.mk.injEq,List.cons.injEq,Value.slice.injEq,and_true,true_and] at e
 obtain⟨_,_,rfl,rfl⟩:=e
 exact⟨F,h.sess hk ⟨ho,hf,World.ownsRow_nil _ _ _ _,(fun g e=>by cases e),World.ownsRow_nil _ _ _ _,(fun g e=>by cases e)⟩ (sB_bd m q 0 hb') (fun _ _ _ _ _=>⟨(fun e=>by cases e),(fun e=>by cases e)⟩)⟩
theorem LW.setX {w0:Fr} {w:World} {qb hb mb nq k:Nat} {m m':Mg} {L:HL} {q:Mo} {A:Nat→Sx} {F:Nat→Prop} (h:LW w0 w qb hb mb nq m' L { q with l:=q.l.set k (sB m q 0) } A F) (hk:k<q.l.length) (hb': ∀κ,κ<6→q.now.getD κ 0≤1000) (x:Nat): ∃A' F',LW w0 (w.setCell ⟨qb,2+k*15+2,none⟩ (.int .i64 x)) qb hb mb nq m' L { q with l:=q.l.set k (sB m q x) } A' F':=by
 have hs:(q.l.set k (sB m q 0))[k]? =some (sB m q 0):=List.getElem?_set_self hk
 have hI:=h.se k _ hs
 have:=h.relist (s':=sB m q x) (a':=A k) hs (Tch.refl (fun _=>False) w) (fun _ e=>e.elim) (SeIn.mono (F:=F) ⟨hI.on,hI.onf,hI.ps,hI.psf,hI.ws,hI.wsf⟩ (fun _ e=>.inl e)) (sB_bd m q x hb') (.inl rfl) (.inl rfl) (j:=2) (by decide) (v:= .int .i64 x) rfl
 have e:(q.l.set k (sB m q 0)).set k (sB m q x)=q.l.set k (sB m q x):=List.set_set _
 simp only[e] at this
 exact⟨_,_,this⟩
theorem does_begin {w0:Fr} {w:World} {qb hb mb nq:Nat} {m:Mg} {L:HL} {q:Mo} {A:Nat→Sx} {F:Nat→Prop} (h:LW w0 w qb hb mb nq m L q A F) {kind who key n:Int} (hki: -9223372036854775808≤kind∧kind≤9223372036854775807) (hwi: -9223372036854775808≤who∧who≤9223372036854775807) (hk0:pkN kind 12=0) {s:Se} (hs:q.l[pkN who 5]? =some s) (hcl:s.op=false) (hn:m.nx≤1000000) (hb': ∀κ,κ<6→q.now.getD κ 0≤1000):
  Calls Tryz.prog 6 #[.pointer (some ⟨qb,0,none⟩),actV kind who key n] w fun x w'=>x= .returned (.bool true)∧ ∃A' F',LW w0 w' qb hb mb nq m.begin L { q with l:=q.l.set (pkN who 5) (sB m q m.nx) } A' F':=by
 obtain⟨k,hk⟩: ∃k,k=pkN who 5:=⟨_,rfl⟩
 have hk5:k<5:=by rw[hk];exact pkN_lt who (by decide)
 obtain⟨w1,hw1⟩: ∃w1,w1=w.alloc (.cells #[.int .i64 kind,.int .i64 who,.int .i64 key,.int .i64 n] 29):=⟨_,rfl⟩
 obtain⟨N,hN⟩: ∃N,N=w.heap.size:=⟨_,rfl⟩
 have bN:w1.heap[N]? =some (.cells #[.int .i64 kind,.int .i64 who,.int .i64 key,.int .i64 n] 29 (0,0)):=by rw[hw1,hN];exact alloc_new _ _
 have x0:w1.cell? ⟨N,0,none⟩=some (.int .i64 kind):=by rw[blk_cell bN];rfl
 have x1:w1.cell? ⟨N,1,none⟩=some (.int .i64 who):=by rw[blk_cell bN];rfl
 have f0:=blk_frozen bN 0
 have qp1:=pick9_any who 5 w1 hwi.1 hwi.2 (by decide) (by decide)
 have qp2:=pick9_any kind 12 w1 hki.1 hki.2 (by decide) (by decide)
 rw[←hk] at qp1
 rw[hk0] at qp2
 have t1:Tch (fun _=>False) w (w1.setCell ⟨N,0,none⟩ (.int .i64 0)):=((by rw[hw1];exact Tch.alloc _ _ _:Tch (fun i=>w.heap.size≤i) w w1).setCellR _ _ (by show w.heap.size≤N;omega)).mono (fun i hi e=>by omega)
 obtain⟨w2,hw2⟩: ∃w2,w2=w1.setCell ⟨N,0,none⟩ (.int .i64 0):=⟨_,rfl⟩
 rw[←hw2] at t1
 have h2:=h.no t1
 rw[←hk] at hs ⊢
 have y0:w2.cell? ⟨qb,2+k*15,none⟩=some (.bool false):=by
  have:=(h2.mor.se k s hs).c 0 _ rfl
  rw[hcl] at this;exact this
 obtain⟨C,hC⟩: ∃C:List Value→World→Prop,C=B1 w0 qb hb mb nq m L q A:=⟨_,rfl⟩
 have hK:Hid (∀s1 W,C s1 W→W.cell? ⟨qb,0,none⟩=some (.pointer (some ⟨mb,0,none⟩))∧W.cell? ⟨qb,77,none⟩=some (.int .i64 (q.now.getD 0 0))∧W.cell? ⟨qb,78,none⟩=some (.int .i64 (q.now.getD 1 0))∧W.cell? ⟨qb,79,none⟩=some (.int .i64 (q.now.getD 2 0))∧W.cell? ⟨qb,80,none⟩=some (.int .i64 (q.now.getD 3 0))∧W.cell? ⟨qb,81,none⟩=some (.int .i64 (q.now.getD 4 0))∧W.cell? ⟨qb,82,none⟩=some (.int .i64 (q.now.getD 5 0))∧W.cell? ⟨qb,89,none⟩=some (.int .i64 q.n)):=fun s1 W hW=>by
  rw[hC] at hW
  have hm:=hW.mor
  exact⟨hm.cm,hm.now 0 (by decide),hm.now 1 (by decide),hm.now 2 (by decide),hm.now 3 (by decide),hm.now 4 (by decide),hm.now 5 (by decide),hm.n⟩
 obtain⟨mn,hmn⟩: ∃mn,mn=m.on.headD m.nx:=⟨_,rfl⟩
 have h0':C [] w2.drew:=by
  rw[hC]
  exact⟨F,h2.no (Tch.refl _ _).drew⟩
 have c1:Hid (∀W,C [] W→Calls Tryz.prog 10 #[.pointer (some ⟨mb,0,none⟩)] W fun x W'=> ∃y,x= .returned y∧C [y] W'):=fun W hW=>by
  rw[hC] at hW ⊢
  exact hW.call
 have s1:Hid (∀y W,C [y] W→ ∃so sc,y= .agg #[.int .i64 mn,.int .i64 m.nx,.slice so m.on.length sc]):=fun y W hW=>by
  rw[hC] at hW
  obtain⟨_,so,sc,e,_⟩:=hW
  exact⟨so,sc,by rw[hmn];exact e⟩
 have HF:Hid (∀so sc W,C [.agg #[.int .i64 mn,.int .i64 m.nx,.slice so m.on.length sc]] W→ ∃F,LW w0 (W.setCells qb (2+k*15) (seC { sB m q 0 with mn:=mn } ⟨so,sc,none,0,none,0⟩)) qb hb mb nq m L { q with l:=q.l.set k (sB m q 0) } (updA A k ⟨so,sc,none,0,none,0⟩) F):=fun so sc W hW=>by
  rw[hC,hmn] at hW
  rw[hmn]
  exact hW.fin hk5 hb'
 have HTh:Hid (∀y W,C [y] W→W.there qb (2+k*15) 15):=fun y W hW=>by
  rw[hC] at hW
  obtain⟨_,_,_,_,h3,_⟩:=hW
  exact h3.there (by omega)
 have HLn:Hid (k<q.l.length):=(List.getElem?_eq_some_iff.1 hs).1
 have HB':Hid (∀κ,κ<6→q.now.getD κ 0≤1000):=hb'
 have HW1:Hid (w1=_):=hw1
 have HN:Hid (N=w.heap.size):=hN
 have HW2:Hid (w2=_):=hw2
 unfold actV
 clear h h2 hC hmn t1 hs hcl hw1 hN hw2 bN hb' hk hk0
 go_enter Tryz.func6,Tryz.ntmps6
 go_upto_region 1 with(fail)
 rw[←HW1.out, ←HN.out]
 go_wp2_with fail
 refine qp1.mono ?_
 rintro x w3 ⟨rfl,rfl⟩
 go_wp2_with fail
 refine qp2.mono ?_
 rintro x w3 ⟨rfl,rfl⟩
 clear qp1 qp2
 go_upto_region 5 with(fail)
 rw[←HW2.out]
 go_upto_region 8 with(fail)
 refine wp_region_ordv [5] C 15 [0,1,2,3,4,6,7,8,9,10,11,12,13,5,14] (by kernel_rfl) (by kernel_rfl) h0' ?_
 clear h0'
 iterate 13
  refine ordv_read rfl (by go_simp) (by rfl) ?_
  apply Exists.intro
  refine⟨fun s' W hW b K Q hK'=>?_,fun K hK'=>?_⟩
  ·obtain⟨q0,q1,q2,q3,q4,q5,q6,q7⟩:=hK.out _ W hW
   go_simp
   exact hK' W hW
  go_simp
  refine hK' _ ?_
  clear hK' K
 refine ordv_turn rfl (by go_simp) (by rfl) (fun W hW b K Q hK'=>?_) (fun u hu K hK'=>?_)
 ·go_simp
  go_at_call 10
  refine(c1.out W hW).mono ?_
  rintro x w' ⟨y,rfl,h1⟩
  exact hK' y w' h1
 obtain⟨so,sc,rfl⟩: ∃so sc,u= .agg #[.int .i64 mn,.int .i64 m.nx,.slice so m.on.length sc]:=by
  obtain⟨W',hW'⟩:=hu
  exact s1.out u W' hW'
 clear hu c1 s1
 go_simp
 refine hK' _ ?_
 clear hK' K
 refine ordv_read rfl (by go_simp) (by rfl) ?_
 apply Exists.intro
 refine⟨fun s' W hW b K Q hK'=>?_,fun K hK'=>?_⟩
 ·obtain⟨q0,q1,q2,q3,q4,q5,q6,q7⟩:=hK.out _ W hW
  go_simp
  exact hK' W hW
 go_simp
 refine hK' _ ?_
 clear hK' K
 refine ordv_nil ?_
 intro w5 hw5
 go_simp
 iterate 3 (first|go_values|go_skip|go_guarded|go_step|go_upon|go_in|go_back)
 refine wpList_store_mid rfl 43 (.tmp 44) (.tmp 43) rfl qb (2+k*15) (seC { sB m q 0 with mn:=mn } ⟨so,sc,none,0,none,0⟩).toArray rfl rfl (HTh.out _ w5 hw5) siz_ses (one_seC _ _) ?_
 obtain⟨F6,h6⟩:=HF.out so sc w5 hw5
 obtain⟨w6,hw6⟩: ∃w6,w6=w5.setCells qb (2+k*15) (seC { sB m q 0 with mn:=mn } ⟨so,sc,none,0,none,0⟩):=⟨_,rfl⟩
 rw[←hw6] at h6
 have e6:w5.setCells qb (2+k*15) (seC { sB m q 0 with mn:=mn } ⟨so,sc,none,0,none,0⟩).toArray.toList=w6:=by rw[hw6]
 rw[e6]
 clear e6 hw6 hK HF HTh hw5
 obtain⟨A6,hA6⟩: ∃A6,A6=updA A k ⟨so,sc,none,0,none,0⟩:=⟨_,rfl⟩
 rw[←hA6] at h6
 have H6:Hid (LW w0 w6 qb hb mb nq m L { q with l:=q.l.set k (sB m q 0) } A6 F6):=h6
 have cm:w6.cell? ⟨qb,0,none⟩=some (.pointer (some ⟨mb,0,none⟩)):=h6.mor.cm
 clear h6 hA6
 have cb:Calls Tryz.prog 15 #[.pointer (some ⟨mb,0,none⟩)] w6 fun x w'=>x= .returned (.tuple #[.int .i64 m.nx,.int .i64 0])∧LW w0 w' qb hb mb nq m.begin L { q with l:=q.l.set k (sB m q 0) } A6 F6:=H6.out.begins (by omega)
 clear H6
 go_upto_region 9 with(fail)
 go_wp2_with fail
 refine cb.mono ?_
 clear cb
 rintro x w7 ⟨rfl,h7⟩
 have f7:w7.frozen? ⟨qb,2+k*15+2,none⟩=false:=h7.frz _
 obtain⟨A8,F8,h8⟩:=h7.setX HLn.out HB'.out m.nx
 have H8:Hid (LW w0 (w7.setCell ⟨qb,2+k*15+2,none⟩ (.int .i64 m.nx)) qb hb mb nq m.begin L { q with l:=q.l.set k (sB m q m.nx) } A8 F8):=h8
 obtain⟨v7,y7⟩: ∃v,w7.cell? ⟨qb,2+k*15+2,none⟩=some v:=⟨_,(h7.mor.se k _ (List.getElem?_set_self HLn.out)).c 2 _ rfl⟩
 clear h7 h8
 go_upto_region 11 with(fail)
 go_wp2_with fail
 go_ret
 exact⟨rfl,_,_,H8.out⟩
set_option maxRecDepth 100000
theorem does_commits {w0:Fr} {w:World} {qb hb mb nq:Nat} {m:Mg} {L:HL} {q:Mo} {A:Nat→Sx} {F:Nat→Prop} (h:LW w0 w qb hb mb nq m L q A F) {kind who key n:Int} (hki: -9223372036854775808≤kind∧kind≤9223372036854775807) (hwi: -9223372036854775808≤who∧who≤9223372036854775807) (hk0:pkN kind 12=1) {s:Se} (hs:q.l[pkN who 5]? =some s) (ho:s.op=true) {R:Bool→World→Prop} (hc: ∀w2,Tch (fun _=>False) w w2→Calls Tryz.prog 20 #[.pointer (some ⟨qb,0,none⟩),.int .i64 (pkN who 5),actV 1 who key n] w2 fun x w'=> ∃b,x= .returned (.bool b)∧R b w'):
  Calls Tryz.prog 6 #[.pointer (some ⟨qb,0,none⟩),actV kind who key n] w fun x w'=> ∃b,x= .returned (.bool b)∧R b w':=by
 obtain⟨k,hk⟩: ∃k,k=pkN who 5:=⟨_,rfl⟩
 have hk5:k<5:=by rw[hk];exact pkN_lt who (by decide)
 obtain⟨w1,hw1⟩: ∃w1,w1=w.alloc (.cells #[.int .i64 kind,.int .i64 who,.int .i64 key,.int .i64 n] 29):=⟨_,rfl⟩
 obtain⟨N,hN⟩: ∃N,N=w.heap.size:=⟨_,rfl⟩
 have bN:w1.heap[N]? =some (.cells #[.int .i64 kind,.int .i64 who,.int .i64 key,.int .i64 n] 29 (0,0)):=by rw[hw1,hN];exact alloc_new _ _
 have x0:w1.cell? ⟨N,0,none⟩=some (.int .i64 kind):=by rw[blk_cell bN];rfl
 have x1:w1.cell? ⟨N,1,none⟩=some (.int .i64 who):=by rw[blk_cell bN];rfl
 have f0:=blk_frozen bN 0
 have qp1:=pick9_any who 5 w1 hwi.1 hwi.2 (by decide) (by decide)
 have qp2:=pick9_any kind 12 w1 hki.1 hki.2 (by decide) (by decide)
 rw[←hk] at qp1
 rw[hk0] at qp2
 have t1:Tch (fun _=>False) w (w1.setCell ⟨N,0,none⟩ (.int .i64 1)):=((by rw[hw1];exact Tch.alloc _ _ _:Tch (fun i=>w.heap.size≤i) w w1).setCellR _ _ (by show w.heap.size≤N;omega)).mono (fun i hi e=>by omega)
 have b2:(w1.setCell ⟨N,0,none⟩ (.int .i64 1)).heap[N]? =some (.cells #[.int .i64 1,.int .i64 who,.int .i64 key,.int .i64 n] 29 (0,0)):=blk_set bN _
 obtain⟨w2,hw2⟩: ∃w2,w2=w1.setCell ⟨N,0,none⟩ (.int .i64 1):=⟨_,rfl⟩
 rw[←hw2] at t1 b2
 have h2:=h.no t1
 rw[←hk] at hs hc
 have y0:w2.cell? ⟨qb,2+k*15,none⟩=some (.bool true):=by
  have:=(h2.mor.se k s hs).c 0 _ rfl
  rw[ho] at this;exact this
 have y1:w2.cell? ⟨qb,2+k*15+1,none⟩=some (.bool s.pp):=(h2.mor.se k s hs).c 1 _ rfl
 have hc:=hc w2 t1
 clear y1
 have z0:w2.cell? ⟨N,0,none⟩=some (.int .i64 1):=by rw[blk_cell b2];rfl
 have z1:w2.cell? ⟨N,1,none⟩=some (.int .i64 who):=by rw[blk_cell b2];rfl
 have z2:w2.cell? ⟨N,2,none⟩=some (.int .i64 key):=by rw[blk_cell b2];rfl
 have z3:w2.cell? ⟨N,3,none⟩=some (.int .i64 n):=by rw[blk_cell b2];rfl
 have HW1:Hid (w1=_):=hw1
 have HN:Hid (N=w.heap.size):=hN
 have HW2:Hid (w2=_):=hw2
 have HT:Hid (Tch (fun _=>False) w w2):=t1
 unfold actV at hc ⊢
 clear h h2 t1 hs hw1 hN hw2 bN b2 hk hk0
 go_enter Tryz.func6,Tryz.ntmps6
 go_upto_region 1 with(fail)
 rw[←HW1.out, ←HN.out]
 go_wp2_with fail
 refine qp1.mono ?_
 rintro x w3 ⟨rfl,rfl⟩
 go_wp2_with fail
 refine qp2.mono ?_
 rintro x w3 ⟨rfl,rfl⟩
 clear qp1 qp2
 go_upto_region 5 with(fail)
 rw[←HW2.out]
 clear HW1 HN HW2 x0 x1 f0
 go_wp2_with fail
 refine hc.mono ?_
 rintro x w4 ⟨b,rfl,h4⟩
 go_wp2_with fail
 go_ret
 exact⟨b,rfl,h4⟩
theorem does_aborts {w0:Fr} {w:World} {qb hb mb nq:Nat} {m:Mg} {L:HL} {q:Mo} {A:Nat→Sx} {F:Nat→Prop} (h:LW w0 w qb hb mb nq m L q A F) {kind who key n:Int} (hki: -9223372036854775808≤kind∧kind≤9223372036854775807) (hwi: -9223372036854775808≤who∧who≤9223372036854775807) (hk0:pkN kind 12=2) {s:Se} (hs:q.l[pkN who 5]? =some s) (ho:s.op=true) {R:Bool→World→Prop} (hc: ∀w2,Tch (fun _=>False) w w2→Calls Tryz.prog 20 #[.pointer (some ⟨qb,0,none⟩),.int .i64 (pkN who 5),actV 2 who key n] w2 fun x w'=> ∃b,x= .returned (.bool b)∧R b w'):
  Calls Tryz.prog 6 #[.pointer (some ⟨qb,0,none⟩),actV kind who key n] w fun x w'=> ∃b,x= .returned (.bool b)∧R b w':=by
 obtain⟨k,hk⟩: ∃k,k=pkN who 5:=⟨_,rfl⟩
 have hk5:k<5:=by rw[hk];exact pkN_lt who (by decide)
 obtain⟨w1,hw1⟩: ∃w1,w1=w.alloc (.cells #[.int .i64 kind,.int .i64 who,.int .i64 key,.int .i64 n] 29):=⟨_,rfl⟩
 obtain⟨N,hN⟩: ∃N,N=w.heap.size:=⟨_,rfl⟩
 have bN:w1.heap[N]? =some (.cells #[.int .i64 kind,.int .i64 who,.int .i64 key,.int .i64 n] 29 (0,0)):=by rw[hw1,hN];exact alloc_new _ _
 have x0:w1.cell? ⟨N,0,none⟩=some (.int .i64 kind):=by rw[blk_cell bN];rfl
 have x1:w1.cell? ⟨N,1,none⟩=some (.int .i64 who):=by rw[blk_cell bN];rfl
 have f0:=blk_frozen bN 0
 have qp1:=pick9_any who 5 w1 hwi.1 hwi.2 (by decide) (by decide)
 have qp2:=pick9_any kind 12 w1 hki.1 hki.2 (by decide) (by decide)
 rw[←hk] at qp1
 rw[hk0] at qp2
 have t1:Tch (fun _=>False) w (w1.setCell ⟨N,0,none⟩ (.int .i64 2)):=((by rw[hw1];exact Tch.alloc _ _ _:Tch (fun i=>w.heap.size≤i) w w1).setCellR _ _ (by show w.heap.size≤N;omega)).mono (fun i hi e=>by omega)
 have b2:(w1.setCell ⟨N,0,none⟩ (.int .i64 2)).heap[N]? =some (.cells #[.int .i64 2,.int .i64 who,.int .i64 key,.int .i64 n] 29 (0,0)):=blk_set bN _
 obtain⟨w2,hw2⟩: ∃w2,w2=w1.setCell ⟨N,0,none⟩ (.int .i64 2):=⟨_,rfl⟩
 rw[←hw2] at t1 b2
 have h2:=h.no t1
 rw[←hk] at hs hc
 have y0:w2.cell? ⟨qb,2+k*15,none⟩=some (.bool true):=by
  have:=(h2.mor.se k s hs).c 0 _ rfl
  rw[ho] at this;exact this
 have y1:w2.cell? ⟨qb,2+k*15+1,none⟩=some (.bool s.pp):=(h2.mor.se k s hs).c 1 _ rfl
 have hc:=hc w2 t1
 clear y1
 have z0:w2.cell? ⟨N,0,none⟩=some (.int .i64 2):=by rw[blk_cell b2];rfl
 have z1:w2.cell? ⟨N,1,none⟩=some (.int .i64 who):=by rw[blk_cell b2];rfl
 have z2:w2.cell? ⟨N,2,none⟩=some (.int .i64 key):=by rw[blk_cell b2];rfl
 have z3:w2.cell? ⟨N,3,none⟩=some (.int .i64 n):=by rw[blk_cell b2];rfl
 have HW1:Hid (w1=_):=hw1
 have HN:Hid (N=w.heap.size):=hN
 have HW2:Hid (w2=_):=hw2
 have HT:Hid (Tch (fun _=>False) w w2):=t1
 unfold actV at hc ⊢
 clear h h2 t1 hs hw1 hN hw2 bN b2 hk hk0
 go_enter Tryz.func6,Tryz.ntmps6
 go_upto_region 1 with(fail)
 rw[←HW1.out, ←HN.out]
 go_wp2_with fail
 refine qp1.mono ?_
 rintro x w3 ⟨rfl,rfl⟩
 go_wp2_with fail
 refine qp2.mono ?_
 rintro x w3 ⟨rfl,rfl⟩
 clear qp1 qp2
 go_upto_region 5 with(fail)
 rw[←HW2.out]
 clear HW1 HN HW2 x0 x1 f0
 go_wp2_with fail
 refine hc.mono ?_
 rintro x w4 ⟨b,rfl,h4⟩
 go_wp2_with fail
 go_ret
 exact⟨b,rfl,h4⟩
theorem does_part {w0:Fr} {w:World} {qb hb mb nq:Nat} {m:Mg} {L:HL} {q:Mo} {A:Nat→Sx} {F:Nat→Prop} (h:LW w0 w qb hb mb nq m L q A F) {kind who key n:Int} (hki: -9223372036854775808≤kind∧kind≤9223372036854775807) (hwi: -9223372036854775808≤who∧who≤9223372036854775807) (hk0:pkN kind 12=3) {s:Se} (hs:q.l[pkN who 5]? =some s) (ho:s.op=true) (hp:s.pp=false) {R:Bool→World→Prop} (hc: ∀w2,Tch (fun _=>False) w w2→Calls Tryz.prog 21 #[.pointer (some ⟨qb,0,none⟩),.pointer (some ⟨qb,2+pkN who 5*15,none⟩),actV 3 who key n] w2 fun x w'=> ∃b,x= .returned (.bool b)∧R b w'):
  Calls Tryz.prog 6 #[.pointer (some ⟨qb,0,none⟩),actV kind who key n] w fun x w'=> ∃b,x= .returned (.bool b)∧R b w':=by
 obtain⟨k,hk⟩: ∃k,k=pkN who 5:=⟨_,rfl⟩
 have hk5:k<5:=by rw[hk];exact pkN_lt who (by decide)
 obtain⟨w1,hw1⟩: ∃w1,w1=w.alloc (.cells #[.int .i64 kind,.int .i64 who,.int .i64 key,.int .i64 n] 29):=⟨_,rfl⟩
 obtain⟨N,hN⟩: ∃N,N=w.heap.size:=⟨_,rfl⟩
 have bN:w1.heap[N]? =some (.cells #[.int .i64 kind,.int .i64 who,.int .i64 key,.int .i64 n] 29 (0,0)):=by rw[hw1,hN];exact alloc_new _ _
 have x0:w1.cell? ⟨N,0,none⟩=some (.int .i64 kind):=by rw[blk_cell bN];rfl
 have x1:w1.cell? ⟨N,1,none⟩=some (.int .i64 who):=by rw[blk_cell bN];rfl
 have f0:=blk_frozen bN 0
 have qp1:=pick9_any who 5 w1 hwi.1 hwi.2 (by decide) (by decide)
 have qp2:=pick9_any kind 12 w1 hki.1 hki.2 (by decide) (by decide)
 rw[←hk] at qp1
 rw[hk0] at qp2
 have t1:Tch (fun _=>False) w (w1.setCell ⟨N,0,none⟩ (.int .i64 3)):=((by rw[hw1];exact Tch.alloc _ _ _:Tch (fun i=>w.heap.size≤i) w w1).setCellR _ _ (by show w.heap.size≤N;omega)).mono (fun i hi e=>by omega)
 have b2:(w1.setCell ⟨N,0,none⟩ (.int .i64 3)).heap[N]? =some (.cells #[.int .i64 3,.int .i64 who,.int .i64 key,.int .i64 n] 29 (0,0)):=blk_set bN _
 obtain⟨w2,hw2⟩: ∃w2,w2=w1.setCell ⟨N,0,none⟩ (.int .i64 3):=⟨_,rfl⟩
 rw[←hw2] at t1 b2
 have h2:=h.no t1
 rw[←hk] at hs hc
 have y0:w2.cell? ⟨qb,2+k*15,none⟩=some (.bool true):=by
  have:=(h2.mor.se k s hs).c 0 _ rfl
  rw[ho] at this;exact this
 have y1:w2.cell? ⟨qb,2+k*15+1,none⟩=some (.bool s.pp):=(h2.mor.se k s hs).c 1 _ rfl
 have hc:=hc w2 t1
 rw[hp] at y1
 have z0:w2.cell? ⟨N,0,none⟩=some (.int .i64 3):=by rw[blk_cell b2];rfl
 have z1:w2.cell? ⟨N,1,none⟩=some (.int .i64 who):=by rw[blk_cell b2];rfl
 have z2:w2.cell? ⟨N,2,none⟩=some (.int .i64 key):=by rw[blk_cell b2];rfl
 have z3:w2.cell? ⟨N,3,none⟩=some (.int .i64 n):=by rw[blk_cell b2];rfl
 have HW1:Hid (w1=_):=hw1
 have HN:Hid (N=w.heap.size):=hN
 have HW2:Hid (w2=_):=hw2
 have HT:Hid (Tch (fun _=>False) w w2):=t1
 unfold actV at hc ⊢
 clear h h2 t1 hs hw1 hN hw2 bN b2 hk hk0
 go_enter Tryz.func6,Tryz.ntmps6
 go_upto_region 1 with(fail)
 rw[←HW1.out, ←HN.out]
 go_wp2_with fail
 refine qp1.mono ?_
 rintro x w3 ⟨rfl,rfl⟩
 go_wp2_with fail
 refine qp2.mono ?_
 rintro x w3 ⟨rfl,rfl⟩
 clear qp1 qp2
 go_upto_region 5 with(fail)
 rw[←HW2.out]
 clear HW1 HN HW2 x0 x1 f0
 go_wp2_with fail
 refine hc.mono ?_
 rintro x w4 ⟨b,rfl,h4⟩
 go_wp2_with fail
 go_ret
 exact⟨b,rfl,h4⟩
theorem does_release {w0:Fr} {w:World} {qb hb mb nq:Nat} {m:Mg} {L:HL} {q:Mo} {A:Nat→Sx} {F:Nat→Prop} (h:LW w0 w qb hb mb nq m L q A F) {kind who key n:Int} (hki: -9223372036854775808≤kind∧kind≤9223372036854775807) (hwi: -9223372036854775808≤who∧who≤9223372036854775807) (hk0:pkN kind 12=4) {s:Se} (hs:q.l[pkN who 5]? =some s) (ho:s.op=true) (hp:s.pp=false) {R:Bool→World→Prop} (hc: ∀w2,Tch (fun _=>False) w w2→Calls Tryz.prog 21 #[.pointer (some ⟨qb,0,none⟩),.pointer (some ⟨qb,2+pkN who 5*15,none⟩),actV 4 who key n] w2 fun x w'=> ∃b,x= .returned (.bool b)∧R b w'):
  Calls Tryz.prog 6 #[.pointer (some ⟨qb,0,none⟩),actV kind who key n] w fun x w'=> ∃b,x= .returned (.bool b)∧R b w':=by
 obtain⟨k,hk⟩: ∃k,k=pkN who 5:=⟨_,rfl⟩
 have hk5:k<5:=by rw[hk];exact pkN_lt who (by decide)
 obtain⟨w1,hw1⟩: ∃w1,w1=w.alloc (.cells #[.int .i64 kind,.int .i64 who,.int .i64 key,.int .i64 n] 29):=⟨_,rfl⟩
 obtain⟨N,hN⟩: ∃N,N=w.heap.size:=⟨_,rfl⟩
 have bN:w1.heap[N]? =some (.cells #[.int .i64 kind,.int .i64 who,.int .i64 key,.int .i64 n] 29 (0,0)):=by rw[hw1,hN];exact alloc_new _ _
 have x0:w1.cell? ⟨N,0,none⟩=some (.int .i64 kind):=by rw[blk_cell bN];rfl
 have x1:w1.cell? ⟨N,1,none⟩=some (.int .i64 who):=by rw[blk_cell bN];rfl
 have f0:=blk_frozen bN 0
 have qp1:=pick9_any who 5 w1 hwi.1 hwi.2 (by decide) (by decide)
 have qp2:=pick9_any kind 12 w1 hki.1 hki.2 (by decide) (by decide)
 rw[←hk] at qp1
 rw[hk0] at qp2
 have t1:Tch (fun _=>False) w (w1.setCell ⟨N,0,none⟩ (.int .i64 4)):=((by rw[hw1];exact Tch.alloc _ _ _:Tch (fun i=>w.heap.size≤i) w w1).setCellR _ _ (by show w.heap.size≤N;omega)).mono (fun i hi e=>by omega)
 have b2:(w1.setCell ⟨N,0,none⟩ (.int .i64 4)).heap[N]? =some (.cells #[.int .i64 4,.int .i64 who,.int .i64 key,.int .i64 n] 29 (0,0)):=blk_set bN _
 obtain⟨w2,hw2⟩: ∃w2,w2=w1.setCell ⟨N,0,none⟩ (.int .i64 4):=⟨_,rfl⟩
 rw[←hw2] at t1 b2
 have h2:=h.no t1
 rw[←hk] at hs hc
 have y0:w2.cell? ⟨qb,2+k*15,none⟩=some (.bool true):=by
  have:=(h2.mor.se k s hs).c 0 _ rfl
  rw[ho] at this;exact this
 have y1:w2.cell? ⟨qb,2+k*15+1,none⟩=some (.bool s.pp):=(h2.mor.se k s hs).c 1 _ rfl
 have hc:=hc w2 t1
 rw[hp] at y1
 have z0:w2.cell? ⟨N,0,none⟩=some (.int .i64 4):=by rw[blk_cell b2];rfl
 have z1:w2.cell? ⟨N,1,none⟩=some (.int .i64 who):=by rw[blk_cell b2];rfl
 have z2:w2.cell? ⟨N,2,none⟩=some (.int .i64 key):=by rw[blk_cell b2];rfl
 have z3:w2.cell? ⟨N,3,none⟩=some (.int .i64 n):=by rw[blk_cell b2];rfl
 have HW1:Hid (w1=_):=hw1
 have HN:Hid (N=w.heap.size):=hN
 have HW2:Hid (w2=_):=hw2
 have HT:Hid (Tch (fun _=>False) w w2):=t1
 unfold actV at hc ⊢
 clear h h2 t1 hs hw1 hN hw2 bN b2 hk hk0
 go_enter Tryz.func6,Tryz.ntmps6
 go_upto_region 1 with(fail)
 rw[←HW1.out, ←HN.out]
 go_wp2_with fail
 refine qp1.mono ?_
 rintro x w3 ⟨rfl,rfl⟩
 go_wp2_with fail
 refine qp2.mono ?_
 rintro x w3 ⟨rfl,rfl⟩
 clear qp1 qp2
 go_upto_region 5 with(fail)
 rw[←HW2.out]
 clear HW1 HN HW2 x0 x1 f0
 go_wp2_with fail
 refine hc.mono ?_
 rintro x w4 ⟨b,rfl,h4⟩
 go_wp2_with fail
 go_ret
 exact⟨b,rfl,h4⟩
theorem does_back {w0:Fr} {w:World} {qb hb mb nq:Nat} {m:Mg} {L:HL} {q:Mo} {A:Nat→Sx} {F:Nat→Prop} (h:LW w0 w qb hb mb nq m L q A F) {kind who key n:Int} (hki: -9223372036854775808≤kind∧kind≤9223372036854775807) (hwi: -9223372036854775808≤who∧who≤9223372036854775807) (hk0:pkN kind 12=5) {s:Se} (hs:q.l[pkN who 5]? =some s) (ho:s.op=true) (hp:s.pp=false) {R:Bool→World→Prop} (hc: ∀w2,Tch (fun _=>False) w w2→Calls Tryz.prog 21 #[.pointer (some ⟨qb,0,none⟩),.pointer (some ⟨qb,2+pkN who 5*15,none⟩),actV 5 who key n] w2 fun x w'=> ∃b,x= .returned (.bool b)∧R b w'):
  Calls Tryz.prog 6 #[.pointer (some ⟨qb,0,none⟩),actV kind who key n] w fun x w'=> ∃b,x= .returned (.bool b)∧R b w':=by
 obtain⟨k,hk⟩: ∃k,k=pkN who 5:=⟨_,rfl⟩
 have hk5:k<5:=by rw[hk];exact pkN_lt who (by decide)
 obtain⟨w1,hw1⟩: ∃w1,w1=w.alloc (.cells #[.int .i64 kind,.int .i64 who,.int .i64 key,.int .i64 n] 29):=⟨_,rfl⟩
 obtain⟨N,hN⟩: ∃N,N=w.heap.size:=⟨_,rfl⟩
 have bN:w1.heap[N]? =some (.cells #[.int .i64 kind,.int .i64 who,.int .i64 key,.int .i64 n] 29 (0,0)):=by rw[hw1,hN];exact alloc_new _ _
 have x0:w1.cell? ⟨N,0,none⟩=some (.int .i64 kind):=by rw[blk_cell bN];rfl
 have x1:w1.cell? ⟨N,1,none⟩=some (.int .i64 who):=by rw[blk_cell bN];rfl
 have f0:=blk_frozen bN 0
 have qp1:=pick9_any who 5 w1 hwi.1 hwi.2 (by decide) (by decide)
 have qp2:=pick9_any kind 12 w1 hki.1 hki.2 (by decide) (by decide)
 rw[←hk] at qp1
 rw[hk0] at qp2
 have t1:Tch (fun _=>False) w (w1.setCell ⟨N,0,none⟩ (.int .i64 5)):=((by rw[hw1];exact Tch.alloc _ _ _:Tch (fun i=>w.heap.size≤i) w w1).setCellR _ _ (by show w.heap.size≤N;omega)).mono (fun i hi e=>by omega)
 have b2:(w1.setCell ⟨N,0,none⟩ (.int .i64 5)).heap[N]? =some (.cells #[.int .i64 5,.int .i64 who,.int .i64 key,.int .i64 n] 29 (0,0)):=blk_set bN _
 obtain⟨w2,hw2⟩: ∃w2,w2=w1.setCell ⟨N,0,none⟩ (.int .i64 5):=⟨_,rfl⟩
 rw[←hw2] at t1 b2
 have h2:=h.no t1
 rw[←hk] at hs hc
 have y0:w2.cell? ⟨qb,2+k*15,none⟩=some (.bool true):=by
  have:=(h2.mor.se k s hs).c 0 _ rfl
  rw[ho] at this;exact this
 have y1:w2.cell? ⟨qb,2+k*15+1,none⟩=some (.bool s.pp):=(h2.mor.se k s hs).c 1 _ rfl
 have hc:=hc w2 t1
 rw[hp] at y1
 have z0:w2.cell? ⟨N,0,none⟩=some (.int .i64 5):=by rw[blk_cell b2];rfl
 have z1:w2.cell? ⟨N,1,none⟩=some (.int .i64 who):=by rw[blk_cell b2];rfl
 have z2:w2.cell? ⟨N,2,none⟩=some (.int .i64 key):=by rw[blk_cell b2];rfl
 have z3:w2.cell? ⟨N,3,none⟩=some (.int .i64 n):=by rw[blk_cell b2];rfl
 have HW1:Hid (w1=_):=hw1
 have HN:Hid (N=w.heap.size):=hN
 have HW2:Hid (w2=_):=hw2
 have HT:Hid (Tch (fun _=>False) w w2):=t1
 unfold actV at hc ⊢
 clear h h2 t1 hs hw1 hN hw2 bN b2 hk hk0
 go_enter Tryz.func6,Tryz.ntmps6
 go_upto_region 1 with(fail)
 rw[←HW1.out, ←HN.out]
 go_wp2_with fail
 refine qp1.mono ?_
 rintro x w3 ⟨rfl,rfl⟩
 go_wp2_with fail
 refine qp2.mono ?_
 rintro x w3 ⟨rfl,rfl⟩
 clear qp1 qp2
 go_upto_region 5 with(fail)
 rw[←HW2.out]
 clear HW1 HN HW2 x0 x1 f0
 go_wp2_with fail
 refine hc.mono ?_
 rintro x w4 ⟨b,rfl,h4⟩
 go_wp2_with fail
 go_ret
 exact⟨b,rfl,h4⟩
theorem does_insert {w0:Fr} {w:World} {qb hb mb nq:Nat} {m:Mg} {L:HL} {q:Mo} {A:Nat→Sx} {F:Nat→Prop} (h:LW w0 w qb hb mb nq m L q A F) {kind who key n:Int} (hki: -9223372036854775808≤kind∧kind≤9223372036854775807) (hwi: -9223372036854775808≤who∧who≤9223372036854775807) (hk0:pkN kind 12=6) {s:Se} (hs:q.l[pkN who 5]? =some s) (ho:s.op=true) (hp:s.pp=false) {R:Bool→World→Prop} (hc: ∀w2,Tch (fun _=>False) w w2→Calls Tryz.prog 22 #[.pointer (some ⟨qb,0,none⟩),.int .i64 (pkN who 5),actV 6 who key n] w2 fun x w'=> ∃b,x= .returned (.bool b)∧R b w'):
  Calls Tryz.prog 6 #[.pointer (some ⟨qb,0,none⟩),actV kind who key n] w fun x w'=> ∃b,x= .returned (.bool b)∧R b w':=by
 obtain⟨k,hk⟩: ∃k,k=pkN who 5:=⟨_,rfl⟩
 have hk5:k<5:=by rw[hk];exact pkN_lt who (by decide)
 obtain⟨w1,hw1⟩: ∃w1,w1=w.alloc (.cells #[.int .i64 kind,.int .i64 who,.int .i64 key,.int .i64 n] 29):=⟨_,rfl⟩
 obtain⟨N,hN⟩: ∃N,N=w.heap.size:=⟨_,rfl⟩
 have bN:w1.heap[N]? =some (.cells #[.int .i64 kind,.int .i64 who,.int .i64 key,.int .i64 n] 29 (0,0)):=by rw[hw1,hN];exact alloc_new _ _
 have x0:w1.cell? ⟨N,0,none⟩=some (.int .i64 kind):=by rw[blk_cell bN];rfl
 have x1:w1.cell? ⟨N,1,none⟩=some (.int .i64 who):=by rw[blk_cell bN];rfl
 have f0:=blk_frozen bN 0
 have qp1:=pick9_any who 5 w1 hwi.1 hwi.2 (by decide) (by decide)
 have qp2:=pick9_any kind 12 w1 hki.1 hki.2 (by decide) (by decide)
 rw[←hk] at qp1
 rw[hk0] at qp2
 have t1:Tch (fun _=>False) w (w1.setCell ⟨N,0,none⟩ (.int .i64 6)):=((by rw[hw1];exact Tch.alloc _ _ _:Tch (fun i=>w.heap.size≤i) w w1).setCellR _ _ (by show w.heap.size≤N;omega)).mono (fun i hi e=>by omega)
 have b2:(w1.setCell ⟨N,0,none⟩ (.int .i64 6)).heap[N]? =some (.cells #[.int .i64 6,.int .i64 who,.int .i64 key,.int .i64 n] 29 (0,0)):=blk_set bN _
 obtain⟨w2,hw2⟩: ∃w2,w2=w1.setCell ⟨N,0,none⟩ (.int .i64 6):=⟨_,rfl⟩
 rw[←hw2] at t1 b2
 have h2:=h.no t1
 rw[←hk] at hs hc
 have y0:w2.cell? ⟨qb,2+k*15,none⟩=some (.bool true):=by
  have:=(h2.mor.se k s hs).c 0 _ rfl
  rw[ho] at this;exact this
 have y1:w2.cell? ⟨qb,2+k*15+1,none⟩=some (.bool s.pp):=(h2.mor.se k s hs).c 1 _ rfl
 have hc:=hc w2 t1
 rw[hp] at y1
 have z0:w2.cell? ⟨N,0,none⟩=some (.int .i64 6):=by rw[blk_cell b2];rfl
 have z1:w2.cell? ⟨N,1,none⟩=some (.int .i64 who):=by rw[blk_cell b2];rfl
 have z2:w2.cell? ⟨N,2,none⟩=some (.int .i64 key):=by rw[blk_cell b2];rfl
 have z3:w2.cell? ⟨N,3,none⟩=some (.int .i64 n):=by rw[blk_cell b2];rfl
 have HW1:Hid (w1=_):=hw1
 have HN:Hid (N=w.heap.size):=hN
 have HW2:Hid (w2=_):=hw2
 have HT:Hid (Tch (fun _=>False) w w2):=t1
 unfold actV at hc ⊢
 clear h h2 t1 hs hw1 hN hw2 bN b2 hk hk0
 go_enter Tryz.func6,Tryz.ntmps6
 go_upto_region 1 with(fail)
 rw[←HW1.out, ←HN.out]
 go_wp2_with fail
 refine qp1.mono ?_
 rintro x w3 ⟨rfl,rfl⟩
 go_wp2_with fail
 refine qp2.mono ?_
 rintro x w3 ⟨rfl,rfl⟩
 clear qp1 qp2
 go_upto_region 5 with(fail)
 rw[←HW2.out]
 clear HW1 HN HW2 x0 x1 f0
 go_wp2_with fail
 refine hc.mono ?_
 rintro x w4 ⟨b,rfl,h4⟩
 go_wp2_with fail
 go_ret
 exact⟨b,rfl,h4⟩
theorem does_update {w0:Fr} {w:World} {qb hb mb nq:Nat} {m:Mg} {L:HL} {q:Mo} {A:Nat→Sx} {F:Nat→Prop} (h:LW w0 w qb hb mb nq m L q A F) {kind who key n:Int} (hki: -9223372036854775808≤kind∧kind≤9223372036854775807) (hwi: -9223372036854775808≤who∧who≤9223372036854775807) (hk0:pkN kind 12=7) {s:Se} (hs:q.l[pkN who 5]? =some s) (ho:s.op=true) (hp:s.pp=false) {R:Bool→World→Prop} (hc: ∀w2,Tch (fun _=>False) w w2→Calls Tryz.prog 22 #[.pointer (some ⟨qb,0,none⟩),.int .i64 (pkN who 5),actV 7 who key n] w2 fun x w'=> ∃b,x= .returned (.bool b)∧R b w'):
  Calls Tryz.prog 6 #[.pointer (some ⟨qb,0,none⟩),actV kind who key n] w fun x w'=> ∃b,x= .returned (.bool b)∧R b w':=by
 obtain⟨k,hk⟩: ∃k,k=pkN who 5:=⟨_,rfl⟩
 have hk5:k<5:=by rw[hk];exact pkN_lt who (by decide)
 obtain⟨w1,hw1⟩: ∃w1,w1=w.alloc (.cells #[.int .i64 kind,.int .i64 who,.int .i64 key,.int .i64 n] 29):=⟨_,rfl⟩
 obtain⟨N,hN⟩: ∃N,N=w.heap.size:=⟨_,rfl⟩
 have bN:w1.heap[N]? =some (.cells #[.int .i64 kind,.int .i64 who,.int .i64 key,.int .i64 n] 29 (0,0)):=by rw[hw1,hN];exact alloc_new _ _
 have x0:w1.cell? ⟨N,0,none⟩=some (.int .i64 kind):=by rw[blk_cell bN];rfl
 have x1:w1.cell? ⟨N,1,none⟩=some (.int .i64 who):=by rw[blk_cell bN];rfl
 have f0:=blk_frozen bN 0
 have qp1:=pick9_any who 5 w1 hwi.1 hwi.2 (by decide) (by decide)
 have qp2:=pick9_any kind 12 w1 hki.1 hki.2 (by decide) (by decide)
 rw[←hk] at qp1
 rw[hk0] at qp2
 have t1:Tch (fun _=>False) w (w1.setCell ⟨N,0,none⟩ (.int .i64 7)):=((by rw[hw1];exact Tch.alloc _ _ _:Tch (fun i=>w.heap.size≤i) w w1).setCellR _ _ (by show w.heap.size≤N;omega)).mono (fun i hi e=>by omega)
 have b2:(w1.setCell ⟨N,0,none⟩ (.int .i64 7)).heap[N]? =some (.cells #[.int .i64 7,.int .i64 who,.int .i64 key,.int .i64 n] 29 (0,0)):=blk_set bN _
 obtain⟨w2,hw2⟩: ∃w2,w2=w1.setCell ⟨N,0,none⟩ (.int .i64 7):=⟨_,rfl⟩
 rw[←hw2] at t1 b2
 have h2:=h.no t1
 rw[←hk] at hs hc
 have y0:w2.cell? ⟨qb,2+k*15,none⟩=some (.bool true):=by
  have:=(h2.mor.se k s hs).c 0 _ rfl
  rw[ho] at this;exact this
 have y1:w2.cell? ⟨qb,2+k*15+1,none⟩=some (.bool s.pp):=(h2.mor.se k s hs).c 1 _ rfl
 have hc:=hc w2 t1
 rw[hp] at y1
 have z0:w2.cell? ⟨N,0,none⟩=some (.int .i64 7):=by rw[blk_cell b2];rfl
 have z1:w2.cell? ⟨N,1,none⟩=some (.int .i64 who):=by rw[blk_cell b2];rfl
 have z2:w2.cell? ⟨N,2,none⟩=some (.int .i64 key):=by rw[blk_cell b2];rfl
 have z3:w2.cell? ⟨N,3,none⟩=some (.int .i64 n):=by rw[blk_cell b2];rfl
 have HW1:Hid (w1=_):=hw1
 have HN:Hid (N=w.heap.size):=hN
 have HW2:Hid (w2=_):=hw2
 have HT:Hid (Tch (fun _=>False) w w2):=t1
 unfold actV at hc ⊢
 clear h h2 t1 hs hw1 hN hw2 bN b2 hk hk0
 go_enter Tryz.func6,Tryz.ntmps6
 go_upto_region 1 with(fail)
 rw[←HW1.out, ←HN.out]
 go_wp2_with fail
 refine qp1.mono ?_
 rintro x w3 ⟨rfl,rfl⟩
 go_wp2_with fail
 refine qp2.mono ?_
 rintro x w3 ⟨rfl,rfl⟩
 clear qp1 qp2
 go_upto_region 5 with(fail)
 rw[←HW2.out]
 clear HW1 HN HW2 x0 x1 f0
 go_wp2_with fail
 refine hc.mono ?_
 rintro x w4 ⟨b,rfl,h4⟩
 go_wp2_with fail
 go_ret
 exact⟨b,rfl,h4⟩
theorem does_delete {w0:Fr} {w:World} {qb hb mb nq:Nat} {m:Mg} {L:HL} {q:Mo} {A:Nat→Sx} {F:Nat→Prop} (h:LW w0 w qb hb mb nq m L q A F) {kind who key n:Int} (hki: -9223372036854775808≤kind∧kind≤9223372036854775807) (hwi: -9223372036854775808≤who∧who≤9223372036854775807) (hk0:pkN kind 12=8) {s:Se} (hs:q.l[pkN who 5]? =some s) (ho:s.op=true) (hp:s.pp=false) {R:Bool→World→Prop} (hc: ∀w2,Tch (fun _=>False) w w2→Calls Tryz.prog 22 #[.pointer (some ⟨qb,0,none⟩),.int .i64 (pkN who 5),actV 8 who key n] w2 fun x w'=> ∃b,x= .returned (.bool b)∧R b w'):
  Calls Tryz.prog 6 #[.pointer (some ⟨qb,0,none⟩),actV kind who key n] w fun x w'=> ∃b,x= .returned (.bool b)∧R b w':=by
 obtain⟨k,hk⟩: ∃k,k=pkN who 5:=⟨_,rfl⟩
 have hk5:k<5:=by rw[hk];exact pkN_lt who (by decide)
 obtain⟨w1,hw1⟩: ∃w1,w1=w.alloc (.cells #[.int .i64 kind,.int .i64 who,.int .i64 key,.int .i64 n] 29):=⟨_,rfl⟩
 obtain⟨N,hN⟩: ∃N,N=w.heap.size:=⟨_,rfl⟩
 have bN:w1.heap[N]? =some (.cells #[.int .i64 kind,.int .i64 who,.int .i64 key,.int .i64 n] 29 (0,0)):=by rw[hw1,hN];exact alloc_new _ _
 have x0:w1.cell? ⟨N,0,none⟩=some (.int .i64 kind):=by rw[blk_cell bN];rfl
 have x1:w1.cell? ⟨N,1,none⟩=some (.int .i64 who):=by rw[blk_cell bN];rfl
 have f0:=blk_frozen bN 0
 have qp1:=pick9_any who 5 w1 hwi.1 hwi.2 (by decide) (by decide)
 have qp2:=pick9_any kind 12 w1 hki.1 hki.2 (by decide) (by decide)
 rw[←hk] at qp1
 rw[hk0] at qp2
 have t1:Tch (fun _=>False) w (w1.setCell ⟨N,0,none⟩ (.int .i64 8)):=((by rw[hw1];exact Tch.alloc _ _ _:Tch (fun i=>w.heap.size≤i) w w1).setCellR _ _ (by show w.heap.size≤N;omega)).mono (fun i hi e=>by omega)
 have b2:(w1.setCell ⟨N,0,none⟩ (.int .i64 8)).heap[N]? =some (.cells #[.int .i64 8,.int .i64 who,.int .i64 key,.int .i64 n] 29 (0,0)):=blk_set bN _
 obtain⟨w2,hw2⟩: ∃w2,w2=w1.setCell ⟨N,0,none⟩ (.int .i64 8):=⟨_,rfl⟩
 rw[←hw2] at t1 b2
 have h2:=h.no t1
 rw[←hk] at hs hc
 have y0:w2.cell? ⟨qb,2+k*15,none⟩=some (.bool true):=by
  have:=(h2.mor.se k s hs).c 0 _ rfl
  rw[ho] at this;exact this
 have y1:w2.cell? ⟨qb,2+k*15+1,none⟩=some (.bool s.pp):=(h2.mor.se k s hs).c 1 _ rfl
 have hc:=hc w2 t1
 rw[hp] at y1
 have z0:w2.cell? ⟨N,0,none⟩=some (.int .i64 8):=by rw[blk_cell b2];rfl
 have z1:w2.cell? ⟨N,1,none⟩=some (.int .i64 who):=by rw[blk_cell b2];rfl
 have z2:w2.cell? ⟨N,2,none⟩=some (.int .i64 key):=by rw[blk_cell b2];rfl
 have z3:w2.cell? ⟨N,3,none⟩=some (.int .i64 n):=by rw[blk_cell b2];rfl
 have HW1:Hid (w1=_):=hw1
 have HN:Hid (N=w.heap.size):=hN
 have HW2:Hid (w2=_):=hw2
 have HT:Hid (Tch (fun _=>False) w w2):=t1
 unfold actV at hc ⊢
 clear h h2 t1 hs hw1 hN hw2 bN b2 hk hk0
 go_enter Tryz.func6,Tryz.ntmps6
 go_upto_region 1 with(fail)
 rw[←HW1.out, ←HN.out]
 go_wp2_with fail
 refine qp1.mono ?_
 rintro x w3 ⟨rfl,rfl⟩
 go_wp2_with fail
 refine qp2.mono ?_
 rintro x w3 ⟨rfl,rfl⟩
 clear qp1 qp2
 go_upto_region 5 with(fail)
 rw[←HW2.out]
 clear HW1 HN HW2 x0 x1 f0
 go_wp2_with fail
 refine hc.mono ?_
 rintro x w4 ⟨b,rfl,h4⟩
 go_wp2_with fail
 go_ret
 exact⟨b,rfl,h4⟩
theorem does_get {w0:Fr} {w:World} {qb hb mb nq:Nat} {m:Mg} {L:HL} {q:Mo} {A:Nat→Sx} {F:Nat→Prop} (h:LW w0 w qb hb mb nq m L q A F) {kind who key n:Int} (hki: -9223372036854775808≤kind∧kind≤9223372036854775807) (hwi: -9223372036854775808≤who∧who≤9223372036854775807) (hk0:pkN kind 12=9) {s:Se} (hs:q.l[pkN who 5]? =some s) (ho:s.op=true) (hp:s.pp=false) {R:Bool→World→Prop} (hc: ∀w2,Tch (fun _=>False) w w2→Calls Tryz.prog 24 #[.pointer (some ⟨qb,0,none⟩),.pointer (some ⟨qb,2+pkN who 5*15,none⟩),actV 9 who key n] w2 fun x w'=> ∃b,x= .returned (.bool b)∧R b w'):
  Calls Tryz.prog 6 #[.pointer (some ⟨qb,0,none⟩),actV kind who key n] w fun x w'=> ∃b,x= .returned (.bool b)∧R b w':=by
 obtain⟨k,hk⟩: ∃k,k=pkN who 5:=⟨_,rfl⟩
 have hk5:k<5:=by rw[hk];exact pkN_lt who (by decide)
 obtain⟨w1,hw1⟩: ∃w1,w1=w.alloc (.cells #[.int .i64 kind,.int .i64 who,.int .i64 key,.int .i64 n] 29):=⟨_,rfl⟩
 obtain⟨N,hN⟩: ∃N,N=w.heap.size:=⟨_,rfl⟩
 have bN:w1.heap[N]? =some (.cells #[.int .i64 kind,.int .i64 who,.int .i64 key,.int .i64 n] 29 (0,0)):=by rw[hw1,hN];exact alloc_new _ _
 have x0:w1.cell? ⟨N,0,none⟩=some (.int .i64 kind):=by rw[blk_cell bN];rfl
 have x1:w1.cell? ⟨N,1,none⟩=some (.int .i64 who):=by rw[blk_cell bN];rfl
 have f0:=blk_frozen bN 0
 have qp1:=pick9_any who 5 w1 hwi.1 hwi.2 (by decide) (by decide)
 have qp2:=pick9_any kind 12 w1 hki.1 hki.2 (by decide) (by decide)
 rw[←hk] at qp1
 rw[hk0] at qp2
 have t1:Tch (fun _=>False) w (w1.setCell ⟨N,0,none⟩ (.int .i64 9)):=((by rw[hw1];exact Tch.alloc _ _ _:Tch (fun i=>w.heap.size≤i) w w1).setCellR _ _ (by show w.heap.size≤N;omega)).mono (fun i hi e=>by omega)
 have b2:(w1.setCell ⟨N,0,none⟩ (.int .i64 9)).heap[N]? =some (.cells #[.int .i64 9,.int .i64 who,.int .i64 key,.int .i64 n] 29 (0,0)):=blk_set bN _
 obtain⟨w2,hw2⟩: ∃w2,w2=w1.setCell ⟨N,0,none⟩ (.int .i64 9):=⟨_,rfl⟩
 rw[←hw2] at t1 b2
 have h2:=h.no t1
 rw[←hk] at hs hc
 have y0:w2.cell? ⟨qb,2+k*15,none⟩=some (.bool true):=by
  have:=(h2.mor.se k s hs).c 0 _ rfl
  rw[ho] at this;exact this
 have y1:w2.cell? ⟨qb,2+k*15+1,none⟩=some (.bool s.pp):=(h2.mor.se k s hs).c 1 _ rfl
 have hc:=hc w2 t1
 rw[hp] at y1
 have z0:w2.cell? ⟨N,0,none⟩=some (.int .i64 9):=by rw[blk_cell b2];rfl
 have z1:w2.cell? ⟨N,1,none⟩=some (.int .i64 who):=by rw[blk_cell b2];rfl
 have z2:w2.cell? ⟨N,2,none⟩=some (.int .i64 key):=by rw[blk_cell b2];rfl
 have z3:w2.cell? ⟨N,3,none⟩=some (.int .i64 n):=by rw[blk_cell b2];rfl
 have HW1:Hid (w1=_):=hw1
 have HN:Hid (N=w.heap.size):=hN
 have HW2:Hid (w2=_):=hw2
 have HT:Hid (Tch (fun _=>False) w w2):=t1
 unfold actV at hc ⊢
 clear h h2 t1 hs hw1 hN hw2 bN b2 hk hk0
 go_enter Tryz.func6,Tryz.ntmps6
 go_upto_region 1 with(fail)
 rw[←HW1.out, ←HN.out]
 go_wp2_with fail
 refine qp1.mono ?_
 rintro x w3 ⟨rfl,rfl⟩
 go_wp2_with fail
 refine qp2.mono ?_
 rintro x w3 ⟨rfl,rfl⟩
 clear qp1 qp2
 go_upto_region 5 with(fail)
 rw[←HW2.out]
 clear HW1 HN HW2 x0 x1 f0
 go_wp2_with fail
 refine hc.mono ?_
 rintro x w4 ⟨b,rfl,h4⟩
 go_wp2_with fail
 go_ret
 exact⟨b,rfl,h4⟩
theorem does_scan {w0:Fr} {w:World} {qb hb mb nq:Nat} {m:Mg} {L:HL} {q:Mo} {A:Nat→Sx} {F:Nat→Prop} (h:LW w0 w qb hb mb nq m L q A F) {kind who key n:Int} (hki: -9223372036854775808≤kind∧kind≤9223372036854775807) (hwi: -9223372036854775808≤who∧who≤9223372036854775807) (hk0:pkN kind 12=10) {s:Se} (hs:q.l[pkN who 5]? =some s) (ho:s.op=true) (hp:s.pp=false) {R:Bool→World→Prop} (hc: ∀w2,Tch (fun _=>False) w w2→Calls Tryz.prog 24 #[.pointer (some ⟨qb,0,none⟩),.pointer (some ⟨qb,2+pkN who 5*15,none⟩),actV 10 who key n] w2 fun x w'=> ∃b,x= .returned (.bool b)∧R b w'):
  Calls Tryz.prog 6 #[.pointer (some ⟨qb,0,none⟩),actV kind who key n] w fun x w'=> ∃b,x= .returned (.bool b)∧R b w':=by
 obtain⟨k,hk⟩: ∃k,k=pkN who 5:=⟨_,rfl⟩
 have hk5:k<5:=by rw[hk];exact pkN_lt who (by decide)
 obtain⟨w1,hw1⟩: ∃w1,w1=w.alloc (.cells #[.int .i64 kind,.int .i64 who,.int .i64 key,.int .i64 n] 29):=⟨_,rfl⟩
 obtain⟨N,hN⟩: ∃N,N=w.heap.size:=⟨_,rfl⟩
 have bN:w1.heap[N]? =some (.cells #[.int .i64 kind,.int .i64 who,.int .i64 key,.int .i64 n] 29 (0,0)):=by rw[hw1,hN];exact alloc_new _ _
 have x0:w1.cell? ⟨N,0,none⟩=some (.int .i64 kind):=by rw[blk_cell bN];rfl
 have x1:w1.cell? ⟨N,1,none⟩=some (.int .i64 who):=by rw[blk_cell bN];rfl
 have f0:=blk_frozen bN 0
 have qp1:=pick9_any who 5 w1 hwi.1 hwi.2 (by decide) (by decide)
 have qp2:=pick9_any kind 12 w1 hki.1 hki.2 (by decide) (by decide)
 rw[←hk] at qp1
 rw[hk0] at qp2
 have t1:Tch (fun _=>False) w (w1.setCell ⟨N,0,none⟩ (.int .i64 10)):=((by rw[hw1];exact Tch.alloc _ _ _:Tch (fun i=>w.heap.size≤i) w w1).setCellR _ _ (by show w.heap.size≤N;omega)).mono (fun i hi e=>by omega)
 have b2:(w1.setCell ⟨N,0,none⟩ (.int .i64 10)).heap[N]? =some (.cells #[.int .i64 10,.int .i64 who,.int .i64 key,.int .i64 n] 29 (0,0)):=blk_set bN _
 obtain⟨w2,hw2⟩: ∃w2,w2=w1.setCell ⟨N,0,none⟩ (.int .i64 10):=⟨_,rfl⟩
 rw[←hw2] at t1 b2
 have h2:=h.no t1
 rw[←hk] at hs hc
 have y0:w2.cell? ⟨qb,2+k*15,none⟩=some (.bool true):=by
  have:=(h2.mor.se k s hs).c 0 _ rfl
  rw[ho] at this;exact this
 have y1:w2.cell? ⟨qb,2+k*15+1,none⟩=some (.bool s.pp):=(h2.mor.se k s hs).c 1 _ rfl
 have hc:=hc w2 t1
 rw[hp] at y1
 have z0:w2.cell? ⟨N,0,none⟩=some (.int .i64 10):=by rw[blk_cell b2];rfl
 have z1:w2.cell? ⟨N,1,none⟩=some (.int .i64 who):=by rw[blk_cell b2];rfl
 have z2:w2.cell? ⟨N,2,none⟩=some (.int .i64 key):=by rw[blk_cell b2];rfl
 have z3:w2.cell? ⟨N,3,none⟩=some (.int .i64 n):=by rw[blk_cell b2];rfl
 have HW1:Hid (w1=_):=hw1
 have HN:Hid (N=w.heap.size):=hN
 have HW2:Hid (w2=_):=hw2
 have HT:Hid (Tch (fun _=>False) w w2):=t1
 unfold actV at hc ⊢
 clear h h2 t1 hs hw1 hN hw2 bN b2 hk hk0
 go_enter Tryz.func6,Tryz.ntmps6
 go_upto_region 1 with(fail)
 rw[←HW1.out, ←HN.out]
 go_wp2_with fail
 refine qp1.mono ?_
 rintro x w3 ⟨rfl,rfl⟩
 go_wp2_with fail
 refine qp2.mono ?_
 rintro x w3 ⟨rfl,rfl⟩
 clear qp1 qp2
 go_upto_region 5 with(fail)
 rw[←HW2.out]
 clear HW1 HN HW2 x0 x1 f0
 go_wp2_with fail
 refine hc.mono ?_
 rintro x w4 ⟨b,rfl,h4⟩
 go_wp2_with fail
 go_ret
 exact⟨b,rfl,h4⟩
theorem does_begun {w0:Fr} {w:World} {qb hb mb nq:Nat} {m:Mg} {L:HL} {q:Mo} {A:Nat→Sx} {F:Nat→Prop} (h:LW w0 w qb hb mb nq m L q A F) {kind who key n:Int} (hki: -9223372036854775808≤kind∧kind≤9223372036854775807) (hwi: -9223372036854775808≤who∧who≤9223372036854775807) (hk0:pkN kind 12=0) {s:Se} (hs:q.l[pkN who 5]? =some s) (ho:s.op=true):
  Calls Tryz.prog 6 #[.pointer (some ⟨qb,0,none⟩),actV kind who key n] w fun x w'=>x= .returned (.bool true)∧Tch (fun _=>False) w w':=by
 obtain⟨k,hk⟩: ∃k,k=pkN who 5:=⟨_,rfl⟩
 have hk5:k<5:=by rw[hk];exact pkN_lt who (by decide)
 obtain⟨w1,hw1⟩: ∃w1,w1=w.alloc (.cells #[.int .i64 kind,.int .i64 who,.int .i64 key,.int .i64 n] 29):=⟨_,rfl⟩
 obtain⟨N,hN⟩: ∃N,N=w.heap.size:=⟨_,rfl⟩
 have bN:w1.heap[N]? =some (.cells #[.int .i64 kind,.int .i64 who,.int .i64 key,.int .i64 n] 29 (0,0)):=by rw[hw1,hN];exact alloc_new _ _
 have x0:w1.cell? ⟨N,0,none⟩=some (.int .i64 kind):=by rw[blk_cell bN];rfl
 have x1:w1.cell? ⟨N,1,none⟩=some (.int .i64 who):=by rw[blk_cell bN];rfl
 have f0:=blk_frozen bN 0
 have qp1:=pick9_any who 5 w1 hwi.1 hwi.2 (by decide) (by decide)
 have qp2:=pick9_any kind 12 w1 hki.1 hki.2 (by decide) (by decide)
 rw[←hk] at qp1
 rw[hk0] at qp2
 have t1:Tch (fun _=>False) w (w1.setCell ⟨N,0,none⟩ (.int .i64 0)):=((by rw[hw1];exact Tch.alloc _ _ _:Tch (fun i=>w.heap.size≤i) w w1).setCellR _ _ (by show w.heap.size≤N;omega)).mono (fun i hi e=>by omega)
 have b2:(w1.setCell ⟨N,0,none⟩ (.int .i64 0)).heap[N]? =some (.cells #[.int .i64 0,.int .i64 who,.int .i64 key,.int .i64 n] 29 (0,0)):=blk_set bN _
 obtain⟨w2,hw2⟩: ∃w2,w2=w1.setCell ⟨N,0,none⟩ (.int .i64 0):=⟨_,rfl⟩
 rw[←hw2] at t1 b2
 have h2:=h.no t1
 rw[←hk] at hs
 have y0:w2.cell? ⟨qb,2+k*15,none⟩=some (.bool true):=by
  have:=(h2.mor.se k s hs).c 0 _ rfl
  rw[ho] at this;exact this
 have y1:w2.cell? ⟨qb,2+k*15+1,none⟩=some (.bool s.pp):=(h2.mor.se k s hs).c 1 _ rfl
 clear y1
 have z0:w2.cell? ⟨N,0,none⟩=some (.int .i64 0):=by rw[blk_cell b2];rfl
 have z1:w2.cell? ⟨N,1,none⟩=some (.int .i64 who):=by rw[blk_cell b2];rfl
 have z2:w2.cell? ⟨N,2,none⟩=some (.int .i64 key):=by rw[blk_cell b2];rfl
 have z3:w2.cell? ⟨N,3,none⟩=some (.int .i64 n):=by rw[blk_cell b2];rfl
 have HW1:Hid (w1=_):=hw1
 have HN:Hid (N=w.heap.size):=hN
 have HW2:Hid (w2=_):=hw2
 have HT:Hid (Tch (fun _=>False) w w2):=t1
 unfold actV
 clear h h2 t1 hs hw1 hN hw2 bN b2 hk hk0
 go_enter Tryz.func6,Tryz.ntmps6
 go_upto_region 1 with(fail)
 rw[←HW1.out, ←HN.out]
 go_wp2_with fail
 refine qp1.mono ?_
 rintro x w3 ⟨rfl,rfl⟩
 go_wp2_with fail
 refine qp2.mono ?_
 rintro x w3 ⟨rfl,rfl⟩
 clear qp1 qp2
 go_upto_region 5 with(fail)
 rw[←HW2.out]
 clear HW1 HN HW2 x0 x1 f0
 go_wp2_with fail
 go_ret
 exact⟨rfl,HT.out⟩
end Go.Proofs.YtppokgdofgigfaaGreat.F
