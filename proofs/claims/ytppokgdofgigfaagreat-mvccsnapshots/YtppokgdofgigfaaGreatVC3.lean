import Derived.Test.YtppokgdofgigfaaGreatFV1
import Derived.Test.YtppokgdofgigfaaGreatFP7
import Derived.Test.YtppokgdofgigfaaGreatRMem
import Derived.Test.YtppokgdofgigfaaGreatRG4
import Derived.Test.YtppokgdofgigfaaGreatFW2
import Derived.Test.YtppokgdofgigfaaGreatFW6
import Derived.Test.YtppokgdofgigfaaGreatFW8
import Derived.Test.YtppokgdofgigfaaGreatFP6
import Derived.Test.YtppokgdofgigfaaGreatMHs
import Derived.Test.YtppokgdofgigfaaGreatVG3
import Derived.Test.YtppokgdofgigfaaGreatQTail
import Derived.Test.YtppokgdofgigfaaGreatMUnd
set_option maxHeartbeats 2000000
set_option maxRecDepth 100000
namespace Go.Proofs.YtppokgdofgigfaaGreat.F
open Go.RowKit Go Go.Sort
set_option maxRecDepth 100000
def PV (f:Fr) (qb hb mb i:Nat) (b:Bool) (w':World):Prop:=
 b=true∧ ∃nq' m' L' q' A' F' K',LW f w' qb hb mb nq' m' L' q' A' F'∧IL m' q' K'∧HK L' K'∧SB i nq' m' q'
theorem does_stepV {f:Fr} {w:World} {qb hb mb nq i:Nat} {m:Mg} {L:HL} {q:Mo} {A:Nat→Sx} {F:Nat→Prop} {K:Nat→List Vn} (h:LW f w qb hb mb nq m L q A F) (hI:IL m q K) (hK:HK L K) (hB:SB i nq m q) (hi:i<200) {kind who key n:Int} (hki: -9223372036854775808≤kind∧kind≤9223372036854775807) (hwi: -9223372036854775808≤who∧who≤9223372036854775807) (hke: -9223372036854775808≤key∧key≤9223372036854775807) (hni: -9223372036854775808≤n∧n≤9223372036854775807) {s:Se} (hs:q.l[pkN who 5]? =some s):
  Calls Tryz.prog 6 #[.pointer (some ⟨qb,0,none⟩),actV kind who key n] w fun x w'=> ∃b,x= .returned (.bool b)∧PV f qb hb mb (i+1) b w':=by
 obtain⟨k,hk⟩: ∃k,k=pkN who 5:=⟨_,rfl⟩
 obtain⟨kd,hkd⟩: ∃kd,kd=pkN kind 12:=⟨_,rfl⟩
 have hk12:kd<12:=by rw[hkd];exact pkN_lt kind (by decide)
 have b1:=hB.nq
 have b2:=hB.nx
 have b3:=hB.on
 have b4:=hB.qn
 have b5:=hB.se _ s hs
 have still: ∀w',Tch (fun _=>False) w w'→PV f qb hb mb (i+1) true w':=fun w' t=>
  ⟨rfl,nq,m,L,q,A,F,K,h.no t,hI,hK,hB.up⟩
 cases ho:s.op with
 |false=>
  rcases Nat.eq_zero_or_pos kd with h0|h0
  ·refine(does_begin h hki hwi (by rw[←hkd,h0]) hs ho (by omega) hB.now).mono ?_
   rintro x w' ⟨rfl,A',F',h'⟩
   rw[←hk] at h' hs
   exact⟨_,rfl,rfl,nq,_,L,_,A',F',K,h',hI.begin hs ho (by omega),hK,hB.set hs (by omega) (by show m.nx+1≤_;omega) (by show(m.on++[m.nx]).length≤_;rw[List.length_append];exact Nat.le_refl _) ⟨Nat.zero_le _,Nat.zero_le _,by show m.on.length≤_;omega⟩⟩
  ·refine(does_shut h h0 hki hwi (by rw[←hkd]) hs ho).mono ?_
   rintro x w' ⟨rfl,t⟩
   exact⟨_,rfl,still w' t⟩
 |true=>
  obtain⟨⟨t,ht⟩,_⟩:=hI.ses hs ho
  have hx:s.x≤1000000:=by
   have:=(hI.wf.lo t ht.mem).2
   have:=ht.x
   omega
  have hle: ∀κ,κ<6→seesS s κ≤1000:=fun κ hk6=>by
   rw[←foldS_all];exact foldS_le s κ ((h.bd _ s hs).ba κ hk6) (fun v hv=>((h.bd _ s hs).wr v hv).2.2.2) _
  rcases(by omega:kd=0∨kd=1∨kd=2∨2<kd) with h0|h0|h0|h0
  ·refine(does_begun h hki hwi (by rw[←hkd,h0]) hs ho).mono ?_
   rintro x w' ⟨rfl,t⟩
   exact⟨_,rfl,still w' t⟩
  ·refine does_commits h hki hwi (by rw[←hkd,h0]) hs ho (fun w2 t2=>?_)
   rw[←hk] at hs ⊢
   refine(ends_commit (h.no t2) hI.wf hs ht hx (by omega) who key n).mono ?_
   rintro x w' ⟨rfl,h',hin⟩
   have hI':=hI.fin hs ho ht (.inl rfl) (qj q s 6).now (qj q s 6).wn (qj q s 6).n (by rw[qj_n];rfl)
    (fun κ hκ=>by
     rw[qj_now q s 6 (by omega) κ hκ]
     by_cases hw:wroteS s κ=true
     ·rw[if_pos ⟨hκ,hw⟩,if_pos ⟨rfl,hw⟩]
     ·rw[if_neg (fun e=>hw e.2),if_neg (fun e=>hw e.2)])
    (fun κ hκ=>by
     rw[qj_wn q s 6 (by omega) κ hκ,qj_n]
     by_cases hw:wroteS s κ=true
     ·rw[if_pos ⟨hκ,hw⟩,if_pos ⟨rfl,hw⟩]
     ·rw[if_neg (fun e=>hw e.2),if_neg (fun e=>hw e.2)])
   exact⟨_,rfl,rfl,nq,_,L,_,_,F,K,h',hI',hK,hB.commit hs hle (Nat.le_refl _) (fin_on m t.x 3)⟩
  ·refine does_aborts h hki hwi (by rw[←hkd,h0]) hs ho (fun w2 t2=>?_)
   rw[←hk] at hs ⊢
   refine(ends_abort (h.no t2) hI.wf hs ht hx who key n).mono ?_
   rintro x w' ⟨rfl,h'⟩
   have hI':=hI.fin hs ho ht (.inr rfl) q.now q.wn q.n (by rfl) (fun κ hκ=>by rw[if_neg (fun e=>by cases e.1)]) (fun κ hκ=>by rw[if_neg (fun e=>by cases e.1)])
   exact⟨_,rfl,rfl,nq,_,L,_,_,F,K,h',hI',hK,hB.set hs (by omega) (by show m.nx≤_;omega) (by have:=fin_on m t.x 4;omega) ⟨Nat.zero_le _,Nat.zero_le _,Nat.zero_le _⟩⟩
  ·cases hpp:s.pp with
   |true=>
    refine(does_still h h0 hki hwi (by rw[←hkd]) hs ho hpp).mono ?_
    rintro x w' ⟨rfl,t⟩
    exact⟨_,rfl,still w' t⟩
   |false=>
    obtain⟨i1,i2,i3,i4⟩:=inn_ok ht hpp
    rcases(by omega:kd=3∨kd=4∨kd=5∨kd=6∨kd=7∨kd=8∨kd=9∨kd=10∨kd=11) with h0|h0|h0|h0|h0|h0|h0|h0|h0
    ·refine does_part h hki hwi (by rw[←hkd,h0]) hs ho hpp (fun w2 t2=>?_)
     rw[←hk] at hs ⊢
     rcases Nat.lt_or_ge s.ps.length 12 with hl|hl
     ·refine(parts_part (h.no t2) hI.wf hs ht hpp hl (by omega) who key n).mono ?_
      rintro x w' ⟨rfl,A',F',h'⟩
      exact⟨_,rfl,rfl,nq,_,L,_,A',F',K,h',hI.add hs ho ht hpp (by omega) (by rw[ht.ps,List.length_map];omega),hK,hB.set hs (by omega) (by show m.nx+1≤_;omega) (by show m.on.length≤_;omega) ⟨by show s.ws.length≤_;omega,by show(s.ps++[_]).length≤12;rw[List.length_append];show s.ps.length+1≤12;omega,by show s.on.length≤_;omega⟩⟩
     ·refine(parts_full (h.no t2) hs hl who key n).mono ?_
      rintro x w' ⟨rfl,t⟩
      exact⟨_,rfl,still w' (t2.trans' t)⟩
    ·refine does_release h hki hwi (by rw[←hkd,h0]) hs ho hpp (fun w2 t2=>?_)
     rw[←hk] at hs ⊢
     refine(parts_release (h.no t2) hI.wf hs ht hpp b5.2.1 hni).mono ?_
     rintro x w' ⟨b,rfl,rfl,⟨F',h'⟩|⟨j,F',h'⟩⟩
     ·exact⟨_,rfl,rfl,nq,m,L,q,A,F',K,h',hI,hK,hB.up⟩
     ·exact⟨_,rfl,rfl,nq,_,L,_,A,F',K,h',hI.ends_ hs ho ht j false,hK,hB.set hs (by omega) (by show m.nx≤_;omega) (by show m.on.length≤_;omega) ⟨by show s.ws.length≤_;omega,by show(psj _ _ _ _).length≤12;rw[psj_len];exact b5.2.1,by show s.on.length≤_;omega⟩⟩
    ·refine does_back h hki hwi (by rw[←hkd,h0]) hs ho hpp (fun w2 t2=>?_)
     rw[←hk] at hs ⊢
     refine(parts_back (h.no t2) hI.wf hs ht hpp b5.2.1 hni).mono ?_
     rintro x w' ⟨b,rfl,rfl,⟨F',h'⟩|⟨j,F',h'⟩⟩
     ·exact⟨_,rfl,rfl,nq,m,L,q,A,F',K,h',hI,hK,hB.up⟩
     ·exact⟨_,rfl,rfl,nq,_,L,_,A,F',K,h',hI.ends_ hs ho ht j true,hK,hB.set hs (by omega) (by show m.nx≤_;omega) (by show m.on.length≤_;omega) ⟨by show s.ws.length≤_;omega,by show(psj _ _ _ _).length≤12;rw[psj_len];exact b5.2.1,by show s.on.length≤_;omega⟩⟩
    ·refine does_insert h hki hwi (by rw[←hkd,h0]) hs ho hpp (fun w2 t2=>?_)
     rw[←hk] at hs ⊢
     cases hcf:confB q k s (pkN key 6) with
     |true=>
      refine(writes_insC (h.no t2) hI.iv hK hs ho ht hpp (by omega) (by omega) (by omega) hke hni hcf).mono ?_
      rintro x w' ⟨b,rfl,rfl,L',h',hK'⟩
      exact⟨_,rfl,rfl,nq+3,m,L',q,A,F,K,h',hI,hK',hB.upN⟩
     |false=>
      by_cases hsn:seesS s (pkN key 6)=0
      ·refine(writes_ins (h.no t2) hI.iv hK hs ho ht hpp (by omega) (by omega) (by omega) (by omega) hke hni hcf hsn).mono ?_
       rintro x w' ⟨b,rfl,rfl,L',A',F',h',hK'⟩
       exact⟨_,rfl,rfl,nq+3,m,L',_,A',F',_,h',hI.write hs ho i1 i2 i3 (fun e=>by rw[(confB_iff q hI.ln k s _).2 e] at hcf;cases hcf) false (pkN n 1000),hK',hB.set hs (by omega) (by omega) (by omega) ⟨by show(s.ws++[_]).length≤_;rw[List.length_append];show s.ws.length+1≤_;omega,b5.2.1,by show s.on.length≤_;omega⟩⟩
      ·refine(writes_insS (h.no t2) hI.iv hK hs ho ht hpp (by omega) (by omega) (by omega) hke hni hcf hsn).mono ?_
       rintro x w' ⟨b,rfl,rfl,L',h',hK'⟩
       exact⟨_,rfl,rfl,nq+3,m,L',q,A,F,K,h',hI,hK',hB.upN⟩
    ·refine does_update h hki hwi (by rw[←hkd,h0]) hs ho hpp (fun w2 t2=>?_)
     rw[←hk] at hs ⊢
     cases hcf:confB q k s (pkN key 6) with
     |true=>
      refine(writes_updC (h.no t2) hI.iv hK hs ho ht hpp (by omega) (by omega) (by omega) hke hni hcf).mono ?_
      rintro x w' ⟨b,rfl,rfl,L',h',hK'⟩
      exact⟨_,rfl,rfl,nq+3,m,L',q,A,F,K,h',hI,hK',hB.upN⟩
     |false=>
      by_cases hsn:seesS s (pkN key 6)=0
      ·refine(writes_updS (h.no t2) hI.iv hK hs ho ht hpp (by omega) (by omega) (by omega) hke hni hcf hsn).mono ?_
       rintro x w' ⟨b,rfl,rfl,L',h',hK'⟩
       exact⟨_,rfl,rfl,nq+3,m,L',q,A,F,K,h',hI,hK',hB.upN⟩
      ·refine(writes_upd (h.no t2) hI.iv hK hs ho ht hpp (by omega) (by omega) (by omega) (by omega) hke hni hcf hsn).mono ?_
       rintro x w' ⟨b,rfl,rfl,L',A',F',h',hK'⟩
       exact⟨_,rfl,rfl,nq+3,m,L',_,A',F',_,h',hI.write hs ho i1 i2 i3 (fun e=>by rw[(confB_iff q hI.ln k s _).2 e] at hcf;cases hcf) false (pkN n 1000),hK',hB.set hs (by omega) (by omega) (by omega) ⟨by show(s.ws++[_]).length≤_;rw[List.length_append];show s.ws.length+1≤_;omega,b5.2.1,by show s.on.length≤_;omega⟩⟩
    ·refine does_delete h hki hwi (by rw[←hkd,h0]) hs ho hpp (fun w2 t2=>?_)
     rw[←hk] at hs ⊢
     cases hcf:confB q k s (pkN key 6) with
     |true=>
      refine(writes_delC (h.no t2) hI.iv hK hs ho ht hpp (by omega) (by omega) (by omega) hke hni hcf).mono ?_
      rintro x w' ⟨b,rfl,rfl,L',h',hK'⟩
      exact⟨_,rfl,rfl,nq+3,m,L',q,A,F,K,h',hI,hK',hB.upN⟩
     |false=>
      by_cases hsn:seesS s (pkN key 6)=0
      ·refine(writes_delS (h.no t2) hI.iv hK hs ho ht hpp (by omega) (by omega) (by omega) hke hni hcf hsn).mono ?_
       rintro x w' ⟨b,rfl,rfl,L',h',hK'⟩
       exact⟨_,rfl,rfl,nq+3,m,L',q,A,F,K,h',hI,hK',hB.upN⟩
      ·refine(writes_del (h.no t2) hI.iv hK hs ho ht hpp (by omega) (by omega) (by omega) (by omega) hke hni hcf hsn).mono ?_
       rintro x w' ⟨b,rfl,rfl,L',A',F',h',hK'⟩
       exact⟨_,rfl,rfl,nq+3,m,L',_,A',F',_,h',hI.write hs ho i1 i2 i3 (fun e=>by rw[(confB_iff q hI.ln k s _).2 e] at hcf;cases hcf) true (pkN n 1000),hK',hB.set hs (by omega) (by omega) (by omega) ⟨by show(s.ws++[_]).length≤_;rw[List.length_append];show s.ws.length+1≤_;omega,b5.2.1,by show s.on.length≤_;omega⟩⟩
    ·refine does_get h hki hwi (by rw[←hkd,h0]) hs ho hpp (fun w2 t2=>?_)
     rw[←hk] at hs ⊢
     refine(reads_get (h.no t2) hI.iv hK hs ho ht hpp (by omega) (by omega) (by omega) hke).mono ?_
     rintro x w' ⟨b,rfl,rfl,t⟩
     exact⟨_,rfl,still w' (t2.trans' t)⟩
    ·refine does_scan h hki hwi (by rw[←hkd,h0]) hs ho hpp (fun w2 t2=>?_)
     rw[←hk] at hs ⊢
     refine(R.reads_scan (h.no t2) hI.iv hK hs ho ht hpp (by omega) (by omega) (by omega)).mono ?_
     rintro x w' ⟨b,rfl,rfl,t⟩
     exact⟨_,rfl,still w' (t2.trans' t)⟩
    ·refine(does_prepare h hki hwi (by rw[←hkd,h0]) hs ho hpp hI.wf ht hx).mono ?_
     rintro x w' ⟨rfl,A',F',h'⟩
     rw[←hk] at h' hs
     exact⟨_,rfl,rfl,nq,_,L,_,A',F',K,h',hI.prep hs ho ht hpp,hK,hB.set hs (by omega) (by show m.nx≤_;omega) (by show m.on.length≤_;omega) ⟨by show s.ws.length≤_;omega,b5.2.1,by show s.on.length≤_;omega⟩⟩
end Go.Proofs.YtppokgdofgigfaaGreat.F
namespace Go.Proofs.YtppokgdofgigfaaGreat
open Go.RowKit Go Go.Sort
section
variable (hb mb:Nat) (m:Mg) (w:World) (F:Nat→Prop) (hM:MF w mb m F) (c0:w.cell? ⟨hb,0,none⟩=some (.pointer (some ⟨mb,0,none⟩)))
variable (wr:Int) (h1: -9223372036854775808≤wr) (h2:wr≤9223372036854775807) (th:Bool) (ao:Option Addr) (n cap:Nat)
include hM c0 h1 h2
theorem settled_any:Calls Tryz.prog 81 #[.pointer (some ⟨hb,0,none⟩),.agg #[.int .i64 wr,.bool th,.slice ao n cap]] w fun x w'=>x= .returned (.bool (decide (m.state wr=3∨m.state wr=0)))∧Tch (fun _=>False) w w':=by
 obtain⟨w0,hw0⟩: ∃w0,w0=w.alloc (.cells #[.int .i64 wr,.bool th,.slice ao n cap] 69):=⟨_,rfl⟩
 have t0:Tch (fun _=>False) w w0:=by rw[hw0];exact Tch.alloc _ _ _
 have b0:w0.heap[w.heap.size]? =some (.cells #[.int .i64 wr,.bool th,.slice ao n cap] 69 (0,0)):=by rw[hw0];exact alloc_new _ _
 have d0:w0.cell? ⟨w.heap.size,0,none⟩=some (.int .i64 wr):=by rw[blk_cell b0];rfl
 have e0:w0.cell? ⟨hb,0,none⟩=some (.pointer (some ⟨mb,0,none⟩)):=by rw[t0.cell (p:=⟨hb,0,none⟩) (cell_lt c0) (fun h=>h)];exact c0
 have cS: ∀d os,Calls Tryz.prog 90 #[.pointer (some ⟨mb,0,none⟩),.int .i64 wr] (grow (redrawn w0 d) os) fun e w''=>e= .returned (.int .i64 (m.state wr))∧ ∃p:Regrown,w''=grow (redrawn w0 p.d) p.os:=fun d os=>Calls.tch_regrown_of (state_f mb m _ F (hM.no (t0.trans' (tch_regrown w0 ⟨d,os⟩))) wr h1 h2)
 obtain⟨st,hst⟩: ∃st,st=m.state wr:=⟨_,rfl⟩
 rw[←hst] at cS ⊢
 have Hw0:Hid _:=hw0
 have HT:Hid (∀p:Regrown,Tch (fun _=>False) w (grow (redrawn w0 p.d) p.os)):=fun p=>t0.trans' (tch_regrown w0 p)
 have d0':=cell_regrown d0
 have e0':=cell_regrown e0
 clear hst hM c0 b0 hw0 t0 h1 h2 d0 e0
 by_cases h4:st=3
 ·subst h4
  go_enter Tryz.func81,Tryz.ntmps81
  go_wp2_with fail
  have hw0:=Hw0.out
  rw[←hw0]
  clear hw0
  refine wp_region_quiet_below (by kernel_rfl) (by kernel_rfl) ?_
  repeat (go_big_quiet_step ((go_at_call 90;exact cS _ _)))
  refine wpQuiet_nil ?_
  rintro w1 ⟨pp,rfl⟩
  have T:=HT.out pp
  go_wp2_with fail
  go_ret
  exact⟨rfl,T⟩
 ·have h4': ¬(st:Int)=3:=by omega
  have h5':((st:Int)==3)=false:=by simpa using h4'
  have HD:Hid (decide (st=3∨st=0)=((st:Int)==0)):=by
   show _=_
   rw[Bool.eq_iff_iff];simp;omega
  go_enter Tryz.func81,Tryz.ntmps81
  go_wp2_with fail
  have hw0:=Hw0.out
  rw[←hw0]
  clear hw0
  refine wp_region_quiet_below (by kernel_rfl) (by kernel_rfl) ?_
  repeat (go_big_quiet_step ((go_at_call 90;exact cS _ _)))
  refine wpQuiet_nil ?_
  rintro w1 ⟨pp,rfl⟩
  have T:=HT.out pp
  go_wp2_with fail
  go_ret
  exact⟨by rw[HD.out];rfl,T⟩
end
abbrev SS:=F.Sp×(Option Addr×Nat)
def SpR (W:World) (ao:Option Addr) (ss:List SS):Prop:= ∀(i:Nat) (z:SS),ss[i]? =some z→ ∃g o,ao=some ⟨g,o,none⟩∧g<W.heap.size∧W.cell? ⟨g,o+i*3,none⟩=some (.int .i64 z.1.mn)∧W.cell? ⟨g,o+i*3+1,none⟩=some (.int .i64 z.1.mx)∧W.cell? ⟨g,o+i*3+2,none⟩=some (.slice z.2.1 z.1.on.length z.2.2)∧IR W z.2.1 z.1.on
theorem SpR.no {W W':World} {ao:Option Addr} {ss:List SS} (h:SpR W ao ss) (t:Tch (fun _=>False) W W'):SpR W' ao ss:=fun i z hz=>by
 obtain⟨g,o,e,hg,h0,h1,h2,h3⟩:=h i z hz
 have c: ∀j u,W.cell? ⟨g,j,none⟩=some u→W'.cell? ⟨g,j,none⟩=some u:=fun j u hu=>(t.cell (p:=⟨g,j,none⟩) hg (fun e=>e)).trans hu
 exact⟨g,o,e,Nat.lt_of_lt_of_le hg t.size,c _ _ h0,c _ _ h1,c _ _ h2,h3.no t⟩
def gfaB (m:Mg) (l:List F.Sp) (wr:Int) (th:Bool):Bool:= !th && (F.kds l).all (fun x=>F.kdB m x wr)
theorem gfaB_eq (m:Mg) (l:List F.Sp) (v:Ver):F.gfa m l v=gfaB m l v.wr v.th:=rfl
theorem gfa_any (hb mb:Nat) (m:Mg) (w:World) (F0:Nat→Prop) (hM:MF w mb m F0) (c0:w.cell? ⟨hb,0,none⟩=some (.pointer (some ⟨mb,0,none⟩))) (x9:Int) (h1: -9223372036854775808≤x9) (h2:x9≤9223372036854775807) (th:Bool) (ao:Option Addr) (n cap:Nat) (lo:Option Addr) (lc:Nat) (ss:List SS) (hs:SpR w lo ss) (hl:ss.length≤1000) (hon: ∀z∈ss,z.1.on.length≤9223372036854775807):
  Calls Tryz.prog 82 #[.pointer (some ⟨hb,0,none⟩),.agg #[.int .i64 x9,.bool th,.slice ao n cap],.slice lo ss.length lc] w fun x w'=>x= .returned (.bool (gfaB m (ss.map (·.1)) x9 th))∧Tch (fun _=>False) w w':=by
 obtain⟨w0,hw0⟩: ∃w0,w0=w.alloc (.cells #[.int .i64 x9,.bool th,.slice ao n cap] 69):=⟨_,rfl⟩
 have t0:Tch (fun _=>False) w w0:=by rw[hw0];exact Tch.alloc _ _ _
 obtain⟨N,hN⟩: ∃N,N=w.heap.size:=⟨_,rfl⟩
 have b0:w0.heap[N]? =some (.cells #[.int .i64 x9,.bool th,.slice ao n cap] 69 (0,0)):=by rw[hw0,hN];exact alloc_new _ _
 have d0:w0.cell? ⟨N,0,none⟩=some (.int .i64 x9):=by rw[blk_cell b0];rfl
 have d1:w0.cell? ⟨N,1,none⟩=some (.bool th):=by rw[blk_cell b0];rfl
 have d2:w0.cell? ⟨N,2,none⟩=some (.slice ao n cap):=by rw[blk_cell b0];rfl
 have qs:=settled_any hb mb m w0 F0 (hM.no t0) ((t0.cell (p:=⟨hb,0,none⟩) (cell_lt c0) (fun h=>h)).trans c0) x9 h1 h2 th ao n cap
 have HM:Hid (∀W,Tch (fun _=>False) w0 W→MF W mb m F0):=fun W t=>hM.no (t0.trans' t)
 have HC:Hid (∀W,Tch (fun _=>False) w0 W→W.cell? ⟨hb,0,none⟩=some (.pointer (some ⟨mb,0,none⟩))):=fun W t=>(((t0.trans' t).cell (p:=⟨hb,0,none⟩) (cell_lt c0) (fun h=>h))).trans c0
 have HD:Hid (∀W,Tch (fun _=>False) w0 W→W.cell? ⟨N,0,none⟩=some (.int .i64 x9)):=fun W t=>(t.cell (p:=⟨N,0,none⟩) (blk_lt b0) (fun h=>h)).trans d0
 have HS:Hid (∀W,Tch (fun _=>False) w0 W→SpR W lo ss):=fun W t=>hs.no (t0.trans' t)
 have HT0:Hid (Tch (fun _=>False) w w0):=t0
 have HB:Hid ((-9223372036854775808≤x9∧x9≤9223372036854775807)∧ ∀z∈ss,z.1.on.length≤9223372036854775807):=⟨⟨h1,h2⟩,hon⟩
 obtain⟨ln,hln⟩: ∃ln,ln=ss.length:=⟨_,rfl⟩
 have Hln:Hid (ln=ss.length):=hln
 obtain⟨out,hout⟩: ∃out,out=gfaB m (ss.map (·.1)) x9 th:=⟨_,rfl⟩
 have HO:Hid (out=(!th && (decide (m.state x9=3∨m.state x9=0) && ss.all (fun z=>m.sees z.1.mn z.1.mx z.1.on 0 x9)))):=by
  show out=_
  rw[hout]
  unfold gfaB F.kds
  rw[List.all_cons,List.all_map,List.all_map];rfl
 rw[←hln] at hl ⊢
 rw[←hout]
 have Hw0:Hid (w0=w.alloc (.cells #[.int .i64 x9,.bool th,.slice ao n cap] 69)∧N=w.heap.size):=⟨hw0,hN⟩
 clear hln hout hM c0 hs hon h1 h2 b0 t0 hw0 hN
 cases th with
 |true=>
  clear qs HD HM HC HS d0 d2
  have e:out=false:=by rw[HO.out];rfl
  rw[e]
  go_enter Tryz.func82,Tryz.ntmps82
  go_wp2_with fail
  rw[←Hw0.out.1, ←Hw0.out.2]
  go_wp2_with fail
  go_ret
  exact⟨rfl,HT0.out⟩
 |false=>
  obtain⟨sb,hsb⟩: ∃sb,sb=decide (m.state x9=3∨m.state x9=0):=⟨_,rfl⟩
  rw[←hsb] at qs HO
  clear hsb
  go_enter Tryz.func82,Tryz.ntmps82
  go_wp2_with fail
  rw[←Hw0.out.1, ←Hw0.out.2]
  go_wp2_with fail
  refine qs.mono ?_
  rintro x w1 ⟨rfl,t1⟩
  have HT1:Hid (Tch (fun _=>False) w0 w1):=t1
  clear qs t1 d0 d1 d2
  cases sb with
  |false=>
   have e:out=false:=by rw[HO.out];rfl
   have HE:Hid (out=false):=e
   clear e
   go_wp2_with fail
   go_ret
   exact⟨by rw[HE.out];rfl,HT0.out.trans' HT1.out⟩
  |true=>
   go_wp2_with fail
   go_loopw [19] (fun v wr=> ∃i:Nat,v= .int .i64 i∧i≤ln∧Hid (Tch (fun _=>False) w0 wr)∧Hid ((ss.take i).all (fun z=>m.sees z.1.mn z.1.mx z.1.on 0 x9)=true)) (fun v _=>(ln - intOf v).toNat)
   case atStart=>exact⟨0,rfl,by omega,HT1.out,rfl⟩
   case round=>
    obtain⟨i,rfl,hi,HT,HP⟩:=hrel
    obtain⟨wV,hwV⟩: ∃wV,wV=wr:=⟨_,rfl⟩
    subst hwV
    by_cases hlt:(i:Int)<(ln:Int)
    ·obtain⟨z,hz⟩: ∃z,ss[i]? =some z:=⟨_,List.getElem?_eq_getElem (by have:=Hln.out;omega)⟩
     obtain⟨g,o,rfl,hg,a0,a1,a2,hir⟩:=HS.out wV HT.out i z hz
     have Hz:Hid (ss[i]? =some z∧IR wV z.2.1 z.1.on):=⟨hz,hir⟩
     clear hz hir
     obtain⟨⟨⟨mn,mx,on⟩,so,sc⟩,hze⟩: ∃z':SS,z'=z:=⟨z,rfl⟩
     subst hze
     simp only at a0 a1 a2
     have e0:=HC.out wV HT.out
     have e1:=HD.out wV HT.out
     obtain⟨wA,hwA⟩: ∃wA,wA=wV.alloc (.cells #[.int .i64 mn,.int .i64 mx,.slice so on.length sc] 38):=⟨_,rfl⟩
     obtain⟨N2,hN2⟩: ∃N2,N2=wV.heap.size:=⟨_,rfl⟩
     have tA:Tch (fun _=>False) wV wA:=by rw[hwA];exact Tch.alloc _ _ _
     have bA:wA.heap[N2]? =some (.cells #[.int .i64 mn,.int .i64 mx,.slice so on.length sc] 38 (0,0)):=by rw[hwA,hN2];exact alloc_new _ _
     obtain⟨⟨g1,g2⟩,g3⟩:=HB.out
     have cS: ∀d os,Calls Tryz.prog 58 #[.pointer (some ⟨mb,0,none⟩),.agg #[.int .i64 mn,.int .i64 mx,.slice so on.length sc],.int .i64 0,.int .i64 x9] (grow (redrawn wA d) os) fun e w''=>e= .returned (.bool (m.sees mn mx on 0 x9))∧ ∃p:Regrown,w''=grow (redrawn wA p.d) p.os:=fun d os=>Calls.tch_regrown_of (sees_f mb m _ F0 (HM.out _ ((HT.out.trans' tA).trans' (tch_regrown wA ⟨d,os⟩))) mn mx on so sc (g3 _ (List.mem_of_getElem? Hz.out.1)) (Hz.out.2.no (tA.trans' (tch_regrown wA ⟨d,os⟩))) 0 x9 g1 g2 (by omega) (by omega))
     have f0:=cell_regrown (show wA.cell? ⟨N2,0,none⟩=some (.int .i64 mn) by rw[blk_cell bA];rfl)
     have f1:=cell_regrown (show wA.cell? ⟨N2,1,none⟩=some (.int .i64 mx) by rw[blk_cell bA];rfl)
     have f2:=cell_regrown (show wA.cell? ⟨N2,2,none⟩=some (.slice so on.length sc) by rw[blk_cell bA];rfl)
     have f3:=cell_regrown (HC.out wA (HT.out.trans' tA))
     have f4:=cell_regrown (HD.out wA (HT.out.trans' tA))
     have HTA:Hid (∀p:Regrown,Tch (fun _=>False) w0 (grow (redrawn wA p.d) p.os)):=fun p=>(HT.out.trans' tA).trans' (tch_regrown wA p)
     have HwA:Hid (wA=wV.alloc (.cells #[.int .i64 mn,.int .i64 mx,.slice so on.length sc] 38)∧N2=wV.heap.size):=⟨hwA,hN2⟩
     obtain⟨sv,hsv⟩: ∃sv,sv=m.sees mn mx on 0 x9:=⟨_,rfl⟩
     have Hsv:Hid (sv=m.sees mn mx on 0 x9):=hsv
     rw[←hsv] at cS
     have Hi:Hid (i<ss.length):=by have:=Hln.out;show i<ss.length;omega
     clear hwA hN2 tA bA g1 g2 g3 hsv
     go_wp2_with fail
     rw[←HwA.out.1, ←HwA.out.2]
     clear e0 e1 a0 a1 a2
     refine wp_region_quiet_below (by kernel_rfl) (by kernel_rfl) ?_
     repeat (go_big_quiet_step ((go_at_call 58;exact cS _ _)))
     refine wpQuiet_nil ?_
     rintro w1 ⟨pp,rfl⟩
     have HT2:Hid (Tch (fun _=>False) w0 (grow (redrawn wA pp.d) pp.os)):=HTA.out pp
     clear cS f0 f1 f2 f3 f4 HTA
     cases sv with
     |false=>
      have HE:Hid (out=false):=by
       show out=false
       rw[HO.out]
       have:ss.all (fun z=>m.sees z.1.mn z.1.mx z.1.on 0 x9)=false:=by
        rw[List.all_eq_false]
        exact⟨_,List.mem_of_getElem? Hz.out.1,by rw[←Hsv.out];simp⟩
       rw[this];rfl
      go_wp2_with fail
      go_ret
      exact⟨by rw[HE.out];rfl,HT0.out.trans' HT2.out⟩
     |true=>
      have HP2:Hid ((ss.take (i+1)).all (fun z=>m.sees z.1.mn z.1.mx z.1.on 0 x9)=true):=by
       show _=true
       rw[List.take_add_one,Hz.out.1,List.all_append,HP.out]
       simp only[Option.toList_some,List.all_cons,List.all_nil,Bool.true_and,Bool.and_true]
       exact Hsv.out.symm
      go_wp2_with fail
      go_roundw
      case rel=>exact⟨i+1,by go_num,by omega,HT2,HP2⟩
      case measure=>(simp[intOf]<;>omega)
    ·have HE:Hid (out=true):=by
      show out=true
      rw[HO.out]
      have e:ss.take i=ss:=List.take_of_length_le (by have:=Hln.out;omega)
      rw[e] at HP
      rw[HP.out];rfl
     have hii:i=ln:=by omega
     subst hii
     go_wp2_with fail
     go_ret
     exact⟨by rw[HE.out];rfl,HT0.out.trans' HT.out⟩
def bl (f:Nat→Bool) (n:Nat):List Value:=(List.range n).map (fun i=>Value.bool (f i))
theorem bl_len (f:Nat→Bool) (n:Nat):(bl f n).length=n:=by simp[bl]
theorem bl_get (f:Nat→Bool) {n i:Nat} (h:i<n):(bl f n)[i]? =some (.bool (f i)):=by
 unfold bl
 rw[List.getElem?_map,List.getElem?_range h];rfl
theorem bl_set (f:Nat→Bool) (n k:Nat) (b:Bool):(bl f n).toArray.setIfInBounds k (.bool b)=(bl (fun i=>if i=k then b else f i) n).toArray:=by
 rw[List.setIfInBounds_toArray]
 congr 1
 apply List.ext_getElem?
 intro i
 rw[List.getElem?_set]
 rcases Nat.lt_or_ge i n with h|h
 ·rw[bl_get f h,bl_len,bl_get (fun i=>if i=k then b else f i) h]
  show _=some (Value.bool (if i=k then b else f i))
  by_cases e:k=i
  ·rw[if_pos e,if_pos (by omega),if_pos e.symm]
  ·rw[if_neg e,if_neg (fun h=>e h.symm)]
 ·have e1:(bl f n)[i]? =none:=List.getElem?_eq_none (by rw[bl_len];exact h)
  have e2:(bl (fun i=>if i=k then b else f i) n)[i]? =none:=List.getElem?_eq_none (by rw[bl_len];exact h)
  rw[e1,e2,bl_len]
  split
  ·rw[if_neg (by omega)]
  ·rfl
def NR (W:World) (rb:Nat) (f:Nat→Bool) (n:Nat):Prop:=W.heap[rb]? =some (.cells (bl f n).toArray 4 (0,0))
theorem NR.cell {W:World} {rb n i:Nat} {f:Nat→Bool} (h:NR W rb f n) (hi:i<n):W.cell? ⟨rb,i,none⟩=some (.bool (f i)):=by
 rw[blk_cell h,List.getElem?_toArray];exact bl_get f hi
theorem NR.set {W:World} {rb n:Nat} {f:Nat→Bool} (h:NR W rb f n) (k:Nat) (b:Bool):NR (W.setCell ⟨rb,k,none⟩ (.bool b)) rb (fun i=>if i=k then b else f i) n:=by
 unfold NR
 rw[←bl_set]
 exact blk_set h _
theorem NR.tch {S:Nat→Prop} {W W':World} {rb n:Nat} {f:Nat→Bool} (h:NR W rb f n) (t:Tch S W W') (hS: ¬S rb):NR W' rb f n:=(t.block rb (blk_lt h) hS).trans h
def lastIs (p:VV→Bool) (zs:List VV) (i:Nat):Bool:=match zs[i]? with
 |some z=>p z && !((zs.drop (i+1)).any p)
 |none=>false
theorem last_none {p:VV→Bool} {zs:List VV} (h: ∀z∈zs,p z=false) (i:Nat):lastIs p zs i=false:=by
 unfold lastIs
 cases e:zs[i]? with
 |none=>rfl
 |some z=>
  simp only
  rw[h z (List.mem_of_getElem? e)];rfl
theorem last_some {p:VV→Bool} {zs:List VV} {k:Nat} {z:VV} (hz:zs[k]? =some z) (hp:p z=true) (hl: ∀(j:Nat) (u:VV),k<j→zs[j]? =some u→p u=false) (i:Nat):lastIs p zs i=decide (i=k):=by
 have hdrop: ∀j,k<j→(zs.drop j).any p=false:=fun j hj=>by
  rw[List.any_eq_false]
  intro u hu
  obtain⟨a,ha⟩:=List.mem_iff_getElem?.1 hu
  rw[List.getElem?_drop] at ha
  rw[hl (j+a) u (by omega) ha];simp
 unfold lastIs
 rcases Nat.lt_trichotomy i k with h|h|h
 ·rw[decide_eq_false (by omega)]
  cases e:zs[i]? with
  |none=>rfl
  |some u=>
   have:(zs.drop (i+1)).any p=true:=by
    rw[List.any_eq_true]
    refine⟨z,List.mem_iff_getElem?.2 ⟨k - (i+1),?_⟩,hp⟩
    rw[List.getElem?_drop]
    have:i+1+(k - (i+1))=k:=by omega
    rw[this];exact hz
   simp only
   rw[this];simp
 ·subst h
  rw[hz]
  simp only
  rw[hp,hdrop (i+1) (by omega)];simp
 ·rw[decide_eq_false (by omega)]
  cases e:zs[i]? with
  |none=>rfl
  |some u=>
   simp only
   rw[hl i u h e];rfl
theorem mark_any (w:World) (cbx nbx rb:Nat) (co:Option Addr) (cc:Nat) (zs:List VV) (hreach:zs.length≤1000000) (hc:VRd w.heap.size w co zs) (p:VV→Bool) (fn:Nat) (first caps:Array Value) (hH:Holds w zs p fn first caps) (f:Nat→Bool)
  (c0:w.cell? ⟨cbx,0,none⟩=some (.slice co zs.length cc)) (c1:w.cell? ⟨nbx,0,none⟩=some (.slice (some ⟨rb,0,none⟩) zs.length zs.length)) (hr:NR w rb f zs.length):
  Calls Tryz.prog 80 #[.func (.func fn) first caps,.pointer (some ⟨cbx,0,none⟩),.pointer (some ⟨nbx,0,none⟩)] w fun x w'=>x= .returned (.tuple #[])∧NR w' rb (fun i=>f i||lastIs p zs i) zs.length∧Tch (fun i=>i=rb) w w':=by
 have q:=callsIn_wide.1 (place_in 5 (Nat.le_refl _) co cc zs hreach w hc p fn first caps hH)
 have HN:Hid (∀W,Tch (fun _=>False) w W→NR W rb f zs.length):=fun W t=>hr.tch t (fun h=>h)
 have HC:Hid (∀W,Tch (fun _=>False) w W→W.cell? ⟨nbx,0,none⟩=some (.slice (some ⟨rb,0,none⟩) zs.length zs.length)):=fun W t=>(t.cell (p:=⟨nbx,0,none⟩) (cell_lt c1) (fun h=>h)).trans c1
 obtain⟨ln,hln⟩: ∃ln,ln=zs.length:=⟨_,rfl⟩
 have Hln:Hid (ln=zs.length∧ln≤1000000):=⟨hln,by omega⟩
 rw[←hln] at q c0 HN HC ⊢
 clear hc hH c1 hr hln hreach
 go_enter Tryz.func80,Tryz.ntmps80
 go_wp2_with fail
 refine q.mono ?_
 rintro x w1 ⟨⟨r,rfl,hp⟩,t1⟩
 have HT:Hid (Tch (fun _=>False) w w1):=t1
 clear q t1 c0
 rcases hp with⟨rfl,hno⟩|⟨k,z,rfl,hz,hp,hla⟩
 ·have HNo:Hid (∀z∈zs,p z=false):=hno
  clear hno
  go_wp2_with fail
  go_end0
  have e:(fun i=>f i||lastIs p zs i)=f:=funext fun i=>by rw[last_none HNo.out,Bool.or_false]
  rw[e]
  exact⟨rfl,HN.out w1 HT.out,HT.out.mono (fun _ _ h=>h.elim)⟩
 ·have hk:k<ln:=by have:=(List.getElem?_eq_some_iff.1 hz).1;have:=Hln.out.1;omega
  have HE:Hid ((fun i=>f i||lastIs p zs i)=fun i=>if i=k then true else f i):=by
   show _=_
   funext i
   rw[last_some hz hp hla]
   by_cases e:i=k
   ·rw[if_pos e,decide_eq_true e,Bool.or_true]
   ·rw[if_neg e,decide_eq_false e,Bool.or_false]
  have d0:=HC.out w1 HT.out
  have d1:=(HN.out w1 HT.out).cell hk
  have fz:=fun i=>blk_frozen (HN.out w1 HT.out) i
  have hkl:(k:Int)<(ln:Int):=by omega
  have hk0:(0:Int)≤(k:Int):=by omega
  have hl6:ln≤1000000:=Hln.out.2
  clear hz hp hla
  go_wp2_with fail
  go_end0
  rw[HE.out]
  exact⟨rfl,(HN.out w1 HT.out).set k true,(HT.out.mono (fun _ _ h=>h.elim)).trans (Tch.setCell (fun i=>i=rb) w1 ⟨rb,k,none⟩ (.bool true) rfl) (fun _ _ h=>h)⟩
section
variable {α:Type}
def byI (nd:Nat→Bool):Nat→List α→List α
 |_,[]=>[]
 |i,v::r=>if nd i then v::byI nd (i+1) r else byI nd (i+1) r
theorem byI_cons (nd:Nat→Bool) (i:Nat) (v:α) (r:List α):byI nd i (v::r)=if nd i then v::byI nd (i+1) r else byI nd (i+1) r:=rfl
theorem byI_app (nd:Nat→Bool): ∀(i:Nat) (a b:List α),byI nd i (a++b)=byI nd i a++byI nd (i+a.length) b
 |_,[],_=>rfl
 |i,v::a,b=>by
  have ih:=byI_app nd (i+1) a b
  have e:i+1+a.length=i+(v::a).length:=by rw[List.length_cons];omega
  rw[e] at ih
  rw[List.cons_append,byI_cons,byI_cons,ih]
  split<;>rfl
theorem byI_sub (nd:Nat→Bool): ∀(i:Nat) (a:List α),(byI nd i a).Sublist a
 |_,[]=>List.Sublist.refl _
 |i,v::a=>by
  rw[byI_cons]
  split
  ·exact(byI_sub nd (i+1) a).cons_cons v
  ·exact(byI_sub nd (i+1) a).cons v
theorem byI_step (nd:Nat→Bool) {l:List α} {k:Nat} {z:α} (hz:l[k]? =some z):byI nd 0 (l.take (k+1))=byI nd 0 (l.take k)++(if nd k then[z] else[]):=by
 have hk:=(List.getElem?_eq_some_iff.1 hz).1
 rw[List.take_add_one,hz,Option.toList_some,byI_app,List.length_take,Nat.min_eq_left (Nat.le_of_lt hk),Nat.zero_add]
 congr 1
theorem drop_snoc (g:α→Bool) (z:α): ∀a:List α,(a++[z]).dropWhile g=if a.dropWhile g=[] then(if g z then[] else[z]) else a.dropWhile g++[z]
 |[]=>by
  rw[List.nil_append]
  cases h:g z with
  |true=>rw[List.dropWhile_cons_of_pos h];rfl
  |false=>rw[List.dropWhile_cons_of_neg (by rw[h];simp)];rfl
 |v::a=>by
  rw[List.cons_append]
  cases h:g v with
  |true=>rw[List.dropWhile_cons_of_pos h,List.dropWhile_cons_of_pos h];exact drop_snoc g z a
  |false=>rw[List.dropWhile_cons_of_neg (by rw[h];simp),List.dropWhile_cons_of_neg (by rw[h];simp)];rfl
theorem byI_keep {P:α→Bool} {Q:List (α→Bool)} {nd:Nat→Bool} : ∀(r:List α) (k:Nat),(∀j v,r[j]? =some v→nd (k+j)=(P v||Q.any (fun p=>p v && !((r.drop (j+1)).any p))))→byI nd k r=F.keepL P Q r
 |[],_,_=>rfl
 |v::r,k,h=>by
  have h0:=h 0 v rfl
  have ih:=byI_keep r (k+1) (fun j u hj=>by
   have:=h (j+1) u hj
   rw[show k+(j+1)=k+1+j by omega] at this
   exact this)
  have h0:nd k=(P v||Q.any (fun p=>p v && !(r.any p))):=h0
  rw[byI_cons,F.keepL_cons,h0,ih]
end
def onI (m:Mg) (zs:List VV) (i:Nat):Bool:=match zs[i]? with
 |some z=>F.onB m z.1.wr
 |none=>false
def pK (m:Mg) (x:Option F.Sp):VV→Bool:=fun z=>F.kdB m x z.1.wr
def ndAll (m:Mg) (l:List F.Sp) (zs:List VV) (i:Nat):Bool:=onI m zs i||(F.kds l).any (fun x=>lastIs (pK m x) zs i)
def needVV (m:Mg) (l:List F.Sp) (zs:List VV):List VV:=(F.keepL (fun z=>F.onB m z.1.wr) ((F.kds l).map (pK m)) zs).dropWhile (fun z=>F.gfa m l z.1)
theorem needVV_fst (m:Mg) (l:List F.Sp) (zs:List VV):(needVV m l zs).map (·.1)=F.needV m l (zs.map (·.1)):=by
 unfold needVV F.needV
 rw[F.keepL_map,List.map_map,List.dropWhile_map]
 rfl
theorem needVV_sub (m:Mg) (l:List F.Sp) (zs:List VV):(needVV m l zs).Sublist zs:=(List.dropWhile_sublist _).trans (F.keepL_sub _ _ zs)
theorem needVV_eq (m:Mg) (l:List F.Sp) (zs:List VV):(byI (ndAll m l zs) 0 zs).dropWhile (fun z=>F.gfa m l z.1)=needVV m l zs:=by
 unfold needVV
 congr 1
 refine byI_keep zs 0 (fun j v hj=>?_)
 rw[Nat.zero_add]
 unfold ndAll onI
 rw[hj]
 simp only
 congr 1
 rw[List.any_map]
 congr 1
 funext x
 unfold lastIs
 rw[hj];rfl
structure ND (w W:World) (cbx nbx rb:Nat) (co:Option Addr) (cc:Nat) (zs:List VV) (f:Nat→Bool):Prop where
 t:Tch (fun _=>False) w W
 cb:W.heap[cbx]? =some (.cells #[.slice co zs.length cc] 72 (0,0))
 nb:W.heap[nbx]? =some (.cells #[.slice (some ⟨rb,0,none⟩) zs.length zs.length] 138 (0,0))
 r:NR W rb f zs.length
 lo:w.heap.size≤rb
section
variable {w W W':World} {cbx nbx rb:Nat} {co:Option Addr} {cc:Nat} {zs:List VV} {f f':Nat→Bool}
theorem ND.no (h:ND w W cbx nbx rb co cc zs f) (t:Tch (fun _=>False) W W'):ND w W' cbx nbx rb co cc zs f:=
 ⟨h.t.trans' t,(t.block _ (blk_lt h.cb) (fun h=>h)).trans h.cb,(t.block _ (blk_lt h.nb) (fun h=>h)).trans h.nb,h.r.tch t (fun h=>h),h.lo⟩
theorem ND.mark (h:ND w W cbx nbx rb co cc zs f) (hr:NR W' rb f' zs.length) (t:Tch (fun i=>i=rb) W W'):ND w W' cbx nbx rb co cc zs f':=by
 have h1:cbx≠rb:=fun e=>by
  have h1:=h.cb
  have h2:W.heap[rb]? =_:=h.r
  rw[e,h2] at h1
  injection h1 with h1
  injection h1 with _ h1
  exact absurd h1 (by decide)
 have h2:nbx≠rb:=fun e=>by
  have h1:=h.nb
  have h2:W.heap[rb]? =_:=h.r
  rw[e,h2] at h1
  injection h1 with h1
  injection h1 with _ h1
  exact absurd h1 (by decide)
 exact⟨h.t.trans t (fun i hi e=>by have:=h.lo;omega),(t.block _ (blk_lt h.cb) h1).trans h.cb,(t.block _ (blk_lt h.nb) h2).trans h.nb,hr,h.lo⟩
theorem ND.c0 (h:ND w W cbx nbx rb co cc zs f):W.cell? ⟨cbx,0,none⟩=some (.slice co zs.length cc):=by rw[blk_cell h.cb];rfl
theorem ND.n0 (h:ND w W cbx nbx rb co cc zs f):W.cell? ⟨nbx,0,none⟩=some (.slice (some ⟨rb,0,none⟩) zs.length zs.length):=by rw[blk_cell h.nb];rfl
end
theorem info_bool:(Tryz.prog.info? 4).map (fun i=>(i.zero,i.size,i.bytes))=some (some (.bool false),1,1):=by kernel_rfl
theorem mk_bools (n:Nat) (hn:n≤1000000) (w:World):(Instr.makeSlice 138 (.int .i64 n) (.int .i64 n)).run Tryz.prog w= .ok (.slice (some ⟨w.heap.size,0,none⟩) n n) (w.alloc (.cells (bl (fun _=>false) n).toArray 4)):=by
 obtain⟨i0,hi,hz0,hz1,hz2⟩:=info_parts info_bool
 have h:=run_make (P:=Tryz.prog) w 138 4 i0 (.bool false) Tryz.underlying138 hi hz0 .i64 .i64 n n (by omega) (Int.le_refl _) (by rw[hz2];omega) (by omega)
 rw[h,hz1]
 have e:madeCells (Value.bool false).cells ((n:Int).toNat*1)=(bl (fun _=>false) n).toArray:=by
  have h1:=toList_madeCells_one (.bool false) ((n:Int).toNat*1)
  have h2:(madeCells (Value.bool false).cells ((n:Int).toNat*1)).toList=bl (fun _=>false) n:=by
   refine h1.trans ?_
   simp[bl,List.map_const']
  rw[←h2]
 rw[e];simp
end Go.Proofs.YtppokgdofgigfaaGreat
