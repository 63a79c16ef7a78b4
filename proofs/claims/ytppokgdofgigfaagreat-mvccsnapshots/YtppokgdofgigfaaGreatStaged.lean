import Derived.Test.YtppokgdofgigfaaGreatXNum2
import Derived.Deep.AppendLies
import Derived.Maps.AppendAt
import Derived.Lib.BufferMore
import Derived.StillTail
import Derived.Deep.Quiet
set_option maxHeartbeats 1000000
set_option maxRecDepth 100000
namespace Go.Proofs.YtppokgdofgigfaaGreat
open Go.RowKit Go Go.Sort
theorem MG.at {w:World} {b:Nat} {m:Mg} {σ:Nat→Option Nat} {mb:Nat} {bl:Nat→Nat} (h:MG w b m σ mb bl) {k:Int} {t:Tx} {i:Int} (hf:fnd m.tx k=some (t,i)):
  XB w σ (bl t.x) t∧(i= -1∨ ∃k:Nat,i=k∧k<t.ps.length)∧t.ps.length≤64∧(1≤t.st∧t.st≤4)∧lkB bl m.tx k=some (bl t.x,i)∧t∈m.tx:=by
 obtain⟨hm,hi⟩:=fnd_mem hf
 refine⟨h.xs t hm,?_,h.wf.ln t hm,h.wf.st t hm,by simp[lkB,hf],hm⟩
 rcases hi with⟨h1,_⟩|⟨k',p,h1,_,h2,_⟩
 ·exact Or.inl h1
 ·exact Or.inr ⟨k',h1,(List.getElem?_eq_some_iff.1 h2).1⟩
theorem lk_none {bl:Nat→Nat} {L:List Tx} {k:Int} (hf:fnd L k=none):lkB bl L k=none:=by simp[lkB,hf]
section
variable (b:Nat) (m:Mg) (σ:Nat→Option Nat) (mb:Nat) (bl:Nat→Nat) (w:World) (h:MG w b m σ mb bl)
include h
theorem noneLeft_any:Calls Tryz.prog 33 #[.pointer (some ⟨b,0,none⟩)] w fun x w'=>x= .returned (.bool (decide (2147483647<m.nx)))∧w'=w:=by
 have c1:=h.c1
 go_enter Tryz.func33,Tryz.ntmps33
 go_wp2
 go_ret
 have e:decide ((2147483647:Int)<(m.nx:Int))=decide (2147483647<m.nx):=decide_eq_decide.2 (by omega)
 refine⟨?_,rfl⟩
 rw[←e];rfl
theorem state_any (k:Int) (h1: -9223372036854775808≤k) (h2:k≤9223372036854775807):Calls Tryz.prog 90 #[.pointer (some ⟨b,0,none⟩),.int .i64 k] w fun x w'=>x= .returned (.int .i64 (m.state k))∧Tch (fun _=>False) w w':=by
 have c0:=h.c0
 have q:=find_any b m σ mb bl k w h h1 h2
 cases hf:fnd m.tx k with
 |none=>
  have HM:Hid (m.state k=0):=by show _=_;simp[Mg.state,hf,stE]
  rw[lk_none hf] at q
  have qs:=fun W=>state_none W
  simp only[numV] at q qs
  clear h hf h1 h2
  go_enter Tryz.func90,Tryz.ntmps90
  go_wp2_with fail
  refine q.mono ?_
  rintro x w1 ⟨rfl,t1⟩
  clear q
  have T:Hid (Tch (fun _=>False) w w1):=t1
  clear t1 c0
  go_wp2_with fail
  refine(qs _).mono ?_
  rintro x w2 ⟨rfl,t2⟩
  clear qs
  have T2:Hid (Tch (fun _=>False) w w2):=T.out.trans' t2
  clear t2
  go_wp2
  go_ret
  exact⟨by rw[HM.out];rfl,T2.out⟩
 |some a=>
  obtain⟨t,i⟩:=a
  obtain⟨hx,hi,h64,_,hlk,_⟩:=h.at hf
  have HM:Hid (m.state k=stE (some (t,i))):=by show _=_;simp[Mg.state,hf]
  rw[hlk] at q
  have qs:=fun W (hW:Tch (fun _=>False) w W)=>state_some σ (bl t.x) t i W (hx.tch hW (fun _ _ h=>h.elim) (fun _ _ h=>h)) hi h64
  obtain⟨e,he⟩: ∃e,e=stE (some (t,i)):=⟨_,rfl⟩
  rw[←he] at qs HM
  simp only[numV] at q qs
  clear h hf h1 h2 hx hi h64 hlk he
  go_enter Tryz.func90,Tryz.ntmps90
  go_wp2_with fail
  refine q.mono ?_
  rintro x w1 ⟨rfl,t1⟩
  clear q
  have Q:=qs w1 t1
  have T:Hid (Tch (fun _=>False) w w1):=t1
  clear t1 c0 qs
  go_wp2_with fail
  refine Q.mono ?_
  rintro x w2 ⟨rfl,t2⟩
  clear Q
  have T2:Hid (Tch (fun _=>False) w w2):=T.out.trans' t2
  clear t2
  go_wp2
  go_ret
  exact⟨by rw[HM.out];rfl,T2.out⟩
def txE (o:Option (Nat×Int)):Value:=match o with
 |none=>.pointer none
 |some a=>if 0≤a.2 then .pointer none else .pointer (some ⟨a.1,0,none⟩)
theorem transaction_any (k:Int) (h1: -9223372036854775808≤k) (h2:k≤9223372036854775807):Calls Tryz.prog 74 #[.map (some mb),.int .i64 k] w fun x w'=>x= .returned (txE (lkB bl m.tx k))∧Tch (fun _=>False) w w':=by
 have hl:=h.look h1 h2
 obtain⟨o,ho⟩: ∃o,o=lkB bl m.tx k:=⟨_,rfl⟩
 rw[←ho] at hl ⊢
 have q:=fun W=>isPart_any o W
 clear h h1 h2 ho
 cases o with
 |none=>
  simp only[numV,isP] at q hl
  go_enter Tryz.func74,Tryz.ntmps74
  go_wp2_with fail
  refine(q _).mono ?_
  rintro x w1 ⟨rfl,t1⟩
  clear q hl
  have c0:w1.cell? ⟨w.heap.size,0,none⟩=some (.pointer none):=by rw[t1.cell (p:=⟨w.heap.size,0,none⟩) (by simp) (fun h=>h),blk_cell (alloc_new _ _)];rfl
  have T:Hid (Tch (fun _=>False) w w1):=(Tch.alloc _ _ _).trans' t1
  clear t1
  go_wp2
  go_ret
  exact⟨rfl,T.out⟩
 |some a=>
  obtain⟨tb,i⟩:=a
  by_cases hi:0≤i
  ·have HE:Hid (txE (some (tb,i))= .pointer none):=by show _=_;simp[txE,hi]
   simp only[numV,isP,hi,decide_true] at q hl
   go_enter Tryz.func74,Tryz.ntmps74
   go_wp2_with fail
   refine(q _).mono ?_
   rintro x w1 ⟨rfl,t1⟩
   clear q hl
   have T:Hid (Tch (fun _=>False) w w1):=(Tch.alloc _ _ _).trans' t1
   clear t1
   go_wp2
   go_ret
   exact⟨by rw[HE.out];rfl,T.out⟩
  ·have HE:Hid (txE (some (tb,i))= .pointer (some ⟨tb,0,none⟩)):=by show _=_;simp[txE,hi]
   simp only[numV,isP,hi,decide_false] at q hl
   go_enter Tryz.func74,Tryz.ntmps74
   go_wp2_with fail
   refine(q _).mono ?_
   rintro x w1 ⟨rfl,t1⟩
   clear q hl
   have c0:w1.cell? ⟨w.heap.size,0,none⟩=some (.pointer (some ⟨tb,0,none⟩)):=by rw[t1.cell (p:=⟨w.heap.size,0,none⟩) (by simp) (fun h=>h),blk_cell (alloc_new _ _)];rfl
   have T:Hid (Tch (fun _=>False) w w1):=(Tch.alloc _ _ _).trans' t1
   clear t1
   go_wp2
   go_ret
   exact⟨by rw[HE.out];rfl,T.out⟩
end
end Go.Proofs.YtppokgdofgigfaaGreat
namespace Go.Proofs.YtppokgdofgigfaaGreat
open Go.RowKit Go
section
variable {P:Program} (w:World)
theorem run_append_keeps (base:Nat) (t ty e:TypeId) (i:TypeInfo) (z:Value) (size bytes:Nat) (ht:P.underlying t=some (.slice e)) (hi:P.info? e=some i) (hz:i.zero=some z)
  (hsize:i.size=size) (hby:i.bytes=bytes) (hzs:z.cells.size=size) (hsz:0<size)
  (v:Value) (n:Nat) (xs:List Value) (hown:w.ownsRow base e size v n xs)
  (a:Addr) (m c:Nat) (news:List Value) (hl:news.length=m*size) (hnews: ∀j u,news[j]? =some u→w.cell? (a.add j)=some u) (h1: ∀u∈news,u.oneCell'=true)
  (h63:n+m≤maxLen) (hbytes:(n+m)*bytes≤140737488355328) (hbase:base≤w.heap.size):
  ∃v' w',(Builtin.append_ #[t,t] ty #[v,.slice (some a) m c]).run P w= .ok v' w'∧w'.ownsRow base e size v' (n+m) (xs++news)∧w.grownBy w' v.ownBlock∧(v'.ownBlock=v.ownBlock∨v'.ownBlock=some w.heap.size)∧
   ∀b j,b<w.heap.size→(v.ownBlock=some b→j<n*size)→w'.cell? ⟨b,j,none⟩=w.cell? ⟨b,j,none⟩:=by
 obtain⟨v',w',hr,h2,h3,_,h5⟩:=run_append_own_at (P:=P) w base t ty e i z size bytes ht hi hz hsize hby hzs hsz v n xs hown a m c news hl hnews h1 h63 hbytes hbase
 refine⟨v',w',hr,h2,h3,h5,fun b j hb hj=>?_⟩
 by_cases hvb:v.ownBlock=some b
 ·rcases hown.2 with⟨rfl,rfl⟩|⟨g,cap,cur,rfl,hbg,hg,hnc,hcm,hcs,htake⟩
  ·cases hvb
  ·have hgb:g=b:=by simpa[Value.ownBlock] using hvb
   subst hgb
   have hj':=hj hvb
   by_cases hroom:n+m≤cap
   ·have hfit:n*i.size+news.length≤cur.size:=by rw[hl,hcs,hsize, ←Nat.add_mul];exact Nat.mul_le_mul_right _ hroom
    have hr2:=run_append_room (P:=P) w t ty e i ht hi g n cap cur hg a m c news (by rw[hsize];exact hl) hnews h1 hroom hfit
    rw[hr] at hr2
    simp only[Result.ok.injEq] at hr2
    obtain⟨rfl,rfl⟩:=hr2
    rw[h2.cellAt j (by rw[Nat.add_mul];omega),hown.cellAt j hj',List.getElem?_append_left (by rw[hown.1];exact hj')]
   ·have holds: ∀j u,xs[j]? =some u→w.cell? ((⟨g,0,none⟩:Addr).add j)=some u:=hown.cells (g:=g) rfl
    have hr2:=run_append_grow (P:=P) w t ty e i z ht hi hz ⟨g,0,none⟩ n cap xs (by rw[hsize];exact hown.1) holds a m c news (by rw[hsize];exact hl) hnews (by omega) (by simp only[maxLen] at h63;omega) (by rw[hby];exact growslice_fits (by omega) hbytes)
    rw[hr] at hr2
    simp only[Result.ok.injEq] at hr2
    obtain⟨_,rfl⟩:=hr2
    exact World.cell?_of_block (heap_alloc_old w.drew _ hb)
 ·exact World.cell?_of_block (h3.block b hb (fun e=>hvb e.symm))
end
theorem wpList_append_keeps {P:Program} (w:World) {ops:Array Oper} {rest:List Oper} {o:Oper} {a:Act} {Q:Exit→Act→World→Prop} (hgd:o.guard=none) (s x:Operand) (t:TypeId)
  (ho:o.op= .call { callee:= .builtin .append,args:=#[s,x],argTypes:=#[t,t] })
  (base:Nat) (e:TypeId) (i:TypeInfo) (z:Value) (size bytes:Nat) (ht:P.underlying t=some (.slice e)) (hi:P.info? e=some i) (hz:i.zero=some z)
  (hsize:i.size=size) (hby:i.bytes=bytes) (hzs:z.cells.size=size) (hsz:0<size)
  (v:Value) (n:Nat) (xs:List Value) (hs:a.eval s=v) (hown:w.ownsRow base e size v n xs)
  (ad:Addr) (m c:Nat) (news:List Value) (hx:a.eval x= .slice (some ad) m c) (hl:news.length=m*size) (hnews: ∀j u,news[j]? =some u→w.cell? (ad.add j)=some u) (h1: ∀u∈news,u.oneCell'=true)
  (h63:n+m≤maxLen) (hbytes:(n+m)*bytes≤140737488355328) (hbase:base≤w.heap.size)
  (h: ∀v' w',w'.ownsRow base e size v' (n+m) (xs++news)→w.grownBy w' v.ownBlock→(v'.ownBlock=v.ownBlock∨v'.ownBlock=some w.heap.size)→(∀b j,b<w.heap.size→(v.ownBlock=some b→j<n*size)→w'.cell? ⟨b,j,none⟩=w.cell? ⟨b,j,none⟩)→wpList P ops Q rest (a.put o.dst v') w'):
  wpList P ops Q (o::rest) a w:=by
 refine wpList_plain hgd fun K hK=>?_
 obtain⟨v',w',hr,h2,h3,h4,h5⟩:=run_append_keeps (P:=P) w base t o.type e i z size bytes ht hi hz hsize hby hzs hsz v n xs hown ad m c news hl hnews h1 h63 hbytes hbase
 unfold Oper.wp execOp
 simp only[ho,resolve,invoke,builtin,Sem.run_bind,Sem.run_pure,Result.andThen_ok,List.map_toArray,List.map_cons,List.map_nil,hs,hx,hr]
 exact hK _ _ (h v' w' h2 h3 h4 h5)
end Go.Proofs.YtppokgdofgigfaaGreat
namespace Go.Proofs.YtppokgdofgigfaaGreat
open Go.RowKit Go Go.Sort
theorem row_slice {w:World} {base:Nat} {t:TypeId} {sz n:Nat} {v:Value} {xs:List Value} (h:w.ownsRow base t sz v n xs): ∃ao c,v= .slice ao n c:=by
 rcases h.2 with⟨h1,h2⟩|⟨g,c,cur,h1,_⟩
 ·exact⟨none,0,by rw[h1,h2]⟩
 ·exact⟨_,c,h1⟩
theorem row_ge {w:World} {base:Nat} {t:TypeId} {sz n:Nat} {v:Value} {xs:List Value} (h:w.ownsRow base t sz v n xs) {k:Nat} (hk:v.ownBlock=some k):base≤k:=(h.lt k hk).1
theorem own_low {W:World} {N N' sz n:Nat} {t:TypeId} {v:Value} {xs:List Value} (h:W.ownsRow N t sz v n xs) (hN:N'≤N):W.ownsRow N' t sz v n xs:=by
 obtain⟨h1,h2⟩:=h
 refine⟨h1,?_⟩
 rcases h2 with h2|⟨g,c,cur,hv,hb,hr⟩
 ·exact Or.inl h2
 ·exact Or.inr ⟨g,c,cur,hv,Nat.le_trans hN hb,hr⟩
theorem grown_at {W W1 w1:World} {row:Option Nat} (t:Tch (fun _=>False) W W1) (h:W1.grownBy w1 row):Tch (fun i=>row=some i) W w1:=
 (t.mono (fun _ _ h=>h.elim)).trans' ⟨h.os,h.tape,h.output,h.size,fun k hk hn=>h.block k hk (fun e=>hn e.symm)⟩
theorem add_plain (b o j:Nat):(⟨b,o,none⟩:Addr).add j=⟨b,o+j,none⟩:=by unfold Addr.add;split<;>simp_all
theorem info_int:(Tryz.prog.info? 3).map (fun i=>(i.zero,i.size,i.bytes))=some (some (.int .i64 0),1,8):=by kernel_rfl
theorem ieq_nil_no (ad:Addr) (n c:Nat) (w:World):(binOp .eql 23 (.slice (some ad) n c) (.slice none 0 0)).run Tryz.prog w= .ok (.bool false) w:=Lib.run_eql_slice_some_nil w ad n c Tryz.underlying23
theorem ieq_nil_yes (w:World):(binOp .eql 23 (.slice none 0 0) (.slice none 0 0)).run Tryz.prog w= .ok (.bool true) w:=Lib.run_eql_slice_nil_nil w 0 0 Tryz.underlying23
theorem icl_one (l:List Nat): ∀u∈icl l,u.oneCell'=true:=fun u hu=>by
 unfold icl at hu
 rw[List.mem_map] at hu
 obtain⟨a,_,rfl⟩:=hu
 rfl
theorem sclone_any (l:List Nat) (v:Value) (base:Nat) (w:World) (h:w.ownsRow base 3 1 v l.length (icl l)) (hlen:l.length*8≤140737488351232):
  Calls Tryz.prog 59 #[v] w fun x w'=>(∃v',x= .returned v'∧w'.ownsRow w.heap.size 3 1 v' l.length (icl l))∧Tch (fun _=>False) w w':=by
 rcases h.2 with⟨rfl,h0⟩|⟨g,c,cur,rfl,_,hg,_,_,_,_⟩
 ·obtain rfl:l=[]:=List.length_eq_zero_iff.1 h0
  have he:=ieq_nil_yes
  clear h
  go_enter Tryz.func59,Tryz.ntmps59
  go_wp2
  go_ret
  exact⟨⟨_,rfl,rfl,Or.inl ⟨rfl,rfl⟩⟩,Tch.refl _ _⟩
 ·obtain⟨i0,hi,hz0,hz1,hz2⟩:=info_parts info_int
  have he:=ieq_nil_no ⟨g,0,none⟩ l.length c
  obtain⟨w0,hw0⟩: ∃w0,w0=w.alloc (.cells #[] 3):=⟨_,rfl⟩
  have t0:Tch (fun _=>False) w w0:=by rw[hw0];exact Tch.alloc _ _ _
  have hown:w0.ownsRow w.heap.size 3 1 (.slice (some ⟨w.heap.size,0,none⟩) 0 0) 0 []:=⟨rfl,Or.inr ⟨w.heap.size,0,#[],rfl,Nat.le_refl _,by rw[hw0];exact alloc_new _ _,Nat.le_refl _,by unfold maxLen;omega,rfl,rfl⟩⟩
  have Hcl:Hid (∀j u,(icl l)[j]? =some u→w0.cell? ((⟨g,0,none⟩:Addr).add j)=some u):=fun j u hu=>(own_tch h t0 (fun _ _ h=>h)).cells (g:=g) rfl j u hu
  have Hown:Hid (w0.ownsRow w.heap.size 3 1 (.slice (some ⟨w.heap.size,0,none⟩) 0 0) 0 []):=hown
  have Hw0:Hid _:=hw0
  have Hsz:Hid (w.heap.size≤w0.heap.size):=t0.size
  clear h hown hw0 hg
  go_enter Tryz.func59,Tryz.ntmps59
  go_wp2_with (at_builtin;have hw0:=Hw0.out;rw[←hw0];clear hw0;refine wpList_append_keeps _ rfl _ _ 23 rfl w.heap.size 3 i0 (.int .i64 0) 1 8 Tryz.underlying23 hi hz0 hz1 hz2 rfl (by decide) (.slice (some ⟨w.heap.size,0,none⟩) 0 0) 0 [] rfl Hown.out ⟨g,0,none⟩ l.length c (icl l) rfl (by rw[icl_len];omega) Hcl.out (icl_one l) (by unfold maxLen;omega) (by omega) Hsz.out ?_;intro v1 w1 hown1 hgr1 hat1 _;have HF:Hid (w1.ownsRow w.heap.size 3 1 v1 l.length (icl l)):=(by have h1:=hown1;rw[Nat.zero_add,List.nil_append] at h1;exact h1);have HT:Hid (Tch (fun _=>False) w w1):=(t0.trans (grown_at (Tch.refl (fun _=>False) w0) hgr1) (fun i hi e=>by have:=row_ge Hown.out e;omega));obtain⟨o1,c1,hv1⟩:=row_slice HF.out;subst hv1)
  go_ret
  exact⟨⟨_,rfl,HF.out⟩,HT.out⟩
theorem on_le {m:Mg} (h:Wf m):m.on.length≤2147483648:=by
 have hu:m.on.Pairwise (· < ·):=by
  rw[h.on,List.pairwise_map]
  exact(h.up.filter _).imp (fun h=>h)
 have hb: ∀x∈m.on,x<m.nx:=fun x hx=>by
  rw[h.on] at hx
  obtain⟨t,ht,rfl⟩:=List.mem_map.1 hx
  exact(h.lo t (List.mem_filter.1 ht).1).2
 have key: ∀(l:List Nat) (k n:Nat),l.Pairwise (· < ·)→(∀x∈l,k≤x∧x<n)→l.length≤n - k:=by
  intro l
  induction l with
  |nil=>intro k n _ _;simp
  |cons a r ih=>
   intro k n hp hx
   have h1:=hx a (by simp)
   have h2:=ih (a+1) n (List.pairwise_cons.1 hp).2 (fun x hx'=>⟨(List.pairwise_cons.1 hp).1 x hx',(hx x (by simp[hx'])).2⟩)
   simp only[List.length_cons];omega
 have:=key m.on 0 m.nx hu (fun x hx=>⟨Nat.zero_le _,hb x hx⟩)
 have:=h.n2
 omega
theorem open_any (b:Nat) (m:Mg) (σ:Nat→Option Nat) (mb:Nat) (bl:Nat→Nat) (w:World) (h:MG w b m σ mb bl):
  Calls Tryz.prog 32 #[.pointer (some ⟨b,0,none⟩)] w fun x w'=>(∃v',x= .returned v'∧w'.ownsRow w.heap.size 3 1 v' m.on.length (icl m.on))∧Tch (fun _=>False) w w':=by
 obtain⟨ov,h1,h2,_⟩:=h.blk
 have c2:w.cell? ⟨b,2,none⟩=some ov:=by rw[blk_cell h1];rfl
 have hl:=on_le h.wf
 have q:=sclone_any m.on ov 0 w h2 (by omega)
 clear h h1 h2 hl
 go_enter Tryz.func32,Tryz.ntmps32
 go_wp2_with fail
 refine q.mono ?_
 rintro x w1 ⟨⟨v',rfl,hv⟩,t1⟩
 clear q
 obtain⟨o1,c1,rfl⟩:=row_slice hv
 have HV:Hid _:=hv
 have HT:Hid _:=t1
 clear hv t1
 go_wp2
 go_ret
 exact⟨⟨_,rfl,HV.out⟩,HT.out⟩
def IR (w:World) (ao:Option Addr) (l:List Int):Prop:= ∀k n,l[k]? =some n→ ∃g o,ao=some ⟨g,o,none⟩∧w.cell? ⟨g,o+k,none⟩=some (.int .i64 n)
theorem IR.no {w w':World} {ao:Option Addr} {l:List Int} (h:IR w ao l) (t:Tch (fun _=>False) w w'):IR w' ao l:=fun k n hk=>by
 obtain⟨g,o,e,hc⟩:=h k n hk
 exact⟨g,o,e,by rw[t.cell (p:=⟨g,o+k,none⟩) (cell_lt hc) (fun h=>h)];exact hc⟩
theorem index_any (l:List Int) (ao:Option Addr) (c:Nat) (x:Int) (w:World) (h:IR w ao l) (hl:l.length≤9223372036854775807):
  Calls Tryz.prog 100 #[.slice ao l.length c,.int .i64 x] w fun y w'=>(∃r:Int,y= .returned (.int .i64 r)∧(0≤r ↔ x∈l))∧w'=w:=by
 obtain⟨n,hn⟩: ∃n,n=l.length:=⟨_,rfl⟩
 rw[←hn] at hl ⊢
 have Hn:Hid (n=l.length):=hn
 have HI:Hid (IR w ao l):=h
 clear h hn
 go_enter Tryz.func100,Tryz.ntmps100
 go_wp2_with fail
 go_loopw [8] (fun i wr=> ∃k:Nat,i= .int .i64 k∧k≤n∧wr=w∧Hid (∀j y,j<k→l[j]? =some y→y≠x)) (fun i _=>n - (intOf i).toNat)
 case atStart=>exact⟨0,rfl,by omega,rfl,fun _ _ h=>by omega⟩
 case round=>
  obtain⟨k,rfl,hk,hwr,HK⟩:=hrel
  subst hwr
  by_cases hlt:(k:Int)<n
  ·have hkl:k<l.length:=by have:=Hn.out;omega
   obtain⟨y,hy⟩: ∃y,l[k]? =some y:=⟨_,List.getElem?_eq_getElem hkl⟩
   obtain⟨g,o,rfl,c2⟩:=HI.out k y hy
   by_cases he:x=y
   ·have HE:Hid ((0:Int)≤k ↔ x∈l):=⟨fun _=>by rw[he];exact List.mem_of_getElem? hy,fun _=>by omega⟩
    subst he
    clear hy
    go_wp2_with fail
    go_ret
    exact⟨⟨_,rfl,HE.out⟩,rfl⟩
   ·have HE:Hid (∀j y,j<k+1→l[j]? =some y→y≠x):=fun j y' hj hy'=>by
     rcases Nat.lt_or_ge j k with h1|h1
     ·exact HK.out j y' h1 hy'
     ·obtain rfl:j=k:=by omega
      rw[hy] at hy'
      injection hy' with e
      subst e
      exact fun e=>he e.symm
    have hne:(x==y)=false:=by simp[he]
    clear hy
    go_wp2_with fail
    go_roundw
    case rel=>exact⟨k+1,by go_num,by omega,trivial,HE⟩
    case measure=>simp[intOf];omega
  ·have HE:Hid ((0:Int)≤ -1 ↔ x∈l):=⟨fun h=>by omega,fun hm=>by
    obtain⟨j,hj⟩:=List.mem_iff_getElem?.1 hm
    have hjl:=(List.getElem?_eq_some_iff.1 hj).1
    exact absurd rfl (HK.out j x (by have:=Hn.out;omega) hj)⟩
   go_wp2_with fail
   go_ret
   exact⟨⟨_,rfl,HE.out⟩,rfl⟩
theorem contains_any (l:List Int) (ao:Option Addr) (c:Nat) (x:Int) (w:World) (h:IR w ao l) (hl:l.length≤9223372036854775807):
  Calls Tryz.prog 88 #[.slice ao l.length c,.int .i64 x] w fun y w'=>y= .returned (.bool (decide (x∈l)))∧w'=w:=by
 have q:=index_any l ao c x w h hl
 obtain⟨n,hn⟩: ∃n,n=l.length:=⟨_,rfl⟩
 rw[←hn] at q ⊢
 clear h hl hn
 go_enter Tryz.func88,Tryz.ntmps88
 go_wp2_with fail
 refine q.mono ?_
 rintro y w1 ⟨⟨r,rfl,hr⟩,hw⟩
 subst hw
 have e:decide (0≤r)=decide (x∈l):=decide_eq_decide.2 hr
 have HE:Hid _:=e
 clear q hr e
 go_wp2
 go_ret
 refine⟨?_,rfl⟩
 rw[←HE.out];rfl
theorem icl_snoc (l:List Nat) (x:Nat):icl (l++[x])=icl l++[.int .i64 x]:=by simp[icl]
end Go.Proofs.YtppokgdofgigfaaGreat
namespace Go.Proofs.YtppokgdofgigfaaGreat
open Go
def YS (P:Program) (o:Oper) (a:Act) (C:World→Prop) (W:World) (v:Value):Prop:=
 ∀(b:Act) (K:Act→World→Prop) (Q:Exit→Act→World→Prop),(∀W',C W'→K (b.put o.dst v) W')→o.upon P b K Q ((execOp a.eval o).run P W)
theorem YS.same {P:Program} {o:Oper} {a a':Act} {C:World→Prop} {W:World} {v:Value} (h:YS P o a C W v) (he:execOp a'.eval o=execOp a.eval o):YS P o a' C W v:=by
 unfold YS at*
 rw[he];exact h
end Go.Proofs.YtppokgdofgigfaaGreat
