import Derived.Test.YtppokgdofgigfaaGreatMPl3
import Derived.Maps.OwnSet
set_option maxHeartbeats 4000000
set_option maxRecDepth 100000
namespace Go.Proofs.YtppokgdofgigfaaGreat
open Go.RowKit Go Go.Sort
theorem Holds.tch {w w':World} {zs:List VV} {p:VV→Bool} {fn:Nat} {first caps:Array Value} (h:Holds w zs p fn first caps) (t:Tch (fun _=>False) w w'):Holds w' zs p fn first caps:=⟨h.enters,fun z W hz tW=>h.calls z W hz (t.trans' tW)⟩
theorem VRd.tch {w w':World} {ao:Option Addr} {zs:List VV} (h:VRd w.heap.size w ao zs) (t:Tch (fun _=>False) w w'):VRd w'.heap.size w' ao zs:=by
 rcases h.below (below_tch t (Nat.le_refl _)) with e|⟨g,e,hg,hc⟩
 ·exact .inl e
 ·exact .inr ⟨g,e,Nat.lt_of_lt_of_le hg t.size,hc⟩
def NwOut (p:VV→Bool) (zs:List VV) (x:Ending):Prop:=
 ((∀z∈zs,p z=false)∧x= .returned (.tuple #[.agg #[.int .i64 0,.bool false,.slice none 0 0],.bool false]))∨
 ∃(k:Nat) (z:VV),zs[k]? =some z∧p z=true∧(∀(j:Nat) (u:VV),k<j→zs[j]? =some u→p u=false)∧x= .returned (.tuple #[.agg #[.int .i64 z.1.wr,.bool z.1.th,.slice z.2.1 z.1.n z.2.2],.bool true])
theorem res_ver {fn:Func} {tmps:Array Value} {W:World} {B k j:Nat} {E:Bool} {a b c:Value} (hrs:fn.results=#[.cell k 69,.tmp j]) (hk:tmps[k]?.getD undef= .pointer (some ⟨B,0,none⟩)) (hj:tmps[j]?.getD undef= .bool E)
  (hb:W.heap[B]? =some (.cells #[a,b,c] 69 (0,0))):
  (results fn tmps).run Tryz.prog W= .ok (.tuple #[.agg #[a,b,c],.bool E]) W:=by
 have c0:W.cell? ⟨B,0,none⟩=some a:=by rw[blk_cell hb];rfl
 have c1:W.cell? ⟨B,1,none⟩=some b:=by rw[blk_cell hb];rfl
 have c2:W.cell? ⟨B,2,none⟩=some c:=by rw[blk_cell hb];rfl
 simp only[results,hrs]
 go_simp
def set3 (W:World) (N:Nat) (a b c:Value):World:=((W.setCell ⟨N,0,none⟩ a).setCell ⟨N,1,none⟩ b).setCell ⟨N,2,none⟩ c
theorem set3_blk {W:World} {N:Nat} {a b c x y z:Value} {t:TypeId} (h:W.heap[N]? =some (.cells #[a,b,c] t (0,0))):(set3 W N x y z).heap[N]? =some (.cells #[x,y,z] t (0,0)):=by
 have h1:=blk_set (i:=0) h x
 have h2:=blk_set (i:=1) h1 y
 have h3:=blk_set (i:=2) h2 z
 exact h3
theorem set3_tch (W:World) (N:Nat) (a b c:Value):Tch (fun i=>i=N) W (set3 W N a b c):=((Tch.setCell (fun i=>i=N) W ⟨N,0,none⟩ a rfl).setCellR ⟨N,1,none⟩ b rfl).setCellR ⟨N,2,none⟩ c rfl
theorem tch_new {w w1 w2:World} {N:Nat} (h:Tch (fun _=>False) w w1) (hN:w.heap.size≤N) (k:Tch (fun i=>i=N) w1 w2):Tch (fun _=>False) w w2:=h.trans k (fun i hi e=>by omega)
theorem rs_newest:Tryz.f29.results=#[.cell 4 69,.tmp 5]:=by kernel_rfl
theorem newest_any (ao:Option Addr) (cap:Nat) (zs:List VV) (hreach:zs.length≤1000000) (w:World) (hc:VRd w.heap.size w ao zs) (p:VV→Bool) (fn:Nat) (first caps:Array Value) (hH:Holds w zs p fn first caps):
  Calls Tryz.prog 29 #[.slice ao zs.length cap,.func (.func fn) first caps] w fun x w'=>NwOut p zs x∧Tch (fun _=>False) w w':=by
 obtain⟨N,hN⟩: ∃N,N=w.heap.size:=⟨_,rfl⟩
 obtain⟨w0,hw0⟩: ∃w0,w0=w.alloc (.cells #[.int .i64 0,.bool false,.slice none 0 0] 69):=⟨_,rfl⟩
 have t0:Tch (fun _=>False) w w0:=by rw[hw0];exact Tch.alloc _ _ _
 have b0:w0.heap[N]? =some (.cells #[.int .i64 0,.bool false,.slice none 0 0] 69 (0,0)):=by rw[hw0,hN];exact alloc_new _ _
 have q:=callsIn_wide.1 (place_in 5 (Nat.le_refl _) ao cap zs hreach w0 (hc.tch t0) p fn first caps (hH.tch t0))
 obtain⟨ln,hln⟩: ∃ln,ln=zs.length:=⟨_,rfl⟩
 have HV:Hid _:=hc.tch t0
 have HR:Hid (ln=zs.length∧ln≤1000000):=⟨hln,by omega⟩
 have HT0:Hid _:=t0
 have HB0:Hid _:=b0
 have HN:Hid _:=hN
 rw[←hln] at q ⊢
 have Hw0:Hid _:=hw0
 clear hH hc hreach hln hw0 t0 b0
 go_enter Tryz.func29,Tryz.ntmps29
 go_wp2_with fail
 have hw0:=Hw0.out
 rw[←hw0, ←hN]
 clear hw0 Hw0 hN
 refine q.mono ?_
 rintro x w1 ⟨⟨r,rfl,hp⟩,t1⟩
 clear q
 have b1:w1.heap[N]? =some (.cells #[.int .i64 0,.bool false,.slice none 0 0] 69 (0,0)):=by rw[t1.block N (blk_lt HB0.out) (fun h=>h)];exact HB0.out
 have T1:Hid (Tch (fun _=>False) w w1):=HT0.out.trans' t1
 have c0:w1.cell? ⟨N,0,none⟩=some (.int .i64 0):=by rw[blk_cell b1];rfl
 have c1:w1.cell? ⟨N,1,none⟩=some (.bool false):=by rw[blk_cell b1];rfl
 have c2:w1.cell? ⟨N,2,none⟩=some (.slice none 0 0):=by rw[blk_cell b1];rfl
 have f0:=fun i=>blk_frozen b1 i
 rcases hp with⟨rfl,hno⟩|⟨k,z,rfl,hz,hp,hla⟩
 ·have HNo:Hid _:=hno
  have HB1:Hid _:=b1
  clear hno b1 t1
  go_wp2
  refine bodyPost_ret (res_ver rs_newest rfl rfl (set3_blk HB1.out)) rfl ?_
  exact⟨.inl ⟨HNo.out,rfl⟩,tch_new T1.out (by have:=HN.out;omega) (set3_tch _ _ _ _ _)⟩
 ·obtain⟨hn1,hn2⟩:=HR.out
  have hk:k<zs.length:=(List.getElem?_eq_some_iff.1 hz).1
  rcases HV.out with⟨e,_⟩|⟨g,rfl,hg,hcs⟩
  ·rw[e] at hk;exact absurd hk (Nat.not_lt_zero _)
  obtain⟨e0,e1,e2⟩:=hcs k z hz
  have e0':w1.cell? ⟨g,k*3,none⟩=some (.int .i64 z.1.wr):=(t1.cell (p:=⟨g,k*3,none⟩) hg (fun h=>h)).trans e0
  have e1':w1.cell? ⟨g,k*3+1,none⟩=some (.bool z.1.th):=(t1.cell (p:=⟨g,k*3+1,none⟩) hg (fun h=>h)).trans e1
  have e2':w1.cell? ⟨g,k*3+2,none⟩=some (.slice z.2.1 z.1.n z.2.2):=(t1.cell (p:=⟨g,k*3+2,none⟩) hg (fun h=>h)).trans e2
  have hkl:(k:Int)<(ln:Int):=by omega
  have hk0: ¬(k:Int)<0:=by omega
  have hln:ln≤1000000:=hn2
  have HO:Hid (∃(k:Nat) (z':VV),zs[k]? =some z'∧p z'=true∧(∀(j:Nat) (u:VV),k<j→zs[j]? =some u→p u=false)∧z'=z):=⟨k,z,hz,hp,hla,rfl⟩
  have HB1:Hid _:=b1
  clear hn1 hn2 hz hp hla b1 t1 hcs e0 e1 e2 hg hk HV HR
  go_wp2
  refine bodyPost_ret (res_ver rs_newest rfl rfl (set3_blk HB1.out)) rfl ?_
  obtain⟨k',z',h1,h2,h3,rfl⟩:=HO.out
  exact⟨.inr ⟨k',z',h1,h2,h3,rfl⟩,tch_new T1.out (by have:=HN.out;omega) (set3_tch _ _ _ _ _)⟩
structure RdR (w:World) (ao:Option Addr) (n c:Nat) (cs:List Value):Prop where
 len:cs.length=n*3
 one: ∀u∈cs,u.oneCell'=true
 sm:n≤1000000
 at':(ao=none∧n=0∧c=0)∨ ∃g o,ao=some ⟨g,o,none⟩∧g<w.heap.size∧ ∀j u,cs[j]? =some u→w.cell? ⟨g,o+j,none⟩=some u
theorem RdR.tch {S:Nat→Prop} {w w':World} {ao:Option Addr} {n c:Nat} {cs:List Value} (h:RdR w ao n c cs) (t:Tch S w w') (hS: ∀a,ao=some a→ ¬S a.block):RdR w' ao n c cs:=by
 refine⟨h.len,h.one,h.sm,?_⟩
 rcases h.at' with e|⟨g,o,rfl,hg,hc⟩
 ·exact .inl e
 ·exact .inr ⟨g,o,rfl,Nat.lt_of_lt_of_le hg t.size,fun j u hu=>(t.cell (p:=⟨g,o+j,none⟩) hg (hS ⟨g,o,none⟩ rfl)).trans (hc j u hu)⟩
theorem RdR.no {w w':World} {ao:Option Addr} {n c:Nat} {cs:List Value} (h:RdR w ao n c cs) (t:Tch (fun _=>False) w w'):RdR w' ao n c cs:=h.tch t (fun _ _ h=>h)
theorem RdR.of_own {w:World} {base n:Nat} {ao:Option Addr} {c:Nat} {cs:List Value} (h:w.ownsRow base 79 3 (.slice ao n c) n cs) (h1: ∀u∈cs,u.oneCell'=true) (hs:n≤1000000):RdR w ao n c cs:=by
 refine⟨h.1,h1,hs,?_⟩
 rcases h.2 with⟨e,h0⟩|⟨g,cap,cur,e,_,hg,_⟩
 ·cases e;exact .inl ⟨rfl,h0,rfl⟩
 ·cases e
  refine .inr ⟨g,0,rfl,blk_lt hg,fun j u hu=>?_⟩
  have:=h.cells (g:=g) rfl j u hu
  rw[add_plain] at this
  exact this
theorem info_val:(Tryz.prog.info? 79).map (fun i=>(i.zero,i.size,i.bytes))=some (some (.agg #[.int .i64 0,.int .i64 0,.string ⟨#[]⟩]),3,32):=by kernel_rfl
theorem veq_nil_no (ad:Addr) (n c:Nat) (w:World):(binOp .eql 32 (.slice (some ad) n c) (.slice none 0 0)).run Tryz.prog w= .ok (.bool false) w:=Lib.run_eql_slice_some_nil w ad n c Tryz.underlying32
theorem veq_nil_yes (w:World):(binOp .eql 32 (.slice none 0 0) (.slice none 0 0)).run Tryz.prog w= .ok (.bool true) w:=Lib.run_eql_slice_nil_nil w 0 0 Tryz.underlying32
theorem rclone_any (ao:Option Addr) (n c:Nat) (cs:List Value) (w:World) (h:RdR w ao n c cs):
  Calls Tryz.prog 31 #[.slice ao n c] w fun x w'=>(∃ro rc,x= .returned (.slice ro n rc)∧w'.ownsRow w.heap.size 79 3 (.slice ro n rc) n cs)∧Tch (fun _=>False) w w':=by
 obtain⟨hlen,hone,hsm,hat⟩:=h
 rcases hat with⟨rfl,rfl,rfl⟩|⟨g,o,rfl,hg,hc⟩
 ·obtain rfl:cs=[]:=List.length_eq_zero_iff.1 hlen
  have he:=veq_nil_yes
  go_enter Tryz.func31,Tryz.ntmps31
  go_wp2
  go_ret
  exact⟨⟨_,_,rfl,rfl,Or.inl ⟨rfl,rfl⟩⟩,Tch.refl _ _⟩
 ·obtain⟨i0,hi,hz0,hz1,hz2⟩:=info_parts info_val
  have he:=veq_nil_no ⟨g,o,none⟩ n c
  obtain⟨w0,hw0⟩: ∃w0,w0=w.alloc (.cells #[] 79):=⟨_,rfl⟩
  have t0:Tch (fun _=>False) w w0:=by rw[hw0];exact Tch.alloc _ _ _
  have hown:w0.ownsRow w.heap.size 79 3 (.slice (some ⟨w.heap.size,0,none⟩) 0 0) 0 []:=⟨rfl,Or.inr ⟨w.heap.size,0,#[],rfl,Nat.le_refl _,by rw[hw0];exact alloc_new _ _,Nat.le_refl _,by unfold maxLen;omega,rfl,rfl⟩⟩
  have Hcl:Hid (∀j u,cs[j]? =some u→w0.cell? ((⟨g,o,none⟩:Addr).add j)=some u):=fun j u hu=>by rw[add_plain];exact(t0.cell (p:=⟨g,o+j,none⟩) hg (fun h=>h)).trans (hc j u hu)
  have Hown:Hid (w0.ownsRow w.heap.size 79 3 (.slice (some ⟨w.heap.size,0,none⟩) 0 0) 0 []):=hown
  have Hw0:Hid _:=hw0
  have Hsz:Hid (w.heap.size≤w0.heap.size):=t0.size
  clear hown hw0 hg hc
  go_enter Tryz.func31,Tryz.ntmps31
  go_wp2_with (at_builtin;have hw0:=Hw0.out;rw[←hw0];clear hw0;refine wpList_append_keeps _ rfl _ _ 32 rfl w.heap.size 79 i0 (.agg #[.int .i64 0,.int .i64 0,.string ⟨#[]⟩]) 3 32 Tryz.underlying32 hi hz0 hz1 hz2 rfl (by decide) (.slice (some ⟨w.heap.size,0,none⟩) 0 0) 0 [] rfl Hown.out ⟨g,o,none⟩ n c cs rfl hlen Hcl.out hone (by unfold maxLen;omega) (by omega) Hsz.out ?_;intro v1 w1 hown1 hgr1 hat1 _;have HF:Hid (w1.ownsRow w.heap.size 79 3 v1 n cs):=(by have h1:=hown1;rw[Nat.zero_add,List.nil_append] at h1;exact h1);have HT:Hid (Tch (fun _=>False) w w1):=(t0.trans (grown_at (Tch.refl (fun _=>False) w0) hgr1) (fun i hi e=>by have:=row_ge Hown.out e;omega));obtain⟨o1,c1,hv1⟩:=row_slice HF.out;subst hv1)
  go_ret
  exact⟨⟨_,_,rfl,HF.out⟩,HT.out⟩
theorem res_ver1 {fn:Func} {tmps:Array Value} {W:World} {B k:Nat} {a b c:Value} (hrs:fn.results=#[.cell k 69]) (hk:tmps[k]?.getD undef= .pointer (some ⟨B,0,none⟩))
  (hb:W.heap[B]? =some (.cells #[a,b,c] 69 (0,0))):
  (results fn tmps).run Tryz.prog W= .ok (.agg #[a,b,c]) W:=by
 have c0:W.cell? ⟨B,0,none⟩=some a:=by rw[blk_cell hb];rfl
 have c1:W.cell? ⟨B,1,none⟩=some b:=by rw[blk_cell hb];rfl
 have c2:W.cell? ⟨B,2,none⟩=some c:=by rw[blk_cell hb];rfl
 simp only[results,hrs]
 go_simp
theorem rs_filled:Tryz.f37.results=#[.cell 4 69]:=by kernel_rfl
theorem filled_any (wr:Int) (ao:Option Addr) (n c:Nat) (cs:List Value) (w:World) (h:RdR w ao n c cs):
  Calls Tryz.prog 37 #[.int .i64 wr,.slice ao n c] w fun x w'=>(∃ro rc,x= .returned (.agg #[.int .i64 wr,.bool true,.slice ro n rc])∧w'.ownsRow w.heap.size 79 3 (.slice ro n rc) n cs)∧Tch (fun _=>False) w w':=by
 obtain⟨N,hN⟩: ∃N,N=w.heap.size:=⟨_,rfl⟩
 obtain⟨w0,hw0⟩: ∃w0,w0=w.alloc (.cells #[.int .i64 0,.bool false,.slice none 0 0] 69):=⟨_,rfl⟩
 have t0:Tch (fun _=>False) w w0:=by rw[hw0];exact Tch.alloc _ _ _
 have b0:w0.heap[N]? =some (.cells #[.int .i64 0,.bool false,.slice none 0 0] 69 (0,0)):=by rw[hw0,hN];exact alloc_new _ _
 have hs0:w0.heap.size=N+1:=by rw[hw0,hN];simp
 have q:=rclone_any ao n c cs w0 (h.no t0)
 have HT0:Hid _:=t0
 have HB0:Hid _:=b0
 have HN:Hid (N=w.heap.size∧w0.heap.size=N+1):=⟨hN,hs0⟩
 have Hw0:Hid _:=hw0
 clear h t0 b0 hs0 hw0
 go_enter Tryz.func37,Tryz.ntmps37
 go_wp2_with fail
 have hw0:=Hw0.out
 rw[←hw0, ←hN]
 clear hw0 Hw0 hN
 refine q.mono ?_
 rintro x w1 ⟨⟨ro,rc,rfl,hr⟩,t1⟩
 clear q
 have b1:w1.heap[N]? =some (.cells #[.int .i64 0,.bool false,.slice none 0 0] 69 (0,0)):=by rw[t1.block N (blk_lt HB0.out) (fun h=>h)];exact HB0.out
 have T1:Hid (Tch (fun _=>False) w w1):=HT0.out.trans' t1
 have c0:w1.cell? ⟨N,0,none⟩=some (.int .i64 0):=by rw[blk_cell b1];rfl
 have c1:w1.cell? ⟨N,1,none⟩=some (.bool false):=by rw[blk_cell b1];rfl
 have c2:w1.cell? ⟨N,2,none⟩=some (.slice none 0 0):=by rw[blk_cell b1];rfl
 have f0:=fun i=>blk_frozen b1 i
 have HR:Hid _:=hr
 have HB1:Hid _:=b1
 clear hr b1 t1
 go_wp2
 refine bodyPost_ret (res_ver1 rs_filled rfl (set3_blk HB1.out)) rfl ?_
 obtain⟨h1,h2⟩:=HN.out
 refine⟨⟨ro,rc,rfl,own_low (own_tch HR.out (set3_tch _ _ _ _ _) (fun g hg e=>?_)) (by omega)⟩,tch_new T1.out (by omega) (set3_tch _ _ _ _ _)⟩
 have:=row_ge HR.out hg
 omega
theorem mayInsert_any (wr:Int) (th:Bool) (ao:Option Addr) (n c:Nat) (w:World):
  Calls Tryz.prog 38 #[.agg #[.int .i64 wr,.bool th,.slice ao n c]] w fun x w'=>x= .returned (.int .i64 (if th then 91 else 0))∧Tch (fun _=>False) w w':=by
 cases th
 ·go_enter Tryz.func38,Tryz.ntmps38
  go_wp2
  go_ret
  exact⟨rfl,Tch.alloc _ _ _⟩
 ·go_enter Tryz.func38,Tryz.ntmps38
  go_wp2
  go_ret
  exact⟨rfl,Tch.alloc _ _ _⟩
end Go.Proofs.YtppokgdofgigfaaGreat
namespace Go.Proofs.YtppokgdofgigfaaGreat
open Go.RowKit Go Go.Maps
def mapElem (v:Value):Option (DataW Unit×List MemPlace):=
 match v with
 | .map none=>some (.lit (.int .i64 (-1)),[])
 | .map (some b)=>some (.lit (.int .i64 b),[])
 |_=>none
def ptrElem (v:Value):Option (DataW Unit×List MemPlace):=
 match v with
 | .pointer none=>some (.lit (.int .i64 (-1)),[])
 | .pointer (some a)=>if a=⟨a.block,0,none⟩ then some (.lit (.int .i64 a.block),[]) else none
 |_=>none
def encB (b:Nat):DataW Unit:= .lit (.int .i64 b)
def atB (o:Option Nat) (zd:DataW Unit):DataW Unit:=match o with
 |some b=>encB b
 |none=>zd
def mapV:Option Nat→Value
 |none=>.map none
 |some b=>.map (some b)
def ptrV:Option Nat→Value
 |none=>.pointer none
 |some b=>.pointer (some ⟨b,0,none⟩)
theorem mapElem_inv {v:Value} {z:DataW Unit×List MemPlace} {o:Option Nat} (h:mapElem v=some z) (hz:z.1=atB o (.lit (.int .i64 (-1)))):v=mapV o:=by
 unfold mapElem at h
 split at h
 ·cases h
  cases o with
  |none=>rfl
  |some b=>simp[atB,encB] at hz
 ·cases h
  cases o with
  |none=>simp[atB] at hz
  |some b=>simp[atB,encB] at hz;simp[mapV];omega
 ·cases h
theorem ptrElem_inv {v:Value} {z:DataW Unit×List MemPlace} {o:Option Nat} (h:ptrElem v=some z) (hz:z.1=atB o (.lit (.int .i64 (-1)))):v=ptrV o:=by
 unfold ptrElem at h
 split at h
 ·cases h
  cases o with
  |none=>rfl
  |some b=>simp[atB,encB] at hz
 ·rename_i a
  split at h
  ·rename_i ha
   cases h
   cases o with
   |none=>simp[atB] at hz
   |some b=>
    simp[atB,encB] at hz
    rw[ha]
    simp[ptrV]
  ·cases h
 ·cases h
theorem mapElem_some (b:Nat):mapElem (.map (some b))=some (encB b,[]):=rfl
theorem ptrElem_some (b:Nat):ptrElem (.pointer (some ⟨b,0,none⟩))=some (encB b,[]):=by simp[ptrElem,encB]
structure En where
 k:Int
 s:List UInt8
 b:Nat
def lkT (T:List (Int×Nat)) (k:Int):Option Nat:=(T.find? (fun p=>decide (p.1=k))).map (·.2)
def lkE (E:List En) (k:Int) (s:List UInt8):Option Nat:=(E.find? (fun e=>decide (e.k=k∧e.s=s))).map (·.b)
theorem lkT_mem {T:List (Int×Nat)} {k:Int} {l:Nat} (h:lkT T k=some l):(k,l)∈T:=by
 unfold lkT at h
 cases hf:T.find? (fun p=>decide (p.1=k)) with
 |none=>rw[hf] at h;cases h
 |some p=>
  rw[hf] at h
  obtain⟨a,b⟩:=p
  have h1:=List.find?_some hf
  have h2:=List.mem_of_find?_eq_some hf
  simp at h h1
  subst h h1
  exact h2
theorem lkT_none {T:List (Int×Nat)} {k:Int} (h:lkT T k=none): ∀p∈T,p.1≠k:=by
 unfold lkT at h
 simp only[Option.map_eq_none_iff,List.find?_eq_none,decide_eq_true_eq] at h
 exact h
theorem lkE_mem {E:List En} {k:Int} {s:List UInt8} {b:Nat} (h:lkE E k s=some b):⟨k,s,b⟩∈E:=by
 unfold lkE at h
 cases hf:E.find? (fun e=>decide (e.k=k∧e.s=s)) with
 |none=>rw[hf] at h;cases h
 |some p=>
  rw[hf] at h
  obtain⟨a,c,d⟩:=p
  have h1:=List.find?_some hf
  have h2:=List.mem_of_find?_eq_some hf
  simp at h h1
  obtain⟨e1,e2⟩:=h1
  subst h e1 e2
  exact h2
theorem lkE_none {E:List En} {k:Int} {s:List UInt8} (h:lkE E k s=none): ∀e∈E, ¬(e.k=k∧e.s=s):=by
 unfold lkE at h
 simp only[Option.map_eq_none_iff,List.find?_eq_none,decide_eq_true_eq] at h
 exact h
theorem lkE_no {E:List En} {k:Int} {s:List UInt8} (h: ∀e∈E, ¬(e.k=k∧e.s=s)):lkE E k s=none:=by
 unfold lkE
 simp only[Option.map_eq_none_iff,List.find?_eq_none,decide_eq_true_eq]
 exact h
theorem lkE_of_mem {E:List En} (hE:E.Pairwise (fun e f=> ¬(e.k=f.k∧e.s=f.s))) {e:En} (he:e∈E):lkE E e.k e.s=some e.b:=by
 induction E with
 |nil=>cases he
 |cons f r ih=>
  obtain⟨h1,h2⟩:=List.pairwise_cons.1 hE
  rcases List.mem_cons.1 he with rfl|he
  ·simp[lkE]
  ·have hn: ¬(f.k=e.k∧f.s=e.s):=h1 e he
   have:=ih h2 he
   unfold lkE at this ⊢
   rw[List.find?_cons]
   simp only[decide_eq_false hn]
   exact this
theorem lkE_snoc (E:List En) (e:En) (k:Int) (s:List UInt8):lkE (E++[e]) k s=match lkE E k s with|some b=>some b|none=>if e.k=k∧e.s=s then some e.b else none:=by
 unfold lkE
 rw[List.find?_append]
 cases E.find? (fun e=>decide (e.k=k∧e.s=s)) with
 |some a=>rfl
 |none=>
  simp only[Option.none_or,Option.map_none,List.find?_cons]
  by_cases h:e.k=k∧e.s=s
  ·simp[h]
  ·simp[h]
theorem lkT_cons (p:Int×Nat) (T:List (Int×Nat)) (k:Int):lkT (p::T) k=if p.1=k then some p.2 else lkT T k:=by
 unfold lkT
 rw[List.find?_cons]
 by_cases h:p.1=k<;>simp[h]
def vrl (zs:List VV):List Value:=zs.flatMap (fun z=>[.int .i64 z.1.wr,.bool z.1.th,.slice z.2.1 z.1.n z.2.2])
theorem vrl_get: ∀(l:List VV) (k:Nat) (z:VV),l[k]? =some z→(vrl l)[k*3]? =some (.int .i64 z.1.wr)∧(vrl l)[k*3+1]? =some (.bool z.1.th)∧(vrl l)[k*3+2]? =some (.slice z.2.1 z.1.n z.2.2)
 |[],k,z,hk=>by simp at hk
 |a::l,0,z,hk=>by
  simp only[List.getElem?_cons_zero,Option.some.injEq] at hk
  subst hk
  simp[vrl]
 |a::l,k+1,z,hk=>by
  have:=vrl_get l k z (by simpa using hk)
  unfold vrl at this ⊢
  have e1:(k+1)*3=k*3+3:=by omega
  simp only[List.flatMap_cons]
  rw[e1]
  refine⟨?_,?_,?_⟩
  ·rw[List.getElem?_append_right (by simp)];simpa using this.1
  ·rw[List.getElem?_append_right (by simp)];simpa using this.2.1
  ·rw[List.getElem?_append_right (by simp)];simpa using this.2.2
theorem vrl_snoc (l:List VV) (z:VV):vrl (l++[z])=vrl l++[.int .i64 z.1.wr,.bool z.1.th,.slice z.2.1 z.1.n z.2.2]:=by simp[vrl]
structure VOK (w:World) (σ:Nat→Option Nat) (z:VV):Prop where
 own:w.ownsRow 0 79 3 (.slice z.2.1 z.1.n z.2.2) z.1.n z.1.cs
 lab: ∀g,(Value.slice z.2.1 z.1.n z.2.2).ownBlock=some g→σ g=some (2*g)
 one: ∀u∈z.1.cs,u.oneCell'=true
 sm:z.1.n≤1000000
 lo: -9223372036854775808≤z.1.wr
 hi:z.1.wr≤9223372036854775807
theorem VOK.tch {S:Nat→Prop} {w w':World} {σ σ':Nat→Option Nat} {z:VV} (h:VOK w σ z) (t:Tch S w w') (hS: ∀g,g<w.heap.size→S g→ ∀j,σ g≠some (2*j)) (hσ: ∀g,g<w.heap.size→σ g≠none→σ' g=σ g):VOK w' σ' z:=by
 refine⟨own_tch h.own t (fun g hg hs=>?_),fun g hg=>?_,h.one,h.sm,h.lo,h.hi⟩
 ·obtain⟨cur,hc⟩:=own_blk h.own hg
  exact hS g (blk_lt hc) hs g (h.lab g hg)
 ·obtain⟨cur,hc⟩:=own_blk h.own hg
  rw[hσ g (blk_lt hc) (by rw[h.lab g hg];exact fun h=>by cases h)];exact h.lab g hg
structure CB (w:World) (σ:Nat→Option Nat) (cb:Nat) (co:Option Addr) (cc:Nat) (zs:List VV):Prop where
 lab:σ cb=some (2*cb+1)
 blk:w.heap[cb]? =some (.cells #[.slice co zs.length cc] 72 (0,0))
 row:w.ownsRow 0 69 3 (.slice co zs.length cc) zs.length (vrl zs)
 rl: ∀g,(Value.slice co zs.length cc).ownBlock=some g→σ g=some (2*cb+1)
 ok: ∀z∈zs,VOK w σ z
theorem CB.tch {S:Nat→Prop} {w w':World} {σ σ':Nat→Option Nat} {cb:Nat} {co:Option Addr} {cc:Nat} {zs:List VV} (h:CB w σ cb co cc zs) (t:Tch S w w') (hS: ∀g,g<w.heap.size→S g→σ g≠some (2*cb+1)∧ ∀j,σ g≠some (2*j)) (hσ: ∀g,g<w.heap.size→σ g≠none→σ' g=σ g):CB w' σ' cb co cc zs:=by
 have hl:=blk_lt h.blk
 refine⟨(hσ cb hl (by rw[h.lab];exact fun h=>by cases h)).trans h.lab,?_,?_,fun g hg=>?_,fun z hz=>(h.ok z hz).tch t (fun g hg hs=>(hS g hg hs).2) hσ⟩
 ·rw[t.block cb hl (fun hs=>(hS cb hl hs).1 h.lab)];exact h.blk
 ·refine own_tch h.row t (fun g hg hs=>?_)
  obtain⟨cur,hc⟩:=own_blk h.row hg
  exact(hS g (blk_lt hc) hs).1 (h.rl g hg)
 ·obtain⟨cur,hc⟩:=own_blk h.row hg
  exact(hσ g (blk_lt hc) (by rw[h.rl g hg];exact fun h=>by cases h)).trans (h.rl g hg)
theorem row_ne {w:World} {base n sz:Nat} {t t':TypeId} {v:Value} {xs:List Value} {b:Nat} {cs:Array Value} (h:w.ownsRow base t sz v n xs) (hb:w.heap[b]? =some (.cells cs t' (0,0))) (ht:t≠t') {g:Nat} (hg:v.ownBlock=some g):g≠b:=by
 rintro rfl
 obtain⟨c1,e1⟩:=own_blk h hg
 rw[e1] at hb
 cases hb
 exact ht rfl
theorem vrd_of {w:World} {co:Option Addr} {cc:Nat} {zs:List VV} (h:w.ownsRow 0 69 3 (.slice co zs.length cc) zs.length (vrl zs)):VRd w.heap.size w co zs:=by
 rcases h.2 with⟨e,h0⟩|⟨g,cap,cur,hv,_,hg,_,_,hs,ht⟩
 ·injection e with e1 e2 e3
  exact .inl ⟨List.length_eq_zero_iff.1 h0,e1⟩
 ·injection hv with e1 e2 e3
  have hc: ∀j u,(vrl zs)[j]? =some u→w.cell? ⟨g,j,none⟩=some u:=fun j u hu=>by
   rw[blk_cell hg, ←Array.getElem?_toList]
   rw[←ht,List.getElem?_take] at hu
   split at hu
   ·exact hu
   ·cases hu
  refine .inr ⟨g,e1,blk_lt hg,fun k z hz=>?_⟩
  obtain⟨a,b,c⟩:=vrl_get zs k z hz
  exact⟨hc _ _ a,hc _ _ b,hc _ _ c⟩
abbrev Ch:=Option Addr×Nat×List VV
theorem law_str:Keyed Tryz.prog 9:=Maps.string_keyed Tryz.underlying9
theorem zero_map (w:World):(zeroValue 109).run Tryz.prog w= .ok (.map none) w:=by kernel_rfl
theorem zero_ptr (w:World):(zeroValue 110).run Tryz.prog w= .ok (.pointer none) w:=by kernel_rfl
structure HW (w:World) (hb mb tb:Nat) (T:List (Int×Nat)) (E:List En) (C:Nat→Ch) (σ:Nat→Option Nat) (q:Nat):Prop where
 blk:w.heap[hb]? =some (.cells #[.pointer (some ⟨mb,0,none⟩),.map (some tb)] 88 (0,0))
 lb:σ hb=some (2*hb+1)
 lt:σ tb=some (2*hb+1)
 mp: ∃D,w.ownsMap Tryz.prog 3 mapElem tb q D∧ ∀k zd,D.atKey (.int .i64 k) zd=atB (lkT T k) zd
 inn: ∀p∈T,σ p.2=some (2*p.2+1)∧ ∃D,w.ownsMap Tryz.prog 9 ptrElem p.2 q D∧ ∀s zd,D.atKey (.string s) zd=atB (lkE E p.1 s) zd
 chs: ∀e∈E,CB w σ e.b (C e.b).1 (C e.b).2.1 (C e.b).2.2∧(C e.b).2.2.length≤q
 tk:T.Pairwise (fun p r=>p.1≠r.1)
 tl:T.Pairwise (fun p r=>p.2≠r.2)
 ek:E.Pairwise (fun e f=> ¬(e.k=f.k∧e.s=f.s))
 eb:E.Pairwise (fun e f=>e.b≠f.b)
 et: ∀e∈E, ∃l,(e.k,l)∈T
 dom: ∀i,σ i≠none→i<w.heap.size
section
variable {w:World} {hb mb tb:Nat} {T:List (Int×Nat)} {E:List En} {C:Nat→Ch} {σ:Nat→Option Nat} {q:Nat}
theorem HW.c0 (h:HW w hb mb tb T E C σ q):w.cell? ⟨hb,0,none⟩=some (.pointer (some ⟨mb,0,none⟩)):=by rw[blk_cell h.blk];rfl
theorem HW.c1 (h:HW w hb mb tb T E C σ q):w.cell? ⟨hb,1,none⟩=some (.map (some tb)):=by rw[blk_cell h.blk];rfl
theorem HW.tch {S:Nat→Prop} {w':World} (h:HW w hb mb tb T E C σ q) (t:Tch S w w') (hS: ∀i,i<w.heap.size→S i→σ i=none):HW w' hb mb tb T E C σ q:=by
 obtain⟨D,hD,hk⟩:=h.mp
 refine⟨?_,h.lb,h.lt,⟨D,ownsMap_tch hD t (fun hs=>?_),hk⟩,fun p hp=>?_,fun e he=>?_,h.tk,h.tl,h.ek,h.eb,h.et,fun i hi=>Nat.lt_of_lt_of_le (h.dom i hi) t.size⟩
 ·have hl:=blk_lt h.blk
  rw[t.block hb hl (fun hs=>by have:=hS hb hl hs;rw[h.lb] at this;cases this)];exact h.blk
 ·have:=hS tb hD.lt hs;rw[h.lt] at this;cases this
 ·obtain⟨h1,D,hD,hk⟩:=h.inn p hp
  exact⟨h1,D,ownsMap_tch hD t (fun hs=>by have:=hS _ hD.lt hs;rw[h1] at this;cases this),hk⟩
 ·obtain⟨h1,h2⟩:=h.chs e he
  exact⟨h1.tch t (fun g hg hs=>by rw[hS g hg hs];exact⟨(fun h=>by cases h),fun j h=>by cases h⟩) (fun _ _ _=>rfl),h2⟩
theorem HW.no {w':World} (h:HW w hb mb tb T E C σ q) (t:Tch (fun _=>False) w w'):HW w' hb mb tb T E C σ q:=h.tch t (fun _ _ h=>h.elim)
theorem HW.relab (h:HW w hb mb tb T E C σ q) {σ':Nat→Option Nat} (hσ: ∀i,σ i≠none→σ' i=σ i) (hd: ∀i,σ' i≠none→i<w.heap.size):HW w hb mb tb T E C σ' q:=by
 refine⟨h.blk,(hσ hb (by rw[h.lb];exact fun h=>by cases h)).trans h.lb,(hσ tb (by rw[h.lt];exact fun h=>by cases h)).trans h.lt,h.mp,fun p hp=>?_,fun e he=>?_,h.tk,h.tl,h.ek,h.eb,h.et,hd⟩
 ·obtain⟨h1,h2⟩:=h.inn p hp
  exact⟨(hσ _ (by rw[h1];exact fun h=>by cases h)).trans h1,h2⟩
 ·obtain⟨h1,h2⟩:=h.chs e he
  exact⟨h1.tch (Tch.refl (fun _=>False) w) (fun _ _ h=>h.elim) (fun i _ hi=>hσ i hi),h2⟩
theorem HW.more (h:HW w hb mb tb T E C σ q) {q':Nat} (hq:q≤q'):HW w hb mb tb T E C σ q':=by
 obtain⟨D,hD,hk⟩:=h.mp
 refine⟨h.blk,h.lb,h.lt,⟨D,hD.mono hq,hk⟩,fun p hp=>?_,fun e he=>⟨(h.chs e he).1,Nat.le_trans (h.chs e he).2 hq⟩,h.tk,h.tl,h.ek,h.eb,h.et,h.dom⟩
 obtain⟨h1,D,hD,hk⟩:=h.inn p hp
 exact⟨h1,D,hD.mono hq,hk⟩
theorem HW.look (h:HW w hb mb tb T E C σ q) {k:Int} (h1: -9223372036854775808≤k) (h2:k≤9223372036854775807):
  (Instr.lookup 86 (.map (some tb)) (.int .i64 k) false).run Tryz.prog w= .ok (mapV (lkT T k)) w:=by
 obtain⟨D,hD,hk⟩:=h.mp
 obtain⟨v,ps,hrun,hv⟩:=hD.lookup law_int Tryz.underlying86 (zero_map w) (zd:= .lit (.int .i64 (-1))) (zp:=[]) rfl (Maps.keyOf_int_mk Tryz.underlying3 (int_wf h1 h2))
 rw[hrun,mapElem_inv hv (hk k _)]
theorem HW.look2 (h:HW w hb mb tb T E C σ q) {p:Int×Nat} (hp:p∈T) {S:ByteArray} (hS:S.size≤maxLen):
  (Instr.lookup 109 (.map (some p.2)) (.string S) false).run Tryz.prog w= .ok (ptrV (lkE E p.1 S.data.toList)) w:=by
 obtain⟨_,D,hD,hk⟩:=h.inn p hp
 obtain⟨v,ps,hrun,hv⟩:=hD.lookup law_str Tryz.underlying109 (zero_ptr w) (zd:= .lit (.int .i64 (-1))) (zp:=[]) rfl (WideMaps.keyOf_string_mk Tryz.underlying9 hS)
 rw[hrun,ptrElem_inv hv (hk _ _)]
theorem look_nil (w:World) {S:ByteArray} (hS:S.size≤maxLen):(Instr.lookup 109 (.map none) (.string S) false).run Tryz.prog w= .ok (.pointer none) w:=by
 rw[Maps.look_nil false law_str Tryz.underlying109 (zero_ptr w) (WideMaps.keyOf_string_mk Tryz.underlying9 hS)];rfl
theorem HW.noT (h:HW w hb mb tb T E C σ q) {k:Int} (hk:lkT T k=none) (s:List UInt8):lkE E k s=none:=lkE_no (fun e he ⟨h1,_⟩=>by
 obtain⟨l,hl⟩:=h.et e he
 exact lkT_none hk _ hl h1)
theorem map_ne {P:Program} {k:TypeId} {R:Value→Option (DataW Unit×List MemPlace)} {b n c:Nat} {D:DataW Unit} {cs:Array Value} {t:TypeId} (h:w.ownsMap P k R b n D) (hc:w.heap[c]? =some (.cells cs t (0,0))):b≠c:=by
 rintro rfl
 obtain⟨es,cl,hh,_⟩:=h
 rw[hh] at hc;cases hc
theorem HW.tne (h:HW w hb mb tb T E C σ q):tb≠hb:=by
 obtain⟨D,hD,_⟩:=h.mp
 exact map_ne hD h.blk
theorem HW.ene (h:HW w hb mb tb T E C σ q) {e:En} (he:e∈E):e.b≠hb:=by
 rintro e0
 have h1:=(h.chs e he).1.blk
 rw[e0,h.blk] at h1
 cases h1
theorem HW.lne (h:HW w hb mb tb T E C σ q) {p:Int×Nat} (hp:p∈T):p.2≠hb∧p.2≠tb∧ ∀e∈E,p.2≠e.b:=by
 obtain⟨h1,D,hD,_⟩:=h.inn p hp
 refine⟨map_ne hD h.blk,fun e=>?_,fun e he=>map_ne hD (h.chs e he).1.blk⟩
 rw[e,h.lt] at h1
 have h2:hb=tb:=by injection h1 with h1;omega
 exact h.tne h2.symm
end
def upB {α:Type} (f:Nat→α) (b:Nat) (v:α):Nat→α:=fun i=>if i=b then v else f i
theorem upB_same {α:Type} (f:Nat→α) (b:Nat) (v:α):upB f b v b=v:=if_pos rfl
theorem upB_other {α:Type} (f:Nat→α) {b i:Nat} (v:α) (h:i≠b):upB f b v i=f i:=if_neg h
theorem pw_inj {α β:Type} (f:α→β): ∀ {l:List α},l.Pairwise (fun a b=>f a≠f b)→ ∀ {x y:α},x∈l→y∈l→f x=f y→x=y
 |[],_,_,_,hx,_,_=>by cases hx
 |a::r,h,x,y,hx,hy,e=>by
  obtain⟨h1,h2⟩:=List.pairwise_cons.1 h
  rcases List.mem_cons.1 hx with hx'|hx'
  ·rcases List.mem_cons.1 hy with hy'|hy'
   ·rw[hx',hy']
   ·exact absurd (hx'▸e) (h1 y hy')
  ·rcases List.mem_cons.1 hy with hy'|hy'
   ·exact absurd (hy'▸e.symm) (h1 x hx')
   ·exact pw_inj f h2 hx' hy' e
theorem key_str (s:List UInt8):WideAt.IsKeyLit (.string s):=by simp[WideAt.IsKeyLit]
section
variable {w:World} {hb mb tb:Nat} {T:List (Int×Nat)} {E:List En} {C:Nat→Ch} {σ:Nat→Option Nat} {q:Nat}
theorem HW.addT (h:HW w hb mb tb T E C σ q) {k:Int} (h1: -9223372036854775808≤k) (h2:k≤9223372036854775807) (hk:lkT T k=none) (hq:q≤2147483648) {l:Nat} (hl:w.ownsMap Tryz.prog 9 ptrElem l 0 (.map [])) (hσ:σ l=none):
  ∃w',(Instr.mapUpdate 86 (.map (some tb)) (.int .i64 k) (.map (some l))).run Tryz.prog w= .ok () w'∧HW w' hb mb tb ((k,l)::T) E C (upB σ l (some (2*l+1))) (q+1)∧Tch (fun i=>i=tb) w w':=by
 obtain⟨D,hD,hat⟩:=h.mp
 obtain⟨w',hrun,hD',ht⟩:=hD.store law_int Tryz.underlying86 (by unfold maxLen;omega) (Maps.keyOf_int_mk Tryz.underlying3 (int_wf h1 h2)) (mapElem_some l)
 have t:Tch (fun i=>i=tb) w w':=Tch.of_grown ht.grown (fun g hg=>by cases hg;rfl)
 have hlt:l≠tb:=by rintro rfl;rw[h.lt] at hσ;cases hσ
 have hup: ∀i,σ i≠none→upB σ l (some (2*l+1)) i=σ i:=fun i hi=>upB_other _ _ (by rintro rfl;exact hi hσ)
 refine⟨w',hrun,⟨?_,(hup hb (by rw[h.lb];exact fun h=>by cases h)).trans h.lb,(hup tb (by rw[h.lt];exact fun h=>by cases h)).trans h.lt,⟨_,hD',fun j zd=>?_⟩,fun p hp=>?_,fun e he=>?_,?_,?_,h.ek,h.eb,fun e he=>?_,fun i hi=>?_⟩,t⟩
 ·rw[t.block hb (blk_lt h.blk) (fun e=>h.tne e.symm)];exact h.blk
 ·rw[lkT_cons]
  by_cases hj:k=j
  ·subst hj
   rw[atKey_put_same hD.isMap (key_int k),if_pos rfl];rfl
  ·rw[atKey_put_other (by intro e;injection e with _ e;exact hj e.symm),if_neg hj];exact hat j zd
 ·rcases List.mem_cons.1 hp with rfl|hp
  ·refine⟨upB_same _ _ _,_,(ownsMap_tch hl t hlt).mono (Nat.zero_le _),fun s zd=>?_⟩
   simp only
   rw[h.noT hk];rfl
  ·obtain⟨g1,D1,hD1,hk1⟩:=h.inn p hp
   exact⟨(hup _ (by rw[g1];exact fun h=>by cases h)).trans g1,D1,(ownsMap_tch hD1 t (h.lne hp).2.1).mono (Nat.le_succ _),hk1⟩
 ·obtain⟨g1,g2⟩:=h.chs e he
  refine⟨g1.tch t (fun g hg hs=>?_) (fun i _ hi=>hup i hi),Nat.le_succ_of_le g2⟩
  subst hs
  rw[h.lt]
  exact⟨(fun e'=>by injection e' with e';exact h.ene he (by omega)),fun j e'=>by injection e' with e';omega⟩
 ·exact List.pairwise_cons.2 ⟨fun p hp e=>lkT_none hk p hp e.symm,h.tk⟩
 ·exact List.pairwise_cons.2 ⟨(fun p hp e=>by have:=(h.inn p hp).1;rw[←e] at this;simp only at this;rw[hσ] at this;cases this),h.tl⟩
 ·obtain⟨l',hl'⟩:=h.et e he
  exact⟨l',List.mem_cons_of_mem _ hl'⟩
 ·by_cases e:i=l
  ·rw[e];exact Nat.lt_of_lt_of_le hl.lt t.size
  ·rw[upB_other _ _ e] at hi;exact Nat.lt_of_lt_of_le (h.dom i hi) t.size
theorem HW.addE (h:HW w hb mb tb T E C σ q) {k:Int} {l:Nat} (hl:(k,l)∈T) {S:ByteArray} (hS:S.size≤maxLen) (hk:lkE E k S.data.toList=none) (hq:q≤2147483648) {cb:Nat} (hc:w.heap[cb]? =some (.cells #[.slice none 0 0] 72 (0,0))) (hσ:σ cb=none):
  ∃w',(Instr.mapUpdate 109 (.map (some l)) (.string S) (.pointer (some ⟨cb,0,none⟩))).run Tryz.prog w= .ok () w'∧HW w' hb mb tb T (E++[⟨k,S.data.toList,cb⟩]) (upB C cb (none,0,[])) (upB σ cb (some (2*cb+1))) (q+1)∧Tch (fun i=>i=l) w w':=by
 obtain⟨g1,D,hD,hat⟩:=h.inn (k,l) hl
 simp only at g1 hD hat
 obtain⟨w',hrun,hD',ht⟩:=hD.store law_str Tryz.underlying109 (by unfold maxLen;omega) (WideMaps.keyOf_string_mk Tryz.underlying9 hS) (ptrElem_some cb)
 have t:Tch (fun i=>i=l) w w':=Tch.of_grown ht.grown (fun g hg=>by cases hg;rfl)
 have hup: ∀i,σ i≠none→upB σ cb (some (2*cb+1)) i=σ i:=fun i hi=>upB_other _ _ (by rintro rfl;exact hi hσ)
 have hlc:cb≠l:=fun e=>map_ne hD hc e.symm
 have hlne:=h.lne hl
 obtain⟨D0,hD0,hat0⟩:=h.mp
 refine⟨w',hrun,⟨?_,(hup hb (by rw[h.lb];exact fun h=>by cases h)).trans h.lb,(hup tb (by rw[h.lt];exact fun h=>by cases h)).trans h.lt,⟨D0,(ownsMap_tch hD0 t (fun e=>hlne.2.1 e.symm)).mono (Nat.le_succ _),hat0⟩,fun p hp=>?_,fun e he=>?_,h.tk,h.tl,?_,?_,fun e he=>?_,fun i hi=>?_⟩,t⟩
 ·rw[t.block hb (blk_lt h.blk) (fun e=>hlne.1 e.symm)];exact h.blk
 ·obtain⟨p1,D1,hD1,hk1⟩:=h.inn p hp
  refine⟨(hup _ (by rw[p1];exact fun h=>by cases h)).trans p1,?_⟩
  by_cases e:p.2=l
  ·have hpk:p.1=k:=by rw[pw_inj (fun p:Int×Nat=>p.2) h.tl hp hl e]
   refine⟨D.put (.string S.data.toList) (encB cb),by rw[e];exact hD',fun s zd=>?_⟩
   rw[lkE_snoc,hpk]
   by_cases hs:S.data.toList=s
   ·subst hs
    rw[atKey_put_same hD.isMap (key_str _),hk];simp[atB]
   ·rw[atKey_put_other (by intro e;injection e with e;exact hs e.symm),hat]
    cases lkE E k s with
    |some b=>rfl
    |none=>simp[hs,atB]
  ·refine⟨D1,(ownsMap_tch hD1 t e).mono (Nat.le_succ _),fun s zd=>?_⟩
   rw[hk1,lkE_snoc]
   have hpk: ¬(k=p.1):=fun ek=>e (by rw[pw_inj (fun p:Int×Nat=>p.1) h.tk hp hl ek.symm])
   cases lkE E p.1 s with
   |some b=>rfl
   |none=>simp[hpk]
 ·rcases List.mem_append.1 he with he|he
  ·obtain⟨g1',g2⟩:=h.chs e he
   have hne:e.b≠cb:=by rintro e0;rw[←e0,g1'.lab] at hσ;cases hσ
   rw[upB_other _ _ hne]
   refine⟨g1'.tch t (fun g hg hs=>?_) (fun i _ hi=>hup i hi),Nat.le_succ_of_le g2⟩
   subst hs
   rw[g1]
   exact⟨(fun e'=>by injection e' with e';exact hlne.2.2 e he (by omega)),fun j e'=>by injection e' with e';omega⟩
  ·obtain rfl:=List.mem_singleton.1 he
   simp only
   rw[upB_same]
   refine⟨⟨upB_same _ _ _,by rw[t.block cb (blk_lt hc) hlc];exact hc,⟨rfl,Or.inl ⟨rfl,rfl⟩⟩,(fun g hg=>by cases hg),(fun z hz=>by cases hz)⟩,Nat.zero_le _⟩
 ·rw[List.pairwise_append]
  refine⟨h.ek,by simp,fun e he f hf=>?_⟩
  obtain rfl:=List.mem_singleton.1 hf
  exact lkE_none hk e he
 ·rw[List.pairwise_append]
  refine⟨h.eb,by simp,fun e he f hf=>?_⟩
  obtain rfl:=List.mem_singleton.1 hf
  rintro e0
  have:=(h.chs e he).1.lab
  rw[e0] at this;simp only at this;rw[hσ] at this;cases this
 ·rcases List.mem_append.1 he with he|he
  ·exact h.et e he
  ·obtain rfl:=List.mem_singleton.1 he;exact⟨l,hl⟩
 ·by_cases e:i=cb
  ·rw[e];exact Nat.lt_of_lt_of_le (blk_lt hc) t.size
  ·rw[upB_other _ _ e] at hi;exact Nat.lt_of_lt_of_le (h.dom i hi) t.size
theorem HW.setC (h:HW w hb mb tb T E C σ q) {w':World} {cb:Nat} {co:Option Addr} {cc:Nat} {zs:List VV} {σ':Nat→Option Nat} {q':Nat} (t:Tch (fun i=>σ i=some (2*cb+1)) w w') (hne:cb≠hb) (hnl: ∀p∈T,p.2≠cb) (hσ: ∀i,σ i≠none→σ' i=σ i) (hd: ∀i,σ' i≠none→i<w'.heap.size) (hq:q≤q') (hz:zs.length≤q') (hC:CB w' σ' cb co cc zs):HW w' hb mb tb T E (upB C cb (co,cc,zs)) σ' q':=by
 obtain⟨D0,hD0,hat0⟩:=h.mp
 have hlb: ∀i x,σ i=some x→σ' i=some x:=fun i x hi=>(hσ i (by rw[hi];exact fun h=>by cases h)).trans hi
 refine⟨?_,hlb _ _ h.lb,hlb _ _ h.lt,⟨D0,(ownsMap_tch hD0 t (fun e=>?_)).mono hq,hat0⟩,fun p hp=>?_,fun e he=>?_,h.tk,h.tl,h.ek,h.eb,h.et,hd⟩
 ·rw[t.block hb (blk_lt h.blk) (fun e=>by rw[h.lb] at e;injection e with e;omega)];exact h.blk
 ·rw[h.lt] at e;injection e with e;omega
 ·obtain⟨g1,D,hD,hk⟩:=h.inn p hp
  refine⟨hlb _ _ g1,D,(ownsMap_tch hD t (fun e=>?_)).mono hq,hk⟩
  rw[g1] at e;injection e with e;exact hnl p hp (by omega)
 ·by_cases e0:e.b=cb
  ·rw[e0,upB_same]
   exact⟨hC,hz⟩
  ·rw[upB_other _ _ e0]
   obtain⟨g1,g2⟩:=h.chs e he
   refine⟨g1.tch t (fun g hg hs=>?_) (fun i _ hi=>hσ i hi),Nat.le_trans g2 hq⟩
   rw[hs]
   exact⟨(fun e'=>by injection e' with e';omega),fun j e'=>by injection e' with e';omega⟩
end
end Go.Proofs.YtppokgdofgigfaaGreat
