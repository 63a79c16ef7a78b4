import Derived.Test.YtppokgdofgigfaaGreatRMem
import Derived.Deep.RegionLaw
import Derived.Lib.AppendZerosOnto
import Derived.Lib.Overlaps
import Derived.Shelf.RegionOpenPlain
set_option maxHeartbeats 4000000
set_option maxRecDepth 100000
namespace Go.Proofs.YtppokgdofgigfaaGreat.R
open Go.RowKit Go
def IInsOut (v:Value) (n i:Nat) (xs vs:List Value) (w:World) (x:Ending) (w':World):Prop:= ∃v',x= .returned v'∧w'.ownsRow 0 170 2 v' (n+1) (xs.take (i*2)++vs++xs.drop (i*2))∧(v'.ownBlock=v.ownBlock∨ ∃g,v'.ownBlock=some g∧w.heap.size≤g)
theorem Iinsert_end (v:Value) (n vb:Nat) (xs vs:List Value) (w:World) (ho:w.ownsRow 0 170 2 v n xs) (hv:w.heap[vb]? =some (.cells vs.toArray 170 (0,0))) (hvl:vs.length=2) (hn:n<1000) (h1v: ∀u∈vs,u.oneCell'=true):
  Calls Tryz.prog 108 #[v,.int .i64 n,.slice (some ⟨vb,0,none⟩) 1 1] w fun x w'=>IInsOut v n n xs vs w x w'∧Tch (fun i=>v.ownBlock=some i) w w':=by
 obtain⟨i0,hi,hz0,hz1,hz2⟩:=info_parts info_item
 have Hown:Hid (w.ownsRow 0 170 2 v n xs):=ho
 have hxl:xs.length=n*2:=ho.1
 have Hvl:Hid (vs.length=1*2):=by show _=_;omega
 have Hcl:Hid (∀j u,vs[j]? =some u→w.cell? ((⟨vb,0,none⟩:Addr).add j)=some u):=fun j u hu=>by
  rw[add_plain];exact blk_at hv j u (by simpa using hu)
 have H1:Hid _:=h1v
 obtain⟨ao,c,rfl⟩:=row_slice ho
 have hnc:n≤c:=by
  rcases ho.2 with⟨h2,h3⟩|⟨g,c',cur,h2,_,_,h3,_⟩
  ·omega
  ·injection h2 with h4 h5 h6;omega
 have Hx:Hid (xs.length=n*2):=hxl
 clear ho hv hvl h1v hxl
 by_cases hcn:c=n
 ·obtain rfl:=hcn.symm
  go_enter Tryz.func108,Tryz.ntmps108
  go_wp2_with (at_builtin;refine wpList_append_keeps _ rfl _ _ 163 rfl 0 170 i0 (.agg #[.string ⟨#[]⟩,.slice none 0 0]) 2 40 Tryz.underlying163 hi hz0 hz1 hz2 rfl (by decide) (.slice ao n n) n xs rfl Hown.out ⟨vb,0,none⟩ 1 1 vs rfl Hvl.out Hcl.out H1.out (by unfold maxLen;omega) (by omega) (Nat.zero_le _) ?_;intro v1 w1 hown1 hgr1 hat1 _;have HF:Hid (IInsOut (.slice ao n n) n n xs vs w (.returned v1) w1):=⟨v1,rfl,by rw[List.take_of_length_le (by rw[Hx.out];exact Nat.le_refl _),List.drop_eq_nil_of_le (by rw[Hx.out];exact Nat.le_refl _),List.append_nil];exact hown1,hat1.imp id (fun e=>⟨_,e,Nat.le_refl _⟩)⟩;have HT:Hid (Tch (fun i=>(Value.slice ao n n).ownBlock=some i) w w1):=Tch.of_grown hgr1 (fun g e=>e);obtain⟨o1,c1,hv1⟩:=row_slice hown1;subst hv1;clear hown1 hgr1 hat1)
  go_ret
  exact⟨HF.out,HT.out⟩
 ·skip
  go_enter Tryz.func108,Tryz.ntmps108
  go_wp2_with (at_builtin;refine wpList_append_keeps _ rfl _ _ 163 rfl 0 170 i0 (.agg #[.string ⟨#[]⟩,.slice none 0 0]) 2 40 Tryz.underlying163 hi hz0 hz1 hz2 rfl (by decide) (.slice ao n c) n xs rfl Hown.out ⟨vb,0,none⟩ 1 1 vs rfl Hvl.out Hcl.out H1.out (by unfold maxLen;omega) (by omega) (Nat.zero_le _) ?_;intro v1 w1 hown1 hgr1 hat1 _;have HF:Hid (IInsOut (.slice ao n c) n n xs vs w (.returned v1) w1):=⟨v1,rfl,by rw[List.take_of_length_le (by rw[Hx.out];exact Nat.le_refl _),List.drop_eq_nil_of_le (by rw[Hx.out];exact Nat.le_refl _),List.append_nil];exact hown1,hat1.imp id (fun e=>⟨_,e,Nat.le_refl _⟩)⟩;have HT:Hid (Tch (fun i=>(Value.slice ao n c).ownBlock=some i) w w1):=Tch.of_grown hgr1 (fun g e=>e);obtain⟨o1,c1,hv1⟩:=row_slice hown1;subst hv1;clear hown1 hgr1 hat1)
  go_ret
  exact⟨HF.out,HT.out⟩
theorem Iparts (l xs vs:List Value) (n i:Nat) (hl:l.take (n*2)=xs) (hvl:vs.length=2) (hi:i≤n) (hn:(n+1)*2≤l.length):
  ((((l.take ((i+1)*2)++xs.drop (i*2)++l.drop ((i+1)*2+(n - i)*2))).take (i*2)++vs++(l.take ((i+1)*2)++xs.drop (i*2)++l.drop ((i+1)*2+(n - i)*2)).drop (i*2+2))).take ((n+1)*2)=xs.take (i*2)++vs++xs.drop (i*2):=by
 have hxl:xs.length=n*2:=by rw[←hl,List.length_take];omega
 have e0:(i+1)*2=i*2+2:=by omega
 have e1:(l.take ((i+1)*2)++xs.drop (i*2)++l.drop ((i+1)*2+(n - i)*2)).take (i*2)=xs.take (i*2):=by
  rw[List.append_assoc,List.take_append_of_le_length (by rw[List.length_take];omega),List.take_take,Nat.min_eq_left (by omega), ←hl,List.take_take,Nat.min_eq_left (by omega)]
 have e2:(l.take ((i+1)*2)++xs.drop (i*2)++l.drop ((i+1)*2+(n - i)*2)).drop (i*2+2)=xs.drop (i*2)++l.drop ((i+1)*2+(n - i)*2):=by
  rw[List.append_assoc,List.drop_append_of_le_length (by rw[List.length_take];omega),List.drop_eq_nil_of_le (by rw[List.length_take];omega),List.nil_append]
 rw[e1,e2, ←List.append_assoc]
 have e3:(xs.take (i*2)++vs++xs.drop (i*2)).length=(n+1)*2:=by simp only[List.length_append,List.length_take,List.length_drop];omega
 rw[←e3]
 exact List.take_left
theorem Iinsert_room (g c n i vb:Nat) (cur:Array Value) (xs vs:List Value) (w:World) (hg:w.heap[g]? =some (.cells cur 170 (0,0))) (hc:c≤maxLen) (hcs:cur.size=c*2) (hx:cur.toList.take (n*2)=xs) (hv:w.heap[vb]? =some (.cells vs.toArray 170 (0,0))) (hvl:vs.length=2) (hvg:vb≠g) (hin:i<n) (hroom:n+1≤c) (hn:n<1000) (h1: ∀u∈xs,u.oneCell'=true) (h1v: ∀u∈vs,u.oneCell'=true):
  Calls Tryz.prog 108 #[.slice (some ⟨g,0,none⟩) n c,.int .i64 i,.slice (some ⟨vb,0,none⟩) 1 1] w fun x w'=>IInsOut (.slice (some ⟨g,0,none⟩) n c) n i xs vs w x w'∧Tch (fun i=>(Value.slice (some ⟨g,0,none⟩) n c).ownBlock=some i) w w':=by
 have hcM:c≤9223372036854775807:=by unfold maxLen at hc;omega
 have hxl:xs.length=n*2:=by rw[←hx,List.length_take,Array.length_toList];omega
 have hsz: ∀W,(Go.sizeOf 170).run Tryz.prog W= .ok 2 W:=fun W=>by
  obtain⟨i0,hi,hz0,hz1,hz2⟩:=info_parts info_item
  simp[sizeOf,typeInfo,hi,hz1]
 have hov: ∀lb cb,(callFunc 115 #[.slice (some ⟨vb,0,none⟩) 1 1,.slice (some ⟨g,(i+1)*2,none⟩) lb cb]).run Tryz.prog w= .ok (.value (.bool false)) w:=fun lb cb=>by
  rw[run_callFunc_extern Tryz.func115 (by kernel_rfl) (by kernel_rfl) (by kernel_rfl) (e:=Extern.SlicesOverlaps.overlaps #[163,163] #[4]) (by kernel_rfl),
   Lib.run_overlaps_apart w 163 4 170 Tryz.underlying163 2 hsz ⟨vb,0,none⟩ ⟨g,(i+1)*2,none⟩ 1 1 lb cb hvg 170 170 vs.toArray.size cur.size (by simp[World.shape?,hv]) (by simp[World.shape?,hg]) (by omega) (blk_frozen hv _) (blk_frozen hv _)]
  rfl
 obtain⟨news,hnews⟩: ∃news,news=xs.drop (i*2):=⟨_,rfl⟩
 have hnl:news.length=(n - i)*2:=by rw[hnews,List.length_drop,hxl];omega
 obtain⟨cur1,hcur1⟩: ∃cur1:Array Value,cur1=(cur.toList.take ((i+1)*2)++news++cur.toList.drop ((i+1)*2+news.length)).toArray:=⟨_,rfl⟩
 obtain⟨W1,hW1⟩: ∃W1,W1=w.drew.setRow g cur1:=⟨_,rfl⟩
 have hgd:w.drew.heap[g]? =some (.cells cur 170 (0,0)):=hg
 have hcp1: ∀ty,(Builtin.copy_ #[163,163] ty #[.slice (some ⟨g,(i+1)*2,none⟩) (n+1 - (i+1)) (c - (i+1)),.slice (some ⟨g,(i)*2,none⟩) (n+1 - i) (c - i)]).run Tryz.prog w.drew= .ok (goInt (Nat.min (n+1 - i) (n+1 - (i+1)))) W1:=fun ty=>by
  rw[hW1,hcur1]

  exact run_copy_any w.drew _ _ ty 170 2 g ((i+1)*2) _ _ ⟨g,(i)*2,none⟩ _ _ cur 170 news Tryz.underlying163 info_item2 hgd (by rw[hnl];simp only[Nat.min_def];split<;>omega)
   (fun j u hj=>by
    have hjl:=(List.getElem?_eq_some_iff.1 hj).1
    rw[add_plain]
    show w.cell? _=_
    rw[blk_cell hg, ←hj,hnews,List.getElem?_drop, ←hx,List.getElem?_take,if_pos (by omega),Array.getElem?_toList])
   (by omega) (fun u hu=>h1 u (by rw[hnews] at hu;exact List.mem_of_mem_drop hu))
 have hg1:W1.heap[g]? =some (.cells cur1 170 (0,0)):=by rw[hW1];exact setRow_blk hgd
 have t1:Tch (fun i=>i=g) w W1:=by rw[hW1];exact((Tch.refl _ w).drew).trans' (setRow_tch w.drew g cur1)
 have hs1:cur1.size=c*2:=by
  rw[hcur1]
  simp only[List.size_toArray,List.length_append,List.length_take,List.length_drop,Array.length_toList]
  omega
 have hv1:W1.heap[vb]? =some (.cells vs.toArray 170 (0,0)):=by rw[t1.block vb (blk_lt hv) hvg];exact hv
 obtain⟨cur2,hcur2⟩: ∃cur2:Array Value,cur2=(cur1.toList.take (i*2)++vs++cur1.toList.drop (i*2+vs.length)).toArray:=⟨_,rfl⟩
 obtain⟨W2,hW2⟩: ∃W2,W2=W1.setRow g cur2:=⟨_,rfl⟩
 have hcp2: ∀ty,(Builtin.copy_ #[163,163] ty #[.slice (some ⟨g,(i)*2,none⟩) (n+1 - i) (c - i),.slice (some ⟨vb,0,none⟩) 1 1]).run Tryz.prog W1= .ok (goInt (Nat.min 1 (n+1 - i))) W2:=fun ty=>by
  rw[hW2,hcur2]

  exact run_copy_any W1 _ _ ty 170 2 g ((i)*2) _ _ ⟨vb,0,none⟩ _ _ cur1 170 vs Tryz.underlying163 info_item2 hg1 (by rw[hvl];simp only[Nat.min_def];split<;>omega)
   (fun j u hj=>by rw[add_plain];exact blk_at hv1 j u (by simpa using hj)) (by omega) h1v
 have hg2:W2.heap[g]? =some (.cells cur2 170 (0,0)):=by rw[hW2];exact setRow_blk hg1
 have HT:Hid (Tch (fun i=>(Value.slice (some ⟨g,0,none⟩) n c).ownBlock=some i) w W2):=by
  have:=t1.trans' (show Tch (fun i=>i=g) W1 W2 by rw[hW2];exact setRow_tch W1 g cur2)
  exact this.mono (fun i _ h=>by rw[h];rfl)
 have HF:Hid (IInsOut (.slice (some ⟨g,0,none⟩) n c) n i xs vs w (.returned (.slice (some ⟨g,0,none⟩) (n+1) c)) W2):=by
  have e:cur2.toList.take ((n+1)*2)=xs.take (i*2)++vs++xs.drop (i*2):=by
   rw[hcur2,hcur1,hnl,hvl]
   simp only[]
   rw[hnews]
   exact Iparts cur.toList xs vs n i hx hvl (by omega) (by rw[Array.length_toList];omega)
  have hs2:cur2.size=c*2:=by
   rw[hcur2]
   simp only[List.size_toArray,List.length_append,List.length_take,List.length_drop,Array.length_toList]
   omega
  refine⟨_,rfl,⟨?_,Or.inr ⟨g,c,cur2,rfl,Nat.zero_le _,hg2,by omega,hc,hs2,e⟩⟩,Or.inl rfl⟩
  simp only[List.length_append,List.length_take,List.length_drop]
  omega
 clear hcur1 hW1 hgd hg1 t1 hs1 hv1 hcur2 hW2 hg2 hg hcs hx hv hvl h1 h1v hxl hnews hnl hsz
 have hw1:IntKind.i64.wrap ((i:Int)+1)=(i:Int)+1:=by rw[IntKind.wrap_i64];omega
 have hb1:(0:Int)≤(i:Int)+1:=by omega
 have htn:((i:Int)+1).toNat=i+1:=by omega
 have hz2: ¬((i:Int)=(n:Int)):=by omega
 have hb2: ¬(c=i+1):=by omega
 have hb3:(i:Int)≤(n:Int)+1:=by omega
 have hb4: ¬(c=i):=by omega
 have hii:i≤n:=by omega
 go_enter Tryz.func108,Tryz.ntmps108
 go_wp2_with (simp only[hov])
 rename_i hKn
 go_region_law (refine step_copy_run rfl _ _ 163 163 rfl _ _ (by simp[Act.eval,Act.put]) (by simp[Act.eval,Act.put]) (hcp1 _) ?_)
 go_simp
 refine hKn _ _ ?_
 clear hKn
 go_wp2_with (at_builtin;refine wpList_copy_run _ rfl _ _ 163 163 rfl _ _ rfl rfl (hcp2 _) ?_)
 go_ret
 exact⟨HF.out,HT.out⟩
theorem Iparts2 (l xs vs news:List Value) (n i:Nat) (hl:l.take (i*2)=xs.take (i*2)) (hvl:vs.length=2) (hi:i≤n) (hxl:xs.length=n*2) (hnews:news=xs.drop (i*2)) (hn:(n+1)*2≤l.length):
  ((l.take (i*2)++vs++l.drop (i*2+vs.length)).take ((i+1)*2)++news++(l.take (i*2)++vs++l.drop (i*2+vs.length)).drop ((i+1)*2+news.length)).take ((n+1)*2)=xs.take (i*2)++vs++xs.drop (i*2):=by
 have e1:(l.take (i*2)++vs++l.drop (i*2+vs.length)).take ((i+1)*2)=xs.take (i*2)++vs:=by
  have hlen:(l.take (i*2)++vs).length=(i+1)*2:=by rw[List.length_append,List.length_take];omega
  rw[←hlen,List.take_left,hl]
 rw[e1, ←hnews]
 have e3:(xs.take (i*2)++vs++news).length=(n+1)*2:=by rw[hnews];simp only[List.length_append,List.length_take,List.length_drop];omega
 rw[←e3]
 exact List.take_left
theorem Iinsert_grow (g n i vb:Nat) (cur:Array Value) (xs vs:List Value) (w:World) (hg:w.heap[g]? =some (.cells cur 170 (0,0))) (hcs:cur.size=n*2) (hx:cur.toList.take (n*2)=xs) (hv:w.heap[vb]? =some (.cells vs.toArray 170 (0,0))) (hvl:vs.length=2) (hin:i<n) (hn:n<1000) (h1: ∀u∈xs,u.oneCell'=true) (h1v: ∀u∈vs,u.oneCell'=true):
  Calls Tryz.prog 108 #[.slice (some ⟨g,0,none⟩) n n,.int .i64 i,.slice (some ⟨vb,0,none⟩) 1 1] w fun x w'=>IInsOut (.slice (some ⟨g,0,none⟩) n n) n i xs vs w x w'∧Tch (fun i=>(Value.slice (some ⟨g,0,none⟩) n n).ownBlock=some i) w w':=by
 obtain⟨i0,hi0,hz0,hz1,hz2⟩:=info_parts info_item
 have hxl:xs.length=n*2:=by rw[←hx,List.length_take,Array.length_toList];omega
 have hxc: ∀j u,xs[j]? =some u→w.cell? ⟨g,j,none⟩=some u:=fun j u hu=>by
  have hj:=(List.getElem?_eq_some_iff.1 hu).1
  rw[blk_cell hg, ←hu, ←hx,List.getElem?_take,if_pos (by omega),Array.getElem?_toList]
 obtain⟨N,hN⟩: ∃N,N=w.heap.size:=⟨_,rfl⟩
 have hold:(Builtin.firstCells i0.size i (.slice (some ⟨g,0,none⟩) i n)).run Tryz.prog w.drew= .ok (xs.take (i*2)).toArray w.drew:=by
  rw[hz1]
  exact run_firstCells_some w.drew 2 i ⟨g,0,none⟩ i n (xs.take (i*2)) (by rw[List.length_take];omega) (fun j v hj=>by
   rw[add_plain,Nat.zero_add]
   rw[List.getElem?_take] at hj
   split at hj
   ·exact hxc j v hj
   ·cases hj)
 obtain⟨G,hG⟩: ∃G,G=grownCap w (n+1) n 170:=⟨_,rfl⟩
 obtain⟨ROW,hROW⟩: ∃ROW:Array Value,ROW=(xs.take (i*2)).toArray++Builtin.zeroCells (Value.agg #[.string ⟨#[]⟩,.slice none 0 0]).cells (n+1 - i)++Builtin.zeroCells (Value.agg #[.string ⟨#[]⟩,.slice none 0 0]).cells (G - (n+1)):=⟨_,rfl⟩
 obtain⟨W1,hW1⟩: ∃W1,W1=w.drew.alloc (.cells ROW 170):=⟨_,rfl⟩
 have hik:i+(n+1 - i)=n+1:=by omega
 have hkk:(n:Int)+1 - (i:Int)=((n+1 - i:Nat):Int):=by omega
 have hrz: ∀ty,(Builtin.append_ #[163,3] ty #[.slice (some ⟨g,0,none⟩) i n,.int .i64 ((n:Int)+1 - (i:Int))]).run Tryz.prog w= .ok (.slice (some ⟨N,0,none⟩) (n+1) G) W1:=fun ty=>by
  have h:=Lib.run_append_grow_zeros (P:=Tryz.prog) w 163 3 ty 170 i0 _ .i64 .i64 Tryz.underlying163 Tryz.underlying3 hi0 hz0 (some ⟨g,0,none⟩) i n (xs.take (i*2)) hold (n+1 - i) (by omega) (by omega) (by omega) (by omega) (by rw[hz2];omega) (by rw[hz2,hik];exact growslice_fits (by omega) (by omega))
  rw[hik] at h
  rw[hkk,hN,hW1,hROW,hG]
  exact h
 have hGn:n+1≤G:=by rw[hG];exact grownCap_ge w _ _ _
 have hGm:G≤maxLen:=by rw[hG];exact grownCap_le_maxLen w (n+1) n _ (by unfold maxLen;omega)
 have hG63:G≤9223372036854775807:=by unfold maxLen at hGm;omega
 have hRs:ROW.size=G*2:=by
  rw[hROW]
  simp[Builtin.zeroCells,Value.cells]
  omega
 have hRt:ROW.toList.take (i*2)=xs.take (i*2):=by
  rw[hROW]
  simp only[Array.toList_append]
  rw[List.append_assoc,List.take_append_of_le_length (by rw[List.length_take];omega)]
  exact List.take_of_length_le (by rw[List.length_take];omega)
 have hg1:W1.heap[N]? =some (.cells ROW 170 (0,0)):=by rw[hW1,hN];exact alloc_new w.drew _
 have t1:Tch (fun _=>False) w W1:=by rw[hW1];exact(Tch.refl _ w).drew.allocR _
 have hv1:W1.heap[vb]? =some (.cells vs.toArray 170 (0,0)):=by rw[t1.block vb (blk_lt hv) (fun h=>h)];exact hv
 obtain⟨cur2,hcur2⟩: ∃cur2:Array Value,cur2=(ROW.toList.take (i*2)++vs++ROW.toList.drop (i*2+vs.length)).toArray:=⟨_,rfl⟩
 obtain⟨W2,hW2⟩: ∃W2,W2=W1.setRow N cur2:=⟨_,rfl⟩
 have hcp2: ∀ty,(Builtin.copy_ #[163,163] ty #[.slice (some ⟨N,(i)*2,none⟩) (n+1 - i) (G - i),.slice (some ⟨vb,0,none⟩) 1 1]).run Tryz.prog W1= .ok (goInt (Nat.min 1 (n+1 - i))) W2:=fun ty=>by
  rw[hW2,hcur2]

  exact run_copy_any W1 _ _ ty 170 2 N ((i)*2) _ _ ⟨vb,0,none⟩ _ _ ROW 170 vs Tryz.underlying163 info_item2 hg1 (by rw[hvl];simp only[Nat.min_def];split<;>omega)
   (fun j u hj=>by rw[add_plain];exact blk_at hv1 j u (by simpa using hj)) (by omega) h1v
 have hg2:W2.heap[N]? =some (.cells cur2 170 (0,0)):=by rw[hW2];exact setRow_blk hg1
 have hs2:cur2.size=G*2:=by
  rw[hcur2]
  simp only[List.size_toArray,List.length_append,List.length_take,List.length_drop,Array.length_toList]
  omega
 have t2:Tch (fun i=>i=N) W1 W2:=by rw[hW2];exact setRow_tch W1 N cur2
 have hgN:g≠N:=by have:=blk_lt hg;omega
 have hxc2: ∀j u,xs[j]? =some u→W2.cell? ⟨g,j,none⟩=some u:=fun j u hu=>by
  have h0:=hxc j u hu
  rw[t2.cell (p:=⟨g,j,none⟩) (Nat.lt_of_lt_of_le (blk_lt hg) t1.size) hgN,t1.cell (p:=⟨g,j,none⟩) (blk_lt hg) (fun h=>h)]
  exact h0
 obtain⟨news,hnews⟩: ∃news,news=xs.drop (i*2):=⟨_,rfl⟩
 have hnl:news.length=(n - i)*2:=by rw[hnews,List.length_drop,hxl];omega
 obtain⟨cur3,hcur3⟩: ∃cur3:Array Value,cur3=(cur2.toList.take ((i+1)*2)++news++cur2.toList.drop ((i+1)*2+news.length)).toArray:=⟨_,rfl⟩
 obtain⟨W3,hW3⟩: ∃W3,W3=W2.drew.setRow N cur3:=⟨_,rfl⟩
 have hcp3: ∀ty,(Builtin.copy_ #[163,163] ty #[.slice (some ⟨N,(i+1)*2,none⟩) (n+1 - (i+1)) (G - (i+1)),.slice (some ⟨g,(i)*2,none⟩) (n - i) (n - i)]).run Tryz.prog W2.drew= .ok (goInt (Nat.min (n - i) (n+1 - (i+1)))) W3:=fun ty=>by
  rw[hW3,hcur3]

  exact run_copy_any W2.drew _ _ ty 170 2 N ((i+1)*2) _ _ ⟨g,(i)*2,none⟩ _ _ cur2 170 news Tryz.underlying163 info_item2 hg2 (by rw[hnl];simp only[Nat.min_def];split<;>omega)
   (fun j u hj=>by
    rw[add_plain]
    show W2.cell? _=_
    rw[hnews,List.getElem?_drop] at hj
    exact hxc2 _ u hj)
   (by omega) (fun u hu=>h1 u (by rw[hnews] at hu;exact List.mem_of_mem_drop hu))
 have hg3:W3.heap[N]? =some (.cells cur3 170 (0,0)):=by rw[hW3];exact setRow_blk (w:=W2.drew) hg2
 have HT:Hid (Tch (fun i=>(Value.slice (some ⟨g,0,none⟩) n n).ownBlock=some i) w W3):=by
  have h3:Tch (fun i=>i=N) W2 W3:=by rw[hW3];exact((Tch.refl _ W2).drew).trans' (setRow_tch W2.drew N cur3)
  have:=t1.trans (t2.trans' h3) (fun i hi h=>by omega)
  exact this.mono (fun i _ h=>h.elim)
 have HF:Hid (IInsOut (.slice (some ⟨g,0,none⟩) n n) n i xs vs w (.returned (.slice (some ⟨N,0,none⟩) (n+1) G)) W3):=by
  have e:cur3.toList.take ((n+1)*2)=xs.take (i*2)++vs++xs.drop (i*2):=by
   rw[hcur3,hcur2]
   simp only[]
   exact Iparts2 ROW.toList xs vs news n i hRt hvl (by omega) hxl hnews (by rw[Array.length_toList];omega)
  have hs3:cur3.size=G*2:=by
   rw[hcur3]
   simp only[List.size_toArray,List.length_append,List.length_take,List.length_drop,Array.length_toList]
   omega
  refine⟨_,rfl,⟨?_,Or.inr ⟨N,G,cur3,rfl,Nat.zero_le _,hg3,by omega,hGm,hs3,e⟩⟩,Or.inr ⟨N,rfl,by omega⟩⟩
  simp only[List.length_append,List.length_take,List.length_drop]
  omega
 clear hROW hW1 hold hg1 t1 hv1 hcur2 hW2 hg2 hs2 t2 hxc2 hxc hnews hnl hcur3 hW3 hg3 hRs hRt hg hcs hx hv hvl h1 h1v hxl hN hG hkk hik hz0 hz1 hz2 hi0 hGm
 have hw1:IntKind.i64.wrap ((i:Int)+1)=(i:Int)+1:=by rw[IntKind.wrap_i64];omega
 have hb1:(0:Int)≤(i:Int)+1:=by omega
 have htn:((i:Int)+1).toNat=i+1:=by omega
 have hz2: ¬((i:Int)=(n:Int)):=by omega
 have hb2: ¬(G=i+1):=by omega
 have hb5: ¬(G=i):=by omega
 have hb3:(i:Int)≤(n:Int):=by omega
 have hb4: ¬(n=i):=by omega
 have hii:i≤n:=by omega
 go_enter Tryz.func108,Tryz.ntmps108
 go_wp2_with (first
  |(at_builtin;refine Lib.wpList_append_run _ rfl _ _ _ _ rfl _ _ rfl rfl _ _ (hrz _) ?_)
  |(at_builtin;refine wpList_copy_run _ rfl _ _ 163 163 rfl _ _ rfl rfl (hcp2 _) ?_))
 rename_i hKn
 go_region_law (refine step_copy_run rfl _ _ 163 163 rfl _ _ (by simp[Act.eval,Act.put]) (by simp[Act.eval,Act.put]) (hcp3 _) ?_)
 go_simp
 refine hKn _ _ ?_
 clear hKn
 go_wp2_with fail
 go_ret
 exact⟨HF.out,HT.out⟩
theorem Iinsert_any (v:Value) (n i vb:Nat) (xs vs:List Value) (w:World) (ho:w.ownsRow 0 170 2 v n xs) (hv:w.heap[vb]? =some (.cells vs.toArray 170 (0,0))) (hvl:vs.length=2) (hvg:v.ownBlock≠some vb) (hin:i≤n) (hn:n<1000) (h1: ∀u∈xs,u.oneCell'=true) (h1v: ∀u∈vs,u.oneCell'=true):
  Calls Tryz.prog 108 #[v,.int .i64 i,.slice (some ⟨vb,0,none⟩) 1 1] w fun x w'=>IInsOut v n i xs vs w x w'∧Tch (fun i=>v.ownBlock=some i) w w':=by
 rcases Nat.lt_or_ge i n with h|h
 ·obtain⟨g,c,cur,rfl,_,hg,hnc,hcm,hcs,hx⟩:=own_open ho (by omega)
  have hvg':vb≠g:=fun e=>hvg (by rw[e];rfl)
  rcases Nat.lt_or_ge n c with h2|h2
  ·exact Iinsert_room g c n i vb cur xs vs w hg hcm hcs hx hv hvl hvg' h (by omega) hn h1 h1v
  ·obtain rfl:c=n:=by omega
   exact Iinsert_grow g c i vb cur xs vs w hg hcs hx hv hvl h hn h1 h1v
 ·obtain rfl:i=n:=by omega
  exact Iinsert_end v i vb xs vs w ho hv hvl hn h1v
abbrev pv (q:Nat):Value:= .pointer (some ⟨q,0,none⟩)
theorem own_up {w:World} {t:TypeId} {sz n N:Nat} {v:Value} {xs:List Value} (h:w.ownsRow 0 t sz v n xs) (hg: ∀g,v.ownBlock=some g→N≤g):w.ownsRow N t sz v n xs:=by
 obtain⟨h1,h2⟩:=h
 refine⟨h1,?_⟩
 rcases h2 with h2|⟨g,c,cur,hv,_,hh,hr⟩
 ·exact Or.inl h2
 ·exact Or.inr ⟨g,c,cur,hv,hg g (by rw[hv];rfl),hh,hr⟩
theorem own_ge {w:World} {t:TypeId} {sz n N:Nat} {v:Value} {xs:List Value} (h:w.ownsRow N t sz v n xs) {g:Nat} (e:v.ownBlock=some g):N≤g∧g<w.heap.size:=by
 rcases h.2 with⟨e1,_⟩|⟨g1,c1,u1,e1,hb,hh,_⟩
 ·rw[e1] at e;cases e
 ·rw[e1] at e
  have:g1=g:=by injection e
  subst this
  exact⟨hb,blk_lt hh⟩
theorem own_neb {w:World} {t t':TypeId} {sz n N g:Nat} {v:Value} {xs:List Value} {cs:Array Value} (h:w.ownsRow N t sz v n xs) (hg:w.heap[g]? =some (.cells cs t' (0,0))) (ht:t≠t'):v.ownBlock≠some g:=fun e=>by
 rcases h.2 with⟨e1,_⟩|⟨g1,c1,u1,e1,hb,hh,_⟩
 ·rw[e1] at e;cases e
 ·rw[e1] at e
  have:g1=g:=by injection e
  subst this
  rw[hg] at hh
  injection hh with hh
  injection hh with _ hh
  exact ht hh.symm
def Cel (w:World) (i:Nat):Prop:= ∃cs ty,w.heap[i]? =some (.cells cs ty (0,0))
theorem own_cel {w:World} {t:TypeId} {sz n N:Nat} {v:Value} {xs:List Value} (h:w.ownsRow N t sz v n xs) {g:Nat} (e:v.ownBlock=some g):Cel w g:=by
 rcases h.2 with⟨e1,_⟩|⟨g1,c1,u1,e1,hb,hh,_⟩
 ·rw[e1] at e;cases e
 ·rw[e1] at e
  have:g1=g:=by injection e
  subst this
  exact⟨_,_,hh⟩
structure LF (N:Nat) (w:World) (p:Nat) (iv:Value) (l:List It):Prop where
 lo:N≤p
 nd:ND w p iv (.slice none 0 0) l.length
 its:w.ownsRow N 170 2 iv l.length (icl l)
 so:Sorted l
theorem LF.tch {N:Nat} {S:Nat→Prop} {w w':World} {p:Nat} {iv:Value} {l:List It} (h:LF N w p iv l) (t:Tch S w w') (hS: ∀k,N≤k→k<w.heap.size→ ¬S k):LF N w' p iv l:=
 ⟨h.lo,h.nd.tch t (hS p h.lo (blk_lt h.nd)),own_tch h.its t (fun g e=>by have:=own_ge h.its e;exact hS g this.1 this.2),h.so⟩
theorem LF.cel {N:Nat} {S:Nat→Prop} {w w':World} {p:Nat} {iv:Value} {l:List It} (h:LF N w p iv l) (t:Tch S w w') (hS: ∀k,Cel w k→ ¬S k):LF N w' p iv l:=
 ⟨h.lo,h.nd.tch t (hS p ⟨_,_,h.nd⟩),own_tch h.its t (fun g e=>hS g (own_cel h.its e)),h.so⟩
theorem LF.no {N:Nat} {w w':World} {p:Nat} {iv:Value} {l:List It} (h:LF N w p iv l) (t:Tch (fun _=>False) w w'):LF N w' p iv l:=h.tch t (fun _ _ _ e=>e)
theorem ins_sorted {x y:List It} {k:ByteArray} {v:GV} (hs:Sorted (x++y)) (hl: ∀e∈x,Lo k e) (hh: ∀e∈y,Hi k e):Sorted (x++(k,v)::y):=by
 obtain⟨h1,h2,h3⟩:=List.pairwise_append.1 hs
 refine List.pairwise_append.2 ⟨h1,List.pairwise_cons.2 ⟨fun e he=>?_,h2⟩,fun a ha b hb=>?_⟩
 ·have:=hh e he
  have:=kc_flip e.1 k
  unfold Hi at*
  unfold KL
  show kc k e.1<0
  omega
 ·rcases List.mem_cons.1 hb with rfl|hb
  ·exact hl a ha
  ·exact h3 a ha b hb
theorem nput_any (N:Nat) (w:World) (p:Nat) (iv:Value) (l:List It) (k:ByteArray) (v:GV) (h:LF N w p iv l) (hl:l.length<10) (hk: ∀e∈l,e.1≠k) (hN:N≤w.heap.size):
  Calls Tryz.prog 102 #[pv p,.string k,ev v] w fun x w'=>x= .returned (.tuple #[.slice none 0 0,.bool false])∧ ∃iv' l',LF N w' p iv' l'∧(∃x y,l=x++y∧l'=x++(k,v)::y)∧Tch (fun i=>i=p∨iv.ownBlock=some i) w w':=by
 have H:Hid (LF N w p iv l):=h
 have q:=find_any p l k iv (.slice none 0 0) _ w h.nd (own_low h.its (Nat.zero_le _)) h.so (by omega)
 have Hk:Hid (∀e∈l,e.1≠k):=hk
 have HN:Hid (N≤w.heap.size):=hN
 have Hl10:Hid (l.length<10):=hl
 clear h hk hN
 go_enter Tryz.func102,Tryz.ntmps102
 go_wp2_with fail
 refine q.mono ?_
 rintro x w1 ⟨⟨i,th,rfl,hF⟩,t1⟩
 clear q
 cases th with
 |true=>
  obtain⟨it,hit,e⟩:=hF.at_ rfl
  exact absurd e (Hk.out it (List.mem_of_getElem? hit))
 |false=>
  have h1:=H.out.no t1
  have c1:=h1.nd.cells.2.1
  obtain⟨io,ic,rfl⟩:=row_slice h1.its
  obtain⟨w2,hw2⟩: ∃w2,w2=w1.alloc (.cells #[.string k,ev v] 170):=⟨_,rfl⟩
  have t2:Tch (fun _=>False) w1 w2:=by rw[hw2];exact Tch.alloc _ _ _
  have hle:=hF.le
  have qi:=Iinsert_any (.slice io l.length ic) l.length i w1.heap.size (icl l) [.string k,ev v] w2 (own_low (own_tch h1.its t2 (fun _ _ e=>e)) (Nat.zero_le _)) (by rw[hw2];exact alloc_new _ _) rfl (fun e=>by have:=(own_ge h1.its e).2;omega) hle (by omega) (icl_one _) (by simp[Value.oneCell'])
  have c0:=h1.nd.cells.1
  have H1:Hid (LF N w1 p (.slice io l.length ic) l):=h1
  obtain⟨n,hn⟩: ∃n,n=l.length:=⟨_,rfl⟩
  rw[←hn] at c0 qi
  have Hn:Hid (n=l.length):=hn
  have Hw2:Hid _:=hw2
  have T12:Hid (Tch (fun _=>False) w1 w2):=t2
  have T01:Hid (Tch (fun _=>False) w w1):=t1
  have HF:Hid (Found l k i false):=hF
  clear h1 hn hw2 t2 t1 hF hle
  have ql:Calls Tryz.prog 107 #[pv p] w1 fun x w'=>x= .returned (.bool true)∧w'=w1:=by
   clear qi c0
   go_enter Tryz.func107,Tryz.ntmps107
   go_wp2
   go_ret
   exact⟨rfl,rfl⟩
  clear c1
  go_wp2_with fail
  refine ql.mono ?_
  rintro x w1' ⟨rfl,hw1⟩
  subst hw1
  clear ql
  go_wp2_with fail
  have hw:=Hw2.out
  rw[←hw]
  clear hw c0
  refine qi.mono ?_
  rintro x w3 ⟨⟨v3,rfl,own3,hb3⟩,t3⟩
  have e3:(icl l).take (i*2)++[.string k,ev v]++(icl l).drop (i*2)=icl (l.take i++(k,v)::l.drop i):=by
   rw[icl_take,icl_drop,icl_app,icl_cons,List.append_assoc]
  rw[e3] at own3
  obtain⟨l',hl'⟩: ∃l',l'=l.take i++(k,v)::l.drop i:=⟨_,rfl⟩
  rw[←hl'] at own3
  have hll:l'.length=n+1:=by have:=HF.out.le;rw[hl',Hn.out];simp only[List.length_append,List.length_take,List.length_cons,List.length_drop];omega
  obtain⟨o3,c3,rfl⟩:=row_slice own3
  have hpb: ∀g,(Value.slice io n ic).ownBlock=some g→N≤g:=fun g e=>by rw[Hn.out] at e;exact(own_ge H1.out.its e).1
  have hN1:N≤w2.heap.size:=Nat.le_trans HN.out (Nat.le_trans T01.out.size T12.out.size)
  have own3':w3.ownsRow N 170 2 (.slice o3 (n+1) c3) (n+1) (icl l'):=own_up own3 (fun g e=>by
   rcases hb3 with e2|⟨g2,e2,h2⟩
   ·exact hpb g (by rw[←e2];exact e)
   ·rw[e] at e2;injection e2 with e2;omega)
  have nd3:ND w3 p (.slice io n ic) (.slice none 0 0) n:=by
   have:=(H1.out.nd.tch T12.out (fun e=>e)).tch t3 (fun e=>by rw[Hn.out] at e;exact own_neb (own_tch H1.out.its T12.out (fun _ _ e=>e)) (H1.out.nd.tch T12.out (fun e=>e)) (by decide) e)
   rw[Hn.out];exact this
  obtain⟨f1, -,f2,f3⟩:=nd3.cells
  have f30:=f3 0
  have f32:=f3 2
  have hn16:(n:Int)<100:=by have:=Hl10.out;have:=Hn.out;omega
  have ndS:ND ((w3.setCell ⟨p,0,none⟩ (.slice o3 (n+1) c3)).setCell ⟨p,2,none⟩ (.int .i64 ((n:Int)+1))) p (.slice o3 (n+1) c3) (.slice none 0 0) ((l'.length:Nat):Int):=by
   unfold ND at nd3 ⊢
   rw[blk_set (blk_set nd3 _),hll];rfl
  have tS:Tch (fun i=>i=p) w3 ((w3.setCell ⟨p,0,none⟩ (.slice o3 (n+1) c3)).setCell ⟨p,2,none⟩ (.int .i64 ((n:Int)+1))):=(Tch.setCell (fun i=>i=p) _ ⟨p,0,none⟩ _ rfl).setCellR _ _ rfl
  have HO:Hid (∃iv' l',LF N ((w3.setCell ⟨p,0,none⟩ (.slice o3 (n+1) c3)).setCell ⟨p,2,none⟩ (.int .i64 ((n:Int)+1))) p iv' l'∧(∃x y,l=x++y∧l'=x++(k,v)::y)∧Tch (fun i=>i=p∨(Value.slice io l.length ic).ownBlock=some i) w ((w3.setCell ⟨p,0,none⟩ (.slice o3 (n+1) c3)).setCell ⟨p,2,none⟩ (.int .i64 ((n:Int)+1)))):=by
   refine⟨.slice o3 (n+1) c3,l',⟨H1.out.lo,ndS,?_,?_⟩,⟨l.take i,l.drop i,(List.take_append_drop i l).symm,hl'⟩,?_⟩
   ·rw[hll]
    exact own_tch own3' tS (fun g e e2=>own_neb own3' nd3 (by decide) (by rw[←e2];exact e))
   ·rw[hl']
    exact ins_sorted (by rw[List.take_append_drop];exact H1.out.so) HF.out.lo (HF.out.hi rfl)
   ·refine((T01.out.trans' T12.out).mono (fun _ _ e=>e.elim)).trans' ((t3.mono (fun i _ e=>.inr (by rw[←Hn.out];exact e))).trans' (tS.mono (fun i _ e=>.inl e)))
  clear own3 own3' hb3 t3 e3 hl' ndS tS f3 nd3 hpb hN1 qi hll
  go_wp2_with fail
  go_ret2
  exact⟨rfl,HO.out⟩
def TW (N:Nat) (w:World) (b:Nat) (l:List It):Prop:=N≤b∧((l=[]∧w.heap[b]? =some (.cells #[.pointer none] 162 (0,0)))∨ ∃p iv,w.heap[b]? =some (.cells #[pv p] 162 (0,0))∧LF N w p iv l)
theorem TW.lt {N:Nat} {w:World} {b:Nat} {l:List It} (h:TW N w b l):b<w.heap.size:=by
 rcases h.2 with⟨_,h⟩|⟨_,_,h,_⟩<;>exact blk_lt h
theorem TW.tch {N:Nat} {S:Nat→Prop} {w w':World} {b:Nat} {l:List It} (h:TW N w b l) (t:Tch S w w') (hS: ∀k,N≤k→k<w.heap.size→ ¬S k):TW N w' b l:=by
 refine⟨h.1,?_⟩
 have hb:=hS b h.1 h.lt
 rcases h.2 with⟨e,h2⟩|⟨p,iv,h2,h3⟩
 ·exact .inl ⟨e,(t.block b (blk_lt h2) hb).trans h2⟩
 ·exact .inr ⟨p,iv,(t.block b (blk_lt h2) hb).trans h2,h3.tch t hS⟩
theorem TW.no {N:Nat} {w w':World} {b:Nat} {l:List It} (h:TW N w b l) (t:Tch (fun _=>False) w w'):TW N w' b l:=h.tch t (fun _ _ _ e=>e)
theorem TW.cel {N:Nat} {S:Nat→Prop} {w w':World} {b:Nat} {l:List It} (h:TW N w b l) (t:Tch S w w') (hS: ∀k,Cel w k→ ¬S k):TW N w' b l:=by
 refine⟨h.1,?_⟩
 rcases h.2 with⟨e,h2⟩|⟨p,iv,h2,h3⟩
 ·exact .inl ⟨e,(t.block b (blk_lt h2) (hS b ⟨_,_,h2⟩)).trans h2⟩
 ·exact .inr ⟨p,iv,(t.block b (blk_lt h2) (hS b ⟨_,_,h2⟩)).trans h2,h3.cel t hS⟩
theorem TW.so {N:Nat} {w:World} {b:Nat} {l:List It} (h:TW N w b l):Sorted l:=by
 rcases h.2 with⟨rfl,_⟩|⟨_,_,_,h3⟩
 ·exact List.Pairwise.nil
 ·exact h3.so
def PutOut (N:Nat) (w:World) (b:Nat) (l:List It) (k:ByteArray) (v:GV) (x:Ending) (w':World):Prop:=x= .returned (.tuple #[.slice none 0 0,.bool false])∧ ∃l',TW N w' b l'∧(∃x y,l=x++y∧l'=x++(k,v)::y)∧Tch (fun i=>N≤i∧Cel w i) w w'
theorem put_t (N:Nat) (w:World) (b:Nat) (l:List It) (k:ByteArray) (v:GV) (h:TW N w b l) (hl:l.length<10) (hk: ∀e∈l,e.1≠k) (hN:N≤w.heap.size):
  Calls Tryz.prog 97 #[pv b,.string k,ev v] w (PutOut N w b l k v):=by
 obtain⟨hb,⟨rfl,h2⟩|⟨p,iv,h2,h3⟩⟩:=h
 ·obtain⟨P,hP⟩: ∃P,P=w.heap.size:=⟨_,rfl⟩
  obtain⟨w1,hw1⟩: ∃w1,w1=(w.alloc (.cells #[.slice none 0 0,.slice none 0 0,.int .i64 0] 166)).setCell ⟨b,0,none⟩ (pv P):=⟨_,rfl⟩
  have t0:=Tch.alloc (fun _=>False) w (.cells #[.slice none 0 0,.slice none 0 0,.int .i64 0] 166)
  have hb0:(w.alloc (.cells #[.slice none 0 0,.slice none 0 0,.int .i64 0] 166)).heap[b]? =some (.cells #[.pointer none] 162 (0,0)):=(t0.block b (blk_lt h2) (fun e=>e)).trans h2
  have hb1:w1.heap[b]? =some (.cells #[pv P] 162 (0,0)):=by rw[hw1,blk_set hb0];rfl
  have ts:Tch (fun i=>i=b) (w.alloc (.cells #[.slice none 0 0,.slice none 0 0,.int .i64 0] 166)) w1:=by rw[hw1];exact Tch.setCell _ _ _ _ rfl
  have hbl:=blk_lt h2
  have hnd:ND w1 P (.slice none 0 0) (.slice none 0 0) (([]:List It).length:Nat):=by
   have h0:ND (w.alloc (.cells #[.slice none 0 0,.slice none 0 0,.int .i64 0] 166)) P (.slice none 0 0) (.slice none 0 0) 0:=by unfold ND;rw[hP];exact alloc_new _ _
   exact h0.tch ts (by omega)
  have hlf:LF N w1 P (.slice none 0 0) []:=⟨by omega,hnd,World.ownsRow_nil _ _ _ _,List.Pairwise.nil⟩
  have q:=nput_any N w1 P (.slice none 0 0) [] k v hlf (by simp) (fun e he=>by cases he) (Nat.le_trans hN (Nat.le_trans t0.size ts.size))
  have c0:w.cell? ⟨b,0,none⟩=some (.pointer none):=by rw[blk_cell h2];rfl
  have c0':(w.alloc (.cells #[.slice none 0 0,.slice none 0 0,.int .i64 0] 166)).cell? ⟨b,0,none⟩=some (.pointer none):=by rw[blk_cell hb0];rfl
  have f0':=blk_frozen hb0 0
  have c1:w1.cell? ⟨b,0,none⟩=some (pv P):=by rw[blk_cell hb1];rfl
  have HP:Hid (P=w.heap.size):=hP
  have Hw1:Hid (w1=(w.alloc (.cells #[.slice none 0 0,.slice none 0 0,.int .i64 0] 166)).setCell ⟨b,0,none⟩ (pv P)):=hw1
  have Hb1:Hid (w1.heap[b]? =some (.cells #[pv P] 162 (0,0))):=hb1
  have T01:Hid (Tch (fun i=>N≤i∧Cel w i) w w1):=(t0.mono (fun _ _ h=>h.elim)).trans' (ts.mono (fun i _ e=>⟨by omega,by rw[e];exact⟨_,_,h2⟩⟩))
  have HbN:Hid (N≤b∧b<P):=⟨hb,by omega⟩
  have HPw:Hid (P<w1.heap.size):=blk_lt hnd
  clear hb h2 hb0 hb1 ts hnd hlf t0 hbl hl hk hN
  rw[hw1,hP] at c1
  clear hw1 hP
  go_enter Tryz.func97,Tryz.ntmps97
  go_wp2_with fail
  rw[←HP.out]
  have hw:=Hw1.out
  rw[←hw]
  clear hw c0 c0' f0' c1
  refine q.mono ?_
  rintro x w2 ⟨rfl,iv2,l2,h2,⟨x2,y2,e1,e2⟩,t2⟩
  have hb2:w2.heap[b]? =some (.cells #[pv P] 162 (0,0)):=(t2.block b (blk_lt Hb1.out) (fun e=>by
   rcases e with e|e
   ·have:=HbN.out.2;omega
   ·cases e)).trans Hb1.out
  have hl2:l2.length=1:=by
   have:x2=[]∧y2=[]:=by simpa using e1.symm
   rw[e2,this.1,this.2];rfl
  obtain⟨io,ic,rfl⟩:=row_slice h2.its
  have c2:w2.cell? ⟨b,0,none⟩=some (pv P):=by rw[blk_cell hb2];rfl
  have c3:w2.cell? ⟨P,0,none⟩=some (.slice io 1 ic):=by have:=h2.nd.cells.1;rw[hl2] at this;exact this
  have HO:Hid (∃l',TW N w2 b l'∧(∃x y,[]=x++y∧l'=x++(k,v)::y)∧Tch (fun i=>N≤i∧Cel w i) w w2):=⟨l2,⟨HbN.out.1,.inr ⟨P,_,hb2,h2⟩⟩,⟨x2,y2,e1,e2⟩,T01.out.trans t2 (fun i hi e=>by
   rcases e with e|e
   ·have:=HP.out;omega
   ·cases e)⟩
  clear h2 e1 e2 t2 hb2 hl2 q
  go_wp2_with fail
  go_ret2
  exact⟨rfl,HO.out⟩
 ·have q:=nput_any N w p iv l k v h3 hl hk hN
  have c0:w.cell? ⟨b,0,none⟩=some (pv p):=by rw[blk_cell h2];rfl
  have Hb:Hid (w.heap[b]? =some (.cells #[pv p] 162 (0,0))):=h2
  have H3:Hid (LF N w p iv l):=h3
  have HbN:Hid (N≤b):=hb
  have Hl10:Hid (l.length<10):=hl
  clear hb h2 h3 hl hk hN
  go_enter Tryz.func97,Tryz.ntmps97
  go_wp2_with fail
  clear c0
  refine q.mono ?_
  rintro x w2 ⟨rfl,iv2,l2,h2,⟨x2,y2,e1,e2⟩,t2⟩
  have hb2:w2.heap[b]? =some (.cells #[pv p] 162 (0,0)):=(t2.block b (blk_lt Hb.out) (fun e=>by
   rcases e with e|e
   ·have h1:=H3.out.nd
    unfold ND at h1
    rw[←e,Hb.out] at h1
    injection h1 with h1
    injection h1 with _ h1
    exact absurd h1 (by decide)
   ·exact own_neb H3.out.its Hb.out (by decide) e)).trans Hb.out
  have hl2:l2.length=l.length+1:=by rw[e2,e1];simp only[List.length_append,List.length_cons];omega
  obtain⟨n2,hn2⟩: ∃n2,n2=l2.length:=⟨_,rfl⟩
  obtain⟨io,ic,rfl⟩:=row_slice h2.its
  have c2:w2.cell? ⟨b,0,none⟩=some (pv p):=by rw[blk_cell hb2];rfl
  have c3:w2.cell? ⟨p,0,none⟩=some (.slice io n2 ic):=by rw[hn2];exact h2.nd.cells.1
  have h15: ¬(15:Int)<(n2:Int):=by have:=Hl10.out;omega
  have HO:Hid (∃l',TW N w2 b l'∧(∃x y,l=x++y∧l'=x++(k,v)::y)∧Tch (fun i=>N≤i∧Cel w i) w w2):=⟨l2,⟨HbN.out,.inr ⟨p,_,hb2,h2⟩⟩,⟨x2,y2,e1,e2⟩,t2.mono (fun i _ e=>by
   rcases e with e|e
   ·rw[e];exact⟨H3.out.lo,_,_,H3.out.nd⟩
   ·exact⟨(own_ge H3.out.its e).1,own_cel H3.out.its e⟩)⟩
  clear h2 e1 e2 t2 hb2 hl2 q hn2
  go_wp2_with fail
  go_ret2
  exact⟨rfl,HO.out⟩
theorem new_t (w:World):Calls Tryz.prog 96 #[] w fun x w'=>x= .returned (pv w.heap.size)∧TW w.heap.size w' w.heap.size []∧Tch (fun _=>False) w w':=by
 go_enter Tryz.func96,Tryz.ntmps96
 go_wp2
 go_ret
 exact⟨rfl,⟨Nat.le_refl _,.inl ⟨rfl,alloc_new _ _⟩⟩,Tch.alloc _ _ _⟩
end Go.Proofs.YtppokgdofgigfaaGreat.R
