import Derived.Test.YtppokgdofgigfaaGreatRows
import Derived.ProofKit
import Derived.SizedLaws
import Derived.OpenShut
import Derived.Deep.Slices
import Derived.Deep.DeepHandedRow
import Derived.Test.YtppokgdofgigfaaGreatVL3
set_option maxRecDepth 100000
namespace Go.Proofs.YtppokgdofgigfaaGreat.F
open Go.ChangeShapes Go.WideShapes Go.ChangeAt Go.RowKit Go.Deep Go
set_option maxRecDepth 100000
theorem tr_own:ownKnob Tryz.prog.godebug=none:=by kernel_rfl
theorem tr_laidOut:laidOutB Tryz.prog=true:=by kernel_rfl
theorem c_int:Tryz.prog.cellsOf 3=1:=by kernel_rfl
theorem c_act:Tryz.prog.cellsOf 29=4:=by kernel_rfl
theorem wf_i64 {n:Int} (h:(Lit.int .i64 n).wf=true): -9223372036854775808≤n∧n≤9223372036854775807:=by
 have:=bounds_i64 h
 omega
theorem list4 {α:Type} (l:List α) (h:l.length=4): ∃a b c d,l=[a,b,c,d]:=by
 rcases l with _|⟨a,_|⟨b,_|⟨c,_|⟨d,_|⟨_,_⟩⟩⟩⟩⟩<;>simp at h
 exact⟨a,b,c,d,rfl⟩
section
variable {H:Type} {enc:TypeId×Value→H} {W:World} {fuel:Nat} {x:DataW H×List MemPlace} {cs:List Value}
def aCs (a:Ac):List Value:=[.int .i64 a.kd,.int .i64 a.who,.int .i64 a.key,.int .i64 a.n]
theorem act_of (h:DataW.trod enc Tryz.prog W 0 (fun _=>true) true fuel 29 cs=some x): ∃a:Ac,cs=aCs a∧AcOk a:=by
 obtain⟨xs,n',_,_,hcl,hxl,hf⟩:=DataW.trod_struct Tryz.underlying29 h
 rw[c_act] at hcl
 have hxs:xs.length=4:=hxl
 obtain⟨c0,c1,c2,c3,rfl⟩:=list4 cs hcl
 obtain⟨y0,y1,y2,y3,rfl⟩:=list4 xs hxs
 have f0:DataW.trod enc Tryz.prog W 0 (fun _=>true) true n' 3 [c0]=some y0:=by have:=hf 0 _ rfl;simpa[c_int] using this
 have f1:DataW.trod enc Tryz.prog W 0 (fun _=>true) true n' 3 [c1]=some y1:=by have:=hf 1 _ rfl;simpa[c_int] using this
 have f2:DataW.trod enc Tryz.prog W 0 (fun _=>true) true n' 3 [c2]=some y2:=by have:=hf 2 _ rfl;simpa[c_int] using this
 have f3:DataW.trod enc Tryz.prog W 0 (fun _=>true) true n' 3 [c3]=some y3:=by have:=hf 3 _ rfl;simpa[c_int] using this
 obtain⟨kd,e0,_,w0⟩:=DataW.trod_int Tryz.underlying3 f0
 obtain⟨who,e1,_,w1⟩:=DataW.trod_int Tryz.underlying3 f1
 obtain⟨key,e2,_,w2⟩:=DataW.trod_int Tryz.underlying3 f2
 obtain⟨n,e3,_,w3⟩:=DataW.trod_int Tryz.underlying3 f3
 simp at e0 e1 e2 e3
 subst e0 e1 e2 e3
 exact⟨⟨kd,who,key,n⟩,rfl,wf_i64 w0,wf_i64 w1,wf_i64 w2,wf_i64 w3⟩
theorem acts_of {ao:Option Addr} {len cap:Nat} (h:DataW.trod enc Tryz.prog W 0 (fun _=>true) true fuel 22 [.slice ao len cap]=some x): ∃acs:List Ac,len=acs.length∧AcR W ao acs∧ ∀a∈acs,AcOk a:=by
 rcases open_slice Tryz.underlying22 h with⟨h1,_⟩|⟨a,len',cap',m,n,D,Pl,h1,_,hl,hmx,hm,hx,hee⟩
 ·simp at h1
  obtain⟨rfl,rfl,rfl⟩:=h1
  exact⟨[],rfl,fun i a hi=>by simp at hi,fun a ha=>by cases ha⟩
 ·simp only[List.cons.injEq,Value.slice.injEq,and_true] at h1
  obtain⟨rfl,rfl,rfl⟩:=h1
  have hm':m=cap:=by simpa using hm
  rw[c_act] at hee
  have key: ∀i,i<len→ ∃d:Ac,(∀j u,(aCs d)[j]? =some u→W.cell? ((a.add (i*4)).add j)=some u)∧AcOk d:=by
   intro i hi
   obtain⟨cs',hc',ht⟩:=hee i (by omega)
   obtain⟨_,hcl,hcc⟩:=World.cells?_some hc'
   obtain⟨d,rfl,hok⟩:=act_of ht
   refine⟨d,fun j u hu=>?_,hok⟩
   have hj:j<(aCs d).length:=(List.getElem?_eq_some_iff.1 hu).1
   have g0:=hcc j hj
   rw[g0];exact hu
  have pick: ∃l:List Ac,l.length=len∧ ∀i (hi:i<l.length),(∀j u,(aCs l[i])[j]? =some u→W.cell? ((a.add (i*4)).add j)=some u)∧AcOk l[i]:=by
   classical
   refine⟨List.ofFn (fun i:Fin len=>(key i.1 i.2).choose),by simp,fun i hi=>?_⟩
   have hi':i<len:=by simpa using hi
   rw[List.getElem_ofFn]
   exact(key i hi').choose_spec
  obtain⟨l,rfl,hls⟩:=pick
  obtain⟨b,off,spot⟩:=a
  have hsp:l≠[]→spot=none:=fun hne=>by
   have h0:=(hls 0 (List.length_pos_iff.2 hne)).1 0 _ rfl
   simpa[Addr.add] using World.cell?_spot h0
  refine⟨l,rfl,fun i d hd=>?_,fun d hd=>?_⟩
  ·obtain⟨hi,e⟩:=List.getElem?_eq_some_iff.1 hd
   have hne:l≠[]:=fun e=>by rw[e] at hi;simp at hi
   have hs:=hsp hne
   subst hs
   have hc:=(hls i hi).1
   rw[e] at hc
   have c0:=hc 0 _ rfl
   have c1:=hc 1 _ rfl
   have c2:=hc 2 _ rfl
   have c3:=hc 3 _ rfl
   simp only[add_plain,Nat.add_zero] at c0 c1 c2 c3
   exact⟨b,off,rfl,cell_lt c0,c0,c1,c2,c3⟩
  ·obtain⟨i,hi,rfl⟩:=List.getElem_of_mem hd
   exact(hls i hi).2
theorem ints_of {ao:Option Addr} {len cap:Nat} (h:DataW.trod enc Tryz.prog W 0 (fun _=>true) true fuel 23 [.slice ao len cap]=some x):
  ∃ns:List Int,len=ns.length∧IR W ao ns∧(∀n∈ns, -9223372036854775808≤n∧n≤9223372036854775807)∧ns.length≤9223372036854775807:=by
 rcases open_slice Tryz.underlying23 h with⟨h1,_⟩|⟨a,len',cap',m,n,D,Pl,h1,_,hl,hmx,hm,hx,hee⟩
 ·simp at h1
  obtain⟨rfl,rfl,rfl⟩:=h1
  exact⟨[],rfl,fun k n hk=>by simp at hk,fun n hn=>by simp at hn,by simp⟩
 ·simp only[List.cons.injEq,Value.slice.injEq,and_true] at h1
  obtain⟨rfl,rfl,rfl⟩:=h1
  have hm':m=cap:=by simpa using hm
  rw[c_int] at hee
  have key: ∀i,i<len→ ∃u:Int,W.cell? (a.add i)=some (.int .i64 u)∧ -9223372036854775808≤u∧u≤9223372036854775807:=by
   intro i hi
   obtain⟨cs',hc',ht⟩:=hee i (by omega)
   obtain⟨_,hcl,hcc⟩:=World.cells?_some hc'
   have hcs: ∃v,cs'=[v]:=by
    rcases cs' with _|⟨v,_|⟨_,_⟩⟩
    ·simp at hcl
    ·exact⟨v,rfl⟩
    ·simp at hcl
   obtain⟨v,rfl⟩:=hcs
   obtain⟨u,e,_,hw⟩:=DataW.trod_int Tryz.underlying3 ht
   simp only[List.cons.injEq,and_true] at e
   subst e
   have g0:=hcc 0 (by simp)
   refine⟨u,by simpa[Addr.add] using g0,?_⟩
   exact wf_i64 hw
  have pick: ∃ns:List Int,ns.length=len∧ ∀i (hi:i<ns.length),W.cell? (a.add i)=some (.int .i64 ns[i])∧ -9223372036854775808≤ns[i]∧ns[i]≤9223372036854775807:=by
   classical
   refine⟨List.ofFn (fun i:Fin len=>(key i.1 i.2).choose),by simp,fun i hi=>?_⟩
   have hi':i<len:=by simpa using hi
   rw[List.getElem_ofFn]
   exact(key i hi').choose_spec
  obtain⟨ns,rfl,hns⟩:=pick
  refine⟨ns,rfl,fun k n hk=>?_,fun n hn=>?_,by unfold maxLen at hmx;omega⟩
  ·obtain⟨hk',e⟩:=List.getElem?_eq_some_iff.1 hk
   obtain⟨b,off,spot⟩:=a
   have hspot:spot=none:=by
    obtain⟨h0',_⟩:=hns 0 (by omega)
    simpa[Addr.add] using World.cell?_spot h0'
   subst hspot
   refine⟨b,off,rfl,?_⟩
   obtain⟨h0',_⟩:=hns k hk'
   rw[←e, ←add_plain]
   exact h0'
  ·obtain⟨i,hi,rfl⟩:=List.getElem_of_mem hn
   exact(hns i hi).2
end
theorem snap_lifted (os:Os) (started:os.Started) (H:Type) (enc:TypeId×Value→H):
  ReturnsInHanded {} Tryz.checked os 3 .any (Rows.mvccSnapshotsSpec.pre6 enc Tryz.prog Tryz.f3 Rows.mvccSnapshotsRow.domain false) (Rows.mvccSnapshotsSpec.post enc Tryz.prog Tryz.f3 false true false false):=by
 refine returnsInHanded_of_change_sized (C:=Tryz.checked) tr_own started (by kernel_rfl) Tryz.func3
  (ChangeSpec.witness6 (enc:=enc) (C:=Tryz.checked) false ⟨#[],#[.slice none 0 0,.slice none 0 0],[]⟩ 8 (by kernel_rfl) (by kernel_rfl) (by kernel_rfl) (by kernel_rfl)) ?_
 intro W base args ds gs before hval0 hW _ _ _
 have hval: ∀(j:Nat) t v,Tryz.f3.params[j]? =some t→args[j]? =some v→Value.okWide Tryz.prog W .any base t v:=hval0
 have hW':=hW
 obtain⟨p,q,hA0,hV,rfl,_,_⟩:=hW
 have hA:DataW.TrodAll enc Tryz.prog W 0 (fun _=>true) true Tryz.f3.params.toList args.toList ds p:=hA0
 rw[Tryz.params3] at hA hval
 obtain⟨v0,v1,d0,d1,p0,p1,rfl,rfl,rfl,h0,h1⟩:=trodAll_two hA
 obtain⟨rfl,rfl⟩:=trodVars_none hV
 obtain⟨ro,len,rc,rfl⟩:=okWide_slice Tryz.underlying22 (hval 0 22 v0 rfl rfl)
 obtain⟨vo,vlen,vc,rfl⟩:=okWide_slice Tryz.underlying23 (hval 1 23 v1 rfl rfl)
 have h0k:=h0
 have h1k:=h1
 obtain⟨fuel0,hf0⟩:=h0
 obtain⟨fuel1,hf1⟩:=h1
 simp only[List.append_nil] at hW'
 have hlt: ∀x∈p0++p1,x.block<W.heap.size:=fun x hx=>by simpa using hW'.lt x (by simpa using hx)
 obtain⟨acs,hlen,hs0,hr0⟩:=acts_of hf0
 obtain⟨vs,hvl,hs1,hr1,hb1⟩:=ints_of hf1
 clear hA0 hval0
 have e1:Rows.mvccSnapshotsSpec.fn H ([d0,d1]++[])= { results:=[.lit (.bool true)],args:=[d0,d1] } :=by simp[Rows.mvccSnapshotsSpec]
 subst hlen hvl
 refine(snaps_law W ro rc acs hs0 hr0 vo vc vs hs1 hr1 hb1).mono fun e W' ⟨he,ht⟩=>?_
 subst he
 have hB:Below W.heap.size W W':=ht.below (Nat.le_refl _) (fun _ _ h=>h)
 refine⟨_,rfl,_,_,_,[],p0++p1,[],hW',?_,?_,?_,hB.frame _,fun h=>by cases h⟩
 ·rw[e1];exact trodAll_mk1 (shut_bool Tryz.underlying4 true)
 ·rw[e1]
  exact trodAll_mk2 (Below.trod tr_laidOut (by kernel_rfl) (of_decide_eq_true (by kernel_rfl)) h0k hB (fun x hx=>hlt x (List.mem_append_left _ hx))) (Below.trod tr_laidOut (by kernel_rfl) (of_decide_eq_true (by kernel_rfl)) h1k hB (fun x hx=>hlt x (List.mem_append_right _ hx)))
 ·rw[e1];rfl
theorem snaps_holds:Rows.MvccSnapshotsSaid:=
 OpenClaim.holds_of_wide 3 Tryz.f3 rfl rfl rfl rfl rfl rfl rfl ⟨rfl,rfl,rfl,rfl,rfl⟩ rfl rfl rfl rfl rfl (by kernel_rfl) Tryz.func3 (by kernel_rfl)
  (of_decide_eq_true (by kernel_rfl)) (by unfold Func.isWrapper;first|(rw[if_pos (by decide+kernel)];kernel_rfl)|(rw[if_neg (by decide+kernel)];exact⟨rfl,rfl⟩))
  (fun os started H enc _=>snap_lifted os started H enc)
end Go.Proofs.YtppokgdofgigfaaGreat.F
namespace Go.Proofs.YtppokgdofgigfaaGreat
theorem mvccSnapshots_holds:Rows.MvccSnapshotsSaid:=F.snaps_holds
end Go.Proofs.YtppokgdofgigfaaGreat
