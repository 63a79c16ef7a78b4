import Derived.Test.YtaiadknglhemaaaGreatDoorVComp
import Derived.Test.YtaiadknglhemaaaGreatDoorRows
import Derived.Test.YtaiadknglhemaaaGreatDoorCKeeps
import Derived.Test.YtaiadknglhemaaaGreatDoorCFit
import Derived.ProofKit
import Derived.SizedLaws
import Derived.OpenShut
import Derived.Deep.Slices
import Derived.Lib.LaidTab
import Derived.Stop.LaidErr
import Derived.Test.YtaiadknglhemaaaGreatDoorTie
import Derived.Test.YtaiadknglhemaaaGreatDoorCards
import Derived.SevenTiedAt
set_option maxRecDepth 100000
namespace Go.Proofs.YtaiadknglhemaaaGreatDoor
open Go.ChangeShapes Go.WideShapes Go.RowKit Go.Deep
set_option maxRecDepth 100000
end Go.Proofs.YtaiadknglhemaaaGreatDoor
namespace Go.Proofs.YtaiadknglhemaaaGreatDoor.C
open Go.ChangeShapes Go.WideShapes Go.ChangeAt Go.RowKit Go.Deep
set_option maxRecDepth 100000
theorem tr_own:ownKnob Tryz.prog.godebug=none:=by kernel_rfl
theorem tr_laidOut:laidOutB Tryz.prog=true:=by kernel_rfl
theorem c_str:Tryz.prog.cellsOf 9=1:=by kernel_rfl
theorem list3 {α:Type} (l:List α) (h:l.length=3): ∃c0 c1 c2,l=[c0,c1,c2]:=by
 rcases l with _|⟨c0,_|⟨c1,_|⟨c2,_|⟨c3,l⟩⟩⟩⟩<;>simp at h
 exact⟨c0,c1,c2,rfl⟩
section
variable {H:Type} {enc:TypeId×Value→H} {W:World} {fuel:Nat} {x:DataW H×List MemPlace} {cs:List Value}
end
section
variable {H:Type} {enc:TypeId×Value→H} {W:World} {fuel:Nat} {x:DataW H×List MemPlace} {cs:List Value}
instance:Inhabited Val:=⟨nullV⟩
instance:Inhabited Col:=⟨⟨⟨#[]⟩,0,false⟩⟩
end
end Go.Proofs.YtaiadknglhemaaaGreatDoor.C
namespace Go.Proofs.YtaiadknglhemaaaGreatDoor.C
open Go.ChangeShapes Go.WideShapes Go.RowKit Go.Deep
set_option maxRecDepth 100000
theorem tr_gP:Tryz.prog.globalNamed "internal/strconv.uint64pow10" =some 4:=by kernel_rfl
theorem tr_vb:Tryz.prog.globalNamed "confluence/record.verbs" =some 0:=by kernel_rfl
theorem tr_vbt:(Tryz.prog.globals[0]?).map (·.type)=some 93:=by kernel_rfl
abbrev laid6:List (String×DataW Unit):=[("math/bits.deBruijn32tab",Rows.laid_math_bits_deBruijn32tab),("math/bits.deBruijn64tab",Rows.laid_math_bits_deBruijn64tab),("internal/strconv.uint64pow10",Rows.laid_internal_strconv_uint64pow10),("errors.errorType",Rows.laid_errors_errorType),("confluence/value.words",Rows.laid_confluence_value_words),("confluence/record.verbs",Rows.laid_confluence_record_verbs)]
theorem cells_of_texts {H:Type} {enc:TypeId×Value→H} {P:Program} {w:World} {base:Nat} {sp:Nat→Bool} {held:Bool} {fuel:Nat} {t e:TypeId} {n:Nat} {cs:List Value} {zs:List (List UInt8)} {p:List MemPlace}
  (ht:P.underlying t=some (.array n e)) (he:P.underlying e=some .string) (hce:P.cellsOf e=1) (hct:P.cellsOf t=n)
  (h:DataW.trod enc P w base sp held fuel t cs=some (.agg (zs.map fun z=>.lit (.string z)),p)):cs=zs.map fun z=>Value.string ⟨z.toArray⟩:=by
 obtain⟨xs,m,_,hx,hcl,hxl,hel⟩:=DataW.trod_array ht h
 rw[hct] at hcl
 rw[hce] at hel
 simp only[Prod.mk.injEq,DataW.agg.injEq] at hx
 have hzl:zs.length=n:=by
  have:=congrArg List.length hx.1
  simp at this
  omega
 refine List.ext_getElem (by simp;omega) fun i h1 h2=>?_
 have hi:i<n:=by omega
 have hk:=hel i hi
 have hxi:i<xs.length:=by omega
 rw[List.getElem?_eq_getElem hxi,Nat.mul_one] at hk
 have hd:(cs.drop i).take 1=[cs[i]]:=by
  rw[List.drop_eq_getElem_cons (by omega)];rfl
 rw[hd] at hk
 obtain⟨s,e1,e2,_⟩:=DataW.trod_string he hk
 have e3:cs[i]= .string s:=by simpa using e1
 have e4:(zs.map fun z=>(DataW.lit (.string z):DataW H))[i]? =(xs.map (·.1))[i]? :=by rw[hx.1]
 simp only[List.getElem?_map,List.getElem?_eq_getElem hxi,List.getElem?_eq_getElem (show i<zs.length by omega),Option.map_some,Option.some.injEq] at e4
 rw[e2] at e4
 have e5:zs[i]=s.data.toList:=by simpa using e4
 rw[e3,List.getElem_map,e5]
theorem vb_of {W:World} (h:laidMet Tryz.prog [("confluence/record.verbs",Rows.laid_confluence_record_verbs)] W):HVB W:=by
 obtain⟨ps,⟨g,t,cs,f,p,q,hg,ht,hv,hd,_⟩,_⟩:=h
 obtain rfl:=Option.some.inj (tr_vb.symm.trans hg)
 obtain rfl:=Option.some.inj (tr_vbt.symm.trans ht)
 have hcs:=cells_of_texts (zs:=[[],[98,101,103,105,110],[112,97,114,116],[105,110,115,101,114,116],[117,112,100,97,116,101],[100,101,108,101,116,101],[114,101,108,101,97,115,101],[98,97,99,107],[99,111,109,109,105,116],[97,98,111,114,116],[112,114,101,112,97,114,101],[99,114,101,97,116,101],[100,114,111,112],[119,105,100,101,110],[101,109,112,116,121],[99,104,101,99,107,112,111,105,110,116]]) Tryz.underlying93 Tryz.underlying9 c_str (by kernel_rfl) hd
 intro j u hu
 rw[World.var?_cell tr_vb hv j, ←Array.getElem?_toList,hcs]
 exact hu
theorem wd_of {W:World} (h:laidMet Tryz.prog [("confluence/value.words",Rows.laid_confluence_value_words),("confluence/record.verbs",Rows.laid_confluence_record_verbs)] W):HWd W:=by
 obtain⟨ps,⟨g,t,cs,f,p,q,hg,ht,hv,hd,_⟩,_⟩:=h
 obtain rfl:=Option.some.inj (tr_ws.symm.trans hg)
 obtain rfl:=Option.some.inj (tr_wt.symm.trans ht)
 obtain⟨xs,m1,rfl,hx1,hlen,hn3,hel⟩:=DataW.trod_array Tryz.underlying224 hd
 obtain⟨x0,x1,x2,rfl⟩:=list3 xs hn3
 simp only[Prod.mk.injEq] at hx1
 have k0:=hel 0 (by decide)
 have k1:=hel 1 (by decide)
 have k2:=hel 2 (by decide)
 simp only[c_word] at k0 k1 k2
 obtain⟨t0,a0,b0,s0,e0,y0⟩:=word_of (show _=some x0 from k0)
 obtain⟨t1,a1,b1,s1,e1,y1⟩:=word_of (show _=some x1 from k1)
 obtain⟨t2,a2,b2,s2,e2,y2⟩:=word_of (show _=some x2 from k2)
 have hx2:=hx1.1
 unfold Rows.laid_confluence_value_words at hx2
 simp only[List.map_cons,List.map_nil,y0,y1,y2,DataW.agg.injEq,List.cons.injEq,DataW.lit.injEq,Lit.string.injEq,Lit.int.injEq,true_and,and_true] at hx2
 obtain⟨⟨q0,rfl,rfl,r0⟩,⟨q1,rfl,rfl,r1⟩,q2,rfl,rfl,r2⟩:=hx2
 rw[bytes_of q0.symm,bytes_of r0.symm] at e0
 rw[bytes_of q1.symm,bytes_of r1.symm] at e1
 rw[bytes_of q2.symm,bytes_of r2.symm] at e2
 have hl:cs.toList.length=12:=hlen
 have hcs:cs.toList=wordCells:=by
  have h1:cs.toList=cs.toList.take 4++((cs.toList.drop 4).take 4++(cs.toList.drop 8).take 4):=by
   rw[List.take_of_length_le (l:=cs.toList.drop 8) (by simp at hl ⊢;omega)]
   have h2:cs.toList.drop 8=(cs.toList.drop 4).drop 4:=by rw[List.drop_drop]
   rw[h2,List.take_append_drop,List.take_append_drop]
  rw[h1,show cs.toList.take 4=_ from e0,show(cs.toList.drop 4).take 4=_ from e1,show(cs.toList.drop 8).take 4=_ from e2]
  rfl
 intro j u hu
 rw[World.var?_cell tr_ws hv j, ←Array.getElem?_toList,hcs]
 exact hu
theorem of_laid6 {W:World} (h:laidMetH Tryz.prog laid6 W):HE W∧HVB W∧HP W∧HWd W:=by
 have h':laidMet Tryz.prog [("math/bits.deBruijn32tab",Rows.laid_math_bits_deBruijn32tab),("math/bits.deBruijn64tab",Rows.laid_math_bits_deBruijn64tab),("internal/strconv.uint64pow10",Rows.laid_internal_strconv_uint64pow10),("confluence/value.words",Rows.laid_confluence_value_words),("confluence/record.verbs",Rows.laid_confluence_record_verbs)] W∧handlesMet Tryz.prog [("errors.errorType",Rows.laid_errors_errorType)] W:=h
 refine⟨?_,vb_of (laidMet.tail (laidMet.tail (laidMet.tail (laidMet.tail h'.1)))),?_,wd_of (laidMet.tail (laidMet.tail (laidMet.tail h'.1)))⟩
 ·obtain⟨name,u,ty,e1,e2,e3,e4,e5⟩:=h'.2 _ (List.mem_singleton.2 rfl)
  have en:name=[101,114,114,111,114]:=(Option.some.inj e1).symm
  subst en
  obtain rfl:=Option.some.inj (tr_rt.symm.trans e2)
  have hm:ty∈(List.range 281).filter fun t=>Tryz.prog.rowNamed t [101,114,114,111,114]:=List.mem_filter.2 ⟨List.mem_range.2 (by rw[←tr_size];exact e3),e4⟩
  rw[tr_oneRow] at hm
  obtain rfl:=List.mem_singleton.1 hm
  have hh:typeHandle Tryz.prog 117= .pointer (some ⟨7,117,none⟩):=by kernel_rfl
  rw[hh] at e5
  have:=World.var?_cell tr_et e5 0
  unfold HE
  simpa using this
 ·have h3:laidMet Tryz.prog (("internal/strconv.uint64pow10",Lib.tabData .u64 Lib.pow10Tab)::[("confluence/value.words",Rows.laid_confluence_value_words),("confluence/record.verbs",Rows.laid_confluence_record_verbs)]) W:=laidMet.tail (laidMet.tail h'.1)
  exact Lib.tabIs_of_head tr_gP (by kernel_rfl) Tryz.underlying232 Tryz.underlying172 (by kernel_rfl) (by kernel_rfl) h3
theorem door_met6 (os:Os) (args:Array Value):laidMetH Tryz.prog laid6 ((World.doorLaid Tryz.prog 400 os).forCall (fun _ _=>0) ⟨#[],args,[]⟩).memory:=
 laidMetH_of_parts3 (fuel:=8) (laidMet_of_run' 8 (by kernel_rfl) (by kernel_rfl)) (by kernel_rfl) (by kernel_rfl)
section
variable {H:Type} {enc:TypeId×Value→H} {P:Program} {w:World} {base:Nat} {spare:Nat→Bool} {held:Bool}
end
end Go.Proofs.YtaiadknglhemaaaGreatDoor.C
namespace Go.Proofs.YtaiadknglhemaaaGreatDoor.C
open Go.ChangeShapes Go.WideShapes Go.RowKit Go.Deep
open Go.ChangeMaps (open_string shut_string)
theorem recdec_lifted (os:Os) (started:os.Started) (H:Type) (enc:TypeId×Value→H):
  ReturnsInHanded {} Tryz.checked os 5 .any (fun w args=>(Rows.recordDecodesSpec.pre enc Tryz.prog Tryz.f5 [] false w args∧laidMetH Tryz.prog laid6 w)∧sizedMet enc Tryz.prog Tryz.f5 (OpenSpec.ofChange Rows.recordDecodesSpec) false w args)
   (Rows.recordDecodesSpec.post enc Tryz.prog Tryz.f5 false true false false):=by
 refine returnsInHanded_of_change_and (C:=Tryz.checked) (X:=fun w _=>laidMetH Tryz.prog laid6 w) (fun _ _ _ hh h=>h.of_heap hh) tr_own started (by kernel_rfl) Tryz.func5
  (ChangeSpec.witness_shaped (enc:=enc) (C:=Tryz.checked) (os:=os) (X:=fun w _=>laidMetH Tryz.prog laid6 w) false (World.doorLaid Tryz.prog 400 os) #[.string ⟨#[]⟩,.string ⟨#[]⟩] 8 rfl (World.shaped_of_RefB (by kernel_rfl) (by kernel_rfl)) (by kernel_rfl) (by kernel_rfl) (by kernel_rfl) (door_met6 os _)) ?_
 intro W base args ds gs before hval0 hW _ hsz hL _
 have hval: ∀(j:Nat) t v,Tryz.f5.params[j]? =some t→args[j]? =some v→Value.okWide Tryz.prog W .any base t v:=hval0
 have hW':=hW
 obtain⟨p,q,hA0,hV0,rfl,hfz,hnd⟩:=hW
 have hA:DataW.TrodAll enc Tryz.prog W 0 (fun _=>true) true Tryz.f5.params.toList args.toList ds p:=hA0
 have hV:DataW.TrodVars enc Tryz.prog W (fun _=>true) [] gs q:=hV0
 rw[Tryz.params5] at hA hval
 obtain⟨v0,v1,d0,d1,p0,p1,rfl,rfl,rfl,h0,h1⟩:=trodAll_two hA
 obtain⟨S,rfl,rfl,rfl,ws⟩:=open_string Tryz.underlying9 (hval 0 9 v0 rfl rfl) h0
 obtain⟨S1,rfl,rfl,rfl,ws1⟩:=open_string Tryz.underlying9 (hval 1 9 v1 rfl rfl) h1
 have z0:S.size≤140737488351232:=by
  have h9:=sized_string hsz (j:=0) (t:=9) (by rw[Tryz.params5];rfl) rfl
  have h8:reachBytes+4096≤140737488355328:=by decide
  have h7:S.data.toList.length=S.size:=Array.length_toList
  omega
 have z1:S1.size≤140737488351232:=by
  have h9:=sized_string hsz (j:=1) (t:=9) (by rw[Tryz.params5];rfl) rfl
  have h8:reachBytes+4096≤140737488355328:=by decide
  have h7:S1.data.toList.length=S1.size:=Array.length_toList
  omega
 obtain⟨hg,hvb,hp,hwd⟩:=of_laid6 hL
 obtain⟨rfl,rfl⟩:gs=[]∧q=[]:=by
  cases gs with
  |nil=>exact⟨rfl,hV⟩
  |cons g r=>exact absurd hV (by intro h;cases h)
 have hG: ∀W',Tch (fun _=>False) W W'→HE W'∧HVB W'∧HP W'∧HWd W':=fun W' t=>⟨hg.tch t (fun h=>h),hvb.no t,hp.no t,hwd.no t⟩
 have e1:Rows.recordDecodesSpec.fn H ([.lit (.string S.data.toList),.lit (.string S1.data.toList)]++[])= { results:=[.lit (.bool true)],args:=[.lit (.string S.data.toList),.lit (.string S1.data.toList)] } :=by simp[Rows.recordDecodesSpec]
 refine(recdec_law S S1 W (known_any W (hG W (Tch.refl _ _)).1 (hG W (Tch.refl _ _)).2.1 (hG W (Tch.refl _ _)).2.2.1 (hG W (Tch.refl _ _)).2.2.2) (fun W' t=>(hG W' t).1) z0 z1).mono fun e W' ⟨he,ht⟩=>?_
 subst he
 have hB:Below W.heap.size W W':=ht.below (Nat.le_refl _) (fun _ _ h=>h)
 refine⟨_,rfl,_,_,_,[],[]++[],[],hW',?_,?_,?_,hB.frame _,fun h=>by cases h⟩
 ·rw[e1];exact trodAll_mk1 (shut_bool Tryz.underlying4 true)
 ·rw[e1];exact trodAll_mk2 (Below.trod tr_laidOut (by kernel_rfl) (of_decide_eq_true (by kernel_rfl)) h0 hB (fun x hx=>by cases hx)) (Below.trod tr_laidOut (by kernel_rfl) (of_decide_eq_true (by kernel_rfl)) h1 hB (fun x hx=>by cases hx))
 ·rw[e1];rfl
theorem recdec_holds:Rows.RecordDecodesSaid:=
 OpenClaim.holds_of_wide 5 Tryz.f5 rfl rfl rfl rfl rfl rfl rfl ⟨rfl,rfl,rfl,rfl,rfl⟩ rfl rfl rfl rfl rfl (by kernel_rfl) Tryz.func5 (by kernel_rfl)
  (of_decide_eq_true (by kernel_rfl)) (by unfold Func.isWrapper;rw[if_neg (of_decide_eq_false (by kernel_rfl))];exact⟨rfl,rfl⟩)
  (fun os started H enc _=>recdec_lifted os started H enc)
theorem recdec_card:Rows.RecordDecodesCardSaid:=
 Claim7.holds_tied_plain_at .later [] [.data,.data,.data,.handle,.data,.data] true Rows.recordDecodesCard.stood.harness true
  recdec_holds (fun _ h=>by cases h) (by kernel_rfl) (fun _ h=>by cases h) recordDecodes_row_tie rfl ⟨rfl,rfl⟩ (by kernel_rfl) rfl
  (fun f fn hf hfn=>by
   obtain rfl:f=5:=Option.some.inj ((show Tryz.prog.funcNamed "confluence/confluencelaw6.RecordDecodes" =some 5 by kernel_rfl).symm.trans hf)|>.symm
   obtain rfl:fn=Tryz.f5:=(Option.some.inj (Tryz.func5.symm.trans hfn)).symm
   exact⟨by kernel_rfl,fun j t ht=>by
    rw[Tryz.params5] at ht
    have h3:t=9:=by
     rcases j with _|_|j
     ·simpa using ht.symm
     ·simpa using ht.symm
     ·simp at ht
    subst h3
    exact(show Tryz.prog.wantsStandIn 9=false by kernel_rfl)
    ⟩)
  (by kernel_rfl)
#print axioms recdec_card
end Go.Proofs.YtaiadknglhemaaaGreatDoor.C
namespace Go.Proofs.YtaiadknglhemaaaGreatDoor
theorem recordDecodes_card:Rows.RecordDecodesCardSaid:=C.recdec_card
end Go.Proofs.YtaiadknglhemaaaGreatDoor
