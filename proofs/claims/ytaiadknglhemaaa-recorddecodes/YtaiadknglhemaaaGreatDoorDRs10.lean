import Derived.Test.YtaiadknglhemaaaGreatDoorDRf
import Derived.Test.YtaiadknglhemaaaGreatDoorRV0
set_option maxHeartbeats 40000000
set_option maxRecDepth 100000
namespace Go.Proofs.YtaiadknglhemaaaGreatDoor.C
open Go.RowKit
theorem cut_iff_7 (r:Rc) (s:Sk) (he:s.P.map Prod.fst=r.tbs):r=cutC 7 r ↔ r.p=0∧r.t=0∧r.o.length=0∧r.n.length=0∧r.org=0∧r.tb=tb0∧s.P.length=0:=by
 have hl:s.P.length=r.tbs.length:=by rw[←he,List.length_map]
 obtain⟨k,x,p,t,o,n,nm,org,tb,tbs⟩:=r
 simp only at hl
 rw[hl]
 simp only[cutC,rc0,Rc.mk.injEq,List.length_eq_zero_iff]
 constructor
 ·rintro⟨-, -,gp,gt,go,gw, -,gg,ga,gl⟩
  exact⟨gp,gt,go,gw,gg,ga,gl⟩
 ·rintro⟨gp,gt,go,gw,gg,ga,gl⟩
  refine⟨?_,?_,?_,?_,?_,?_,?_,?_,?_,?_⟩<;>first|trivial|rfl|assumption
theorem spare_7 (r:Rc) (s:Sk) (w:World) (he:s.P.map Prod.fst=r.tbs):Calls Tryz.prog 46 #[rV r s,.string (wordC 7)] w fun x w'=>EqT (¬r=cutC 7 r) w x w':=by
 have HC:Hid (r=cutC 7 r ↔ r.p=0∧r.t=0∧r.o.length=0∧r.n.length=0∧r.org=0∧r.tb=tb0∧s.P.length=0):=cut_iff_7 r s he
 obtain⟨wd,hwd⟩: ∃wd,wd=wordC 7:=⟨_,rfl⟩
 have Hx:Hid (∀W,Calls Tryz.prog 75 #[.string wd,.int .u8 120] W fun x w'=>x= .returned (.bool true)∧w'=W):=fun W=>by rw[hwd];exact has6 (wordC 7) (by decide) 120 (by decide) W
 have Hp:Hid (∀W,Calls Tryz.prog 75 #[.string wd,.int .u8 112] W fun x w'=>x= .returned (.bool false)∧w'=W):=fun W=>by rw[hwd];exact has6 (wordC 7) (by decide) 112 (by decide) W
 have Ht:Hid (∀W,Calls Tryz.prog 75 #[.string wd,.int .u8 116] W fun x w'=>x= .returned (.bool false)∧w'=W):=fun W=>by rw[hwd];exact has6 (wordC 7) (by decide) 116 (by decide) W
 have Hu:Hid (∀W,Calls Tryz.prog 75 #[.string wd,.int .u8 117] W fun x w'=>x= .returned (.bool false)∧w'=W):=fun W=>by rw[hwd];exact has6 (wordC 7) (by decide) 117 (by decide) W
 have Ho:Hid (∀W,Calls Tryz.prog 75 #[.string wd,.int .u8 111] W fun x w'=>x= .returned (.bool false)∧w'=W):=fun W=>by rw[hwd];exact has6 (wordC 7) (by decide) 111 (by decide) W
 have Hw:Hid (∀W,Calls Tryz.prog 75 #[.string wd,.int .u8 119] W fun x w'=>x= .returned (.bool false)∧w'=W):=fun W=>by rw[hwd];exact has6 (wordC 7) (by decide) 119 (by decide) W
 have Hc:Hid (∀W,Calls Tryz.prog 75 #[.string wd,.int .u8 99] W fun x w'=>x= .returned (.bool false)∧w'=W):=fun W=>by rw[hwd];exact has6 (wordC 7) (by decide) 99 (by decide) W
 have Hm:Hid (∀W,Calls Tryz.prog 75 #[.string wd,.int .u8 109] W fun x w'=>x= .returned (.bool true)∧w'=W):=fun W=>by rw[hwd];exact has6 (wordC 7) (by decide) 109 (by decide) W
 have Ha:Hid (∀W,Calls Tryz.prog 75 #[.string wd,.int .u8 97] W fun x w'=>x= .returned (.bool false)∧w'=W):=fun W=>by rw[hwd];exact has6 (wordC 7) (by decide) 97 (by decide) W
 have Hl:Hid (∀W,Calls Tryz.prog 75 #[.string wd,.int .u8 108] W fun x w'=>x= .returned (.bool false)∧w'=W):=fun W=>by rw[hwd];exact has6 (wordC 7) (by decide) 108 (by decide) W
 rw[←hwd]
 have HB:Hid (∀W,Calls Tryz.prog 76 #[tA r.tb.id r.tb.ver r.tb.nm (.slice s.co r.tb.cols.length s.cc) r.tb.key] W fun x w'=>EqT (r.tb=tb0) W x w'):=fun W=>bare6 r.tb s.co s.cc W
 obtain⟨no,eno⟩: ∃no:Nat,no=r.o.length:=⟨_,rfl⟩
 obtain⟨nn,enn⟩: ∃nn:Nat,nn=r.n.length:=⟨_,rfl⟩
 obtain⟨nt,ent⟩: ∃nt:Nat,nt=s.P.length:=⟨_,rfl⟩
 rw[rV, ←eno, ←enn, ←ent]
 rw[←eno, ←enn, ←ent] at HC
 have HC:Hid (r=cutC 7 r ↔ r.p=0∧r.t=0∧no=0∧nn=0∧r.org=0∧r.tb=tb0∧nt=0):=HC
 have HK:Hid (∀W,Tch (fun _=>False) (w.alloc (.cells #[.int .i64 r.k,.int .i64 r.x,.int .i64 r.p,.int .i64 r.t,.slice s.oo no s.oc,.slice s.no nn s.nc,.string r.nm,.int .i64 r.org,.int .i64 r.tb.id,.int .i64 r.tb.ver,.string r.tb.nm,.slice s.co r.tb.cols.length s.cc,.int .i64 r.tb.key,.slice s.to nt s.tc] 37)) W→W.heap[w.heap.size]? =some (.cells #[.int .i64 r.k,.int .i64 r.x,.int .i64 r.p,.int .i64 r.t,.slice s.oo no s.oc,.slice s.no nn s.nc,.string r.nm,.int .i64 r.org,.int .i64 r.tb.id,.int .i64 r.tb.ver,.string r.tb.nm,.slice s.co r.tb.cols.length s.cc,.int .i64 r.tb.key,.slice s.to nt s.tc] 37 (0,0))):=fun W t=>(t.block _ (by simp) (fun h=>h)).trans (heap_new w _)
 clear hwd he eno enn ent
 go_enter Tryz.func46,Tryz.ntmps46
 go_wp2_with fail
 refine(Hx.out _).mono ?_
 rintro x w1 ⟨rfl,hw1⟩
 obtain rfl:=hw1.symm
 clear hw1 Hx
 go_wp2_with fail
 refine(Hp.out _).mono ?_
 rintro x w1 ⟨rfl,hw1⟩
 obtain rfl:=hw1.symm
 clear hw1 Hp
 go_wp2_with fail
 refine(Ht.out _).mono ?_
 rintro x w1 ⟨rfl,hw1⟩
 obtain rfl:=hw1.symm
 clear hw1 Ht
 go_wp2_with fail
 refine(Hu.out _).mono ?_
 rintro x w1 ⟨rfl,hw1⟩
 obtain rfl:=hw1.symm
 clear hw1 Hu
 go_wp2_with fail
 refine(Ho.out _).mono ?_
 rintro x w1 ⟨rfl,hw1⟩
 obtain rfl:=hw1.symm
 clear hw1 Ho
 go_wp2_with fail
 refine(Hw.out _).mono ?_
 rintro x w1 ⟨rfl,hw1⟩
 obtain rfl:=hw1.symm
 clear hw1 Hw
 go_wp2_with fail
 refine(Hc.out _).mono ?_
 rintro x w1 ⟨rfl,hw1⟩
 obtain rfl:=hw1.symm
 clear hw1 Hc
 go_wp2_with fail
 refine(Hm.out _).mono ?_
 rintro x w1 ⟨rfl,hw1⟩
 obtain rfl:=hw1.symm
 clear hw1 Hm
 go_wp2_with fail
 refine(Ha.out _).mono ?_
 rintro x w1 ⟨rfl,hw1⟩
 obtain rfl:=hw1.symm
 clear hw1 Ha
 go_wp2_with fail
 refine(Hl.out _).mono ?_
 rintro x w1 ⟨rfl,hw1⟩
 obtain rfl:=hw1.symm
 clear hw1 Hl
 go_wp2_with fail
 refine(HB.out _).mono ?_
 rintro x w1 ⟨bt,rfl,hbt,t1⟩
 have HBT:Hid (bt=true ↔ r.tb=tb0):=hbt
 have T1:Tch (fun _=>False) w w1:=(Tch.alloc _ _ _).trans' t1
 have HT1:Hid (Tch (fun _=>False) w w1):=T1
 have b1:=HK.out w1 t1
 have y1:=blk_cell b1 1
 have y2:=blk_cell b1 2
 have y3:=blk_cell b1 3
 have y4:=blk_cell b1 4
 have y5:=blk_cell b1 5
 have y6:=blk_cell b1 6
 have y7:=blk_cell b1 7
 have y13:=blk_cell b1 13
 simp only[List.getElem?_toArray,List.getElem?_cons_succ,List.getElem?_cons_zero] at y1 y2 y3 y4 y5 y6 y7 y13
 clear b1 hbt t1 T1 HB HK
 go_simp
 iterate 8 (first|go_values|go_skip|go_guarded|go_step|go_upon|go_in|go_back)
 dsimp only[List.append]
 by_cases hp:r.p=0
 rotate_left
 ·have ep:(r.p !=0)=true:=by simpa using hp
  have HN:Hid (¬r.p=0):=hp
  clear hp
  go_wp2
  go_ret
  exact⟨true,rfl,⟨fun _=>fun h=>HN.out (HC.out.1 h).1,fun _=>rfl⟩,HT1.out⟩
 have ep:(r.p !=0)=false:=by rw[hp];rfl
 have Zp:Hid (r.p=0):=hp
 clear hp
 by_cases ht:r.t=0
 rotate_left
 ·have et:(r.t !=0)=true:=by simpa using ht
  have HN:Hid (¬r.t=0):=ht
  clear ht
  go_wp2
  go_ret
  exact⟨true,rfl,⟨fun _=>fun h=>HN.out (HC.out.1 h).2.1,fun _=>rfl⟩,HT1.out⟩
 have et:(r.t !=0)=false:=by rw[ht];rfl
 have Zt:Hid (r.t=0):=ht
 clear ht
 by_cases ho:no=0
 rotate_left
 ·have eo:0<no:=by omega
  have eo2:(0:Int)<(no:Int):=by omega
  have HN:Hid (¬no=0):=ho
  clear ho
  go_wp2
  go_ret
  exact⟨true,rfl,⟨fun _=>fun h=>HN.out (HC.out.1 h).2.2.1,fun _=>rfl⟩,HT1.out⟩
 subst ho
 by_cases hw:nn=0
 rotate_left
 ·have ew:0<nn:=by omega
  have ew2:(0:Int)<(nn:Int):=by omega
  have HN:Hid (¬nn=0):=hw
  clear hw
  go_wp2
  go_ret
  exact⟨true,rfl,⟨fun _=>fun h=>HN.out (HC.out.1 h).2.2.2.1,fun _=>rfl⟩,HT1.out⟩
 subst hw
 by_cases hg:r.org=0
 rotate_left
 ·have eg:(r.org !=0)=true:=by simpa using hg
  have HN:Hid (¬r.org=0):=hg
  clear hg
  go_wp2
  go_ret
  exact⟨true,rfl,⟨fun _=>fun h=>HN.out (HC.out.1 h).2.2.2.2.1,fun _=>rfl⟩,HT1.out⟩
 have eg:(r.org !=0)=false:=by rw[hg];rfl
 have Zg:Hid (r.org=0):=hg
 clear hg
 cases bt
 ·have HN:Hid (¬r.tb=tb0):=fun h=>by have:=HBT.out.2 h;simp at this
  clear HBT
  go_wp2
  go_ret
  exact⟨true,rfl,⟨fun _=>fun h=>HN.out (HC.out.1 h).2.2.2.2.2.1,fun _=>rfl⟩,HT1.out⟩
 have Za:Hid (r.tb=tb0):=HBT.out.1 (by first|rfl|trivial)
 clear HBT
 by_cases hl:nt=0
 rotate_left
 ·have el:0<nt:=by omega
  have el2:(0:Int)<(nt:Int):=by omega
  have HN:Hid (¬nt=0):=hl
  clear hl
  go_wp2
  go_ret
  exact⟨true,rfl,⟨fun _=>fun h=>HN.out (HC.out.1 h).2.2.2.2.2.2,fun _=>rfl⟩,HT1.out⟩
 subst hl
 go_wp2
 go_ret
 exact⟨false,rfl,⟨fun h=>by simp at h,fun h=>absurd (HC.out.2 ⟨Zp.out,Zt.out,by first|rfl|trivial,by first|rfl|trivial,Zg.out,Za.out,by first|rfl|trivial⟩) h⟩,HT1.out⟩
theorem cut_iff_8 (r:Rc) (s:Sk) (he:s.P.map Prod.fst=r.tbs):r=cutC 8 r ↔ r.p=0∧r.t=0∧r.o.length=0∧r.n.length=0∧r.nm.size=0∧r.org=0∧s.P.length=0:=by
 have hl:s.P.length=r.tbs.length:=by rw[←he,List.length_map]
 obtain⟨k,x,p,t,o,n,nm,org,tb,tbs⟩:=r
 simp only at hl
 rw[hl]
 simp only[cutC,rc0,Rc.mk.injEq,List.length_eq_zero_iff]
 have hz:nm=⟨#[]⟩ ↔ nm.size=0:=⟨fun h=>by rw[h];rfl,emp_eq⟩
 rw[hz]
 constructor
 ·rintro⟨-, -,gp,gt,go,gw,gn,gg, -,gl⟩
  exact⟨gp,gt,go,gw,gn,gg,gl⟩
 ·rintro⟨gp,gt,go,gw,gn,gg,gl⟩
  refine⟨?_,?_,?_,?_,?_,?_,?_,?_,?_,?_⟩<;>first|trivial|rfl|assumption
theorem spare_8 (r:Rc) (s:Sk) (w:World) (he:s.P.map Prod.fst=r.tbs):Calls Tryz.prog 46 #[rV r s,.string (wordC 8)] w fun x w'=>EqT (¬r=cutC 8 r) w x w':=by
 have HC:Hid (r=cutC 8 r ↔ r.p=0∧r.t=0∧r.o.length=0∧r.n.length=0∧r.nm.size=0∧r.org=0∧s.P.length=0):=cut_iff_8 r s he
 obtain⟨wd,hwd⟩: ∃wd,wd=wordC 8:=⟨_,rfl⟩
 have Hx:Hid (∀W,Calls Tryz.prog 75 #[.string wd,.int .u8 120] W fun x w'=>x= .returned (.bool true)∧w'=W):=fun W=>by rw[hwd];exact has6 (wordC 8) (by decide) 120 (by decide) W
 have Hp:Hid (∀W,Calls Tryz.prog 75 #[.string wd,.int .u8 112] W fun x w'=>x= .returned (.bool false)∧w'=W):=fun W=>by rw[hwd];exact has6 (wordC 8) (by decide) 112 (by decide) W
 have Ht:Hid (∀W,Calls Tryz.prog 75 #[.string wd,.int .u8 116] W fun x w'=>x= .returned (.bool false)∧w'=W):=fun W=>by rw[hwd];exact has6 (wordC 8) (by decide) 116 (by decide) W
 have Hu:Hid (∀W,Calls Tryz.prog 75 #[.string wd,.int .u8 117] W fun x w'=>x= .returned (.bool false)∧w'=W):=fun W=>by rw[hwd];exact has6 (wordC 8) (by decide) 117 (by decide) W
 have Ho:Hid (∀W,Calls Tryz.prog 75 #[.string wd,.int .u8 111] W fun x w'=>x= .returned (.bool false)∧w'=W):=fun W=>by rw[hwd];exact has6 (wordC 8) (by decide) 111 (by decide) W
 have Hw:Hid (∀W,Calls Tryz.prog 75 #[.string wd,.int .u8 119] W fun x w'=>x= .returned (.bool false)∧w'=W):=fun W=>by rw[hwd];exact has6 (wordC 8) (by decide) 119 (by decide) W
 have Hc:Hid (∀W,Calls Tryz.prog 75 #[.string wd,.int .u8 99] W fun x w'=>x= .returned (.bool false)∧w'=W):=fun W=>by rw[hwd];exact has6 (wordC 8) (by decide) 99 (by decide) W
 have Hm:Hid (∀W,Calls Tryz.prog 75 #[.string wd,.int .u8 109] W fun x w'=>x= .returned (.bool false)∧w'=W):=fun W=>by rw[hwd];exact has6 (wordC 8) (by decide) 109 (by decide) W
 have Ha:Hid (∀W,Calls Tryz.prog 75 #[.string wd,.int .u8 97] W fun x w'=>x= .returned (.bool true)∧w'=W):=fun W=>by rw[hwd];exact has6 (wordC 8) (by decide) 97 (by decide) W
 have Hl:Hid (∀W,Calls Tryz.prog 75 #[.string wd,.int .u8 108] W fun x w'=>x= .returned (.bool false)∧w'=W):=fun W=>by rw[hwd];exact has6 (wordC 8) (by decide) 108 (by decide) W
 rw[←hwd]
 have HB:Hid (∀W,Calls Tryz.prog 76 #[tA r.tb.id r.tb.ver r.tb.nm (.slice s.co r.tb.cols.length s.cc) r.tb.key] W fun x w'=>EqT (r.tb=tb0) W x w'):=fun W=>bare6 r.tb s.co s.cc W
 obtain⟨no,eno⟩: ∃no:Nat,no=r.o.length:=⟨_,rfl⟩
 obtain⟨nn,enn⟩: ∃nn:Nat,nn=r.n.length:=⟨_,rfl⟩
 obtain⟨nt,ent⟩: ∃nt:Nat,nt=s.P.length:=⟨_,rfl⟩
 rw[rV, ←eno, ←enn, ←ent]
 rw[←eno, ←enn, ←ent] at HC
 have HC:Hid (r=cutC 8 r ↔ r.p=0∧r.t=0∧no=0∧nn=0∧r.nm.size=0∧r.org=0∧nt=0):=HC
 have HK:Hid (∀W,Tch (fun _=>False) (w.alloc (.cells #[.int .i64 r.k,.int .i64 r.x,.int .i64 r.p,.int .i64 r.t,.slice s.oo no s.oc,.slice s.no nn s.nc,.string r.nm,.int .i64 r.org,.int .i64 r.tb.id,.int .i64 r.tb.ver,.string r.tb.nm,.slice s.co r.tb.cols.length s.cc,.int .i64 r.tb.key,.slice s.to nt s.tc] 37)) W→W.heap[w.heap.size]? =some (.cells #[.int .i64 r.k,.int .i64 r.x,.int .i64 r.p,.int .i64 r.t,.slice s.oo no s.oc,.slice s.no nn s.nc,.string r.nm,.int .i64 r.org,.int .i64 r.tb.id,.int .i64 r.tb.ver,.string r.tb.nm,.slice s.co r.tb.cols.length s.cc,.int .i64 r.tb.key,.slice s.to nt s.tc] 37 (0,0))):=fun W t=>(t.block _ (by simp) (fun h=>h)).trans (heap_new w _)
 clear hwd he eno enn ent
 go_enter Tryz.func46,Tryz.ntmps46
 go_wp2_with fail
 refine(Hx.out _).mono ?_
 rintro x w1 ⟨rfl,hw1⟩
 obtain rfl:=hw1.symm
 clear hw1 Hx
 go_wp2_with fail
 refine(Hp.out _).mono ?_
 rintro x w1 ⟨rfl,hw1⟩
 obtain rfl:=hw1.symm
 clear hw1 Hp
 go_wp2_with fail
 refine(Ht.out _).mono ?_
 rintro x w1 ⟨rfl,hw1⟩
 obtain rfl:=hw1.symm
 clear hw1 Ht
 go_wp2_with fail
 refine(Hu.out _).mono ?_
 rintro x w1 ⟨rfl,hw1⟩
 obtain rfl:=hw1.symm
 clear hw1 Hu
 go_wp2_with fail
 refine(Ho.out _).mono ?_
 rintro x w1 ⟨rfl,hw1⟩
 obtain rfl:=hw1.symm
 clear hw1 Ho
 go_wp2_with fail
 refine(Hw.out _).mono ?_
 rintro x w1 ⟨rfl,hw1⟩
 obtain rfl:=hw1.symm
 clear hw1 Hw
 go_wp2_with fail
 refine(Hc.out _).mono ?_
 rintro x w1 ⟨rfl,hw1⟩
 obtain rfl:=hw1.symm
 clear hw1 Hc
 go_wp2_with fail
 refine(Hm.out _).mono ?_
 rintro x w1 ⟨rfl,hw1⟩
 obtain rfl:=hw1.symm
 clear hw1 Hm
 go_wp2_with fail
 refine(Ha.out _).mono ?_
 rintro x w1 ⟨rfl,hw1⟩
 obtain rfl:=hw1.symm
 clear hw1 Ha
 go_wp2_with fail
 refine(Hl.out _).mono ?_
 rintro x w1 ⟨rfl,hw1⟩
 obtain rfl:=hw1.symm
 clear hw1 Hl
 go_wp2_with fail
 refine(HB.out _).mono ?_
 rintro x w1 ⟨bt,rfl,hbt,t1⟩
 have HBT:Hid (bt=true ↔ r.tb=tb0):=hbt
 have T1:Tch (fun _=>False) w w1:=(Tch.alloc _ _ _).trans' t1
 have HT1:Hid (Tch (fun _=>False) w w1):=T1
 have b1:=HK.out w1 t1
 have y1:=blk_cell b1 1
 have y2:=blk_cell b1 2
 have y3:=blk_cell b1 3
 have y4:=blk_cell b1 4
 have y5:=blk_cell b1 5
 have y6:=blk_cell b1 6
 have y7:=blk_cell b1 7
 have y13:=blk_cell b1 13
 simp only[List.getElem?_toArray,List.getElem?_cons_succ,List.getElem?_cons_zero] at y1 y2 y3 y4 y5 y6 y7 y13
 clear b1 hbt t1 T1 HB HK
 go_simp
 iterate 8 (first|go_values|go_skip|go_guarded|go_step|go_upon|go_in|go_back)
 dsimp only[List.append]
 by_cases hp:r.p=0
 rotate_left
 ·have ep:(r.p !=0)=true:=by simpa using hp
  have HN:Hid (¬r.p=0):=hp
  clear hp
  go_wp2
  go_ret
  exact⟨true,rfl,⟨fun _=>fun h=>HN.out (HC.out.1 h).1,fun _=>rfl⟩,HT1.out⟩
 have ep:(r.p !=0)=false:=by rw[hp];rfl
 have Zp:Hid (r.p=0):=hp
 clear hp
 by_cases ht:r.t=0
 rotate_left
 ·have et:(r.t !=0)=true:=by simpa using ht
  have HN:Hid (¬r.t=0):=ht
  clear ht
  go_wp2
  go_ret
  exact⟨true,rfl,⟨fun _=>fun h=>HN.out (HC.out.1 h).2.1,fun _=>rfl⟩,HT1.out⟩
 have et:(r.t !=0)=false:=by rw[ht];rfl
 have Zt:Hid (r.t=0):=ht
 clear ht
 by_cases ho:no=0
 rotate_left
 ·have eo:0<no:=by omega
  have eo2:(0:Int)<(no:Int):=by omega
  have HN:Hid (¬no=0):=ho
  clear ho
  go_wp2
  go_ret
  exact⟨true,rfl,⟨fun _=>fun h=>HN.out (HC.out.1 h).2.2.1,fun _=>rfl⟩,HT1.out⟩
 subst ho
 by_cases hw:nn=0
 rotate_left
 ·have ew:0<nn:=by omega
  have ew2:(0:Int)<(nn:Int):=by omega
  have HN:Hid (¬nn=0):=hw
  clear hw
  go_wp2
  go_ret
  exact⟨true,rfl,⟨fun _=>fun h=>HN.out (HC.out.1 h).2.2.2.1,fun _=>rfl⟩,HT1.out⟩
 subst hw
 by_cases hn:r.nm.size=0
 rotate_left
 ·have en:r.nm.toList.isEmpty=false:=nonempty_of_size (r:=r.nm) (by omega)
  have HN:Hid (¬r.nm.size=0):=hn
  clear hn
  go_wp2
  go_ret
  exact⟨true,rfl,⟨fun _=>fun h=>HN.out (HC.out.1 h).2.2.2.2.1,fun _=>rfl⟩,HT1.out⟩
 have en:r.nm.toList.isEmpty=true:=empty_of_size hn
 have Zn:Hid (r.nm.size=0):=hn
 clear hn
 by_cases hg:r.org=0
 rotate_left
 ·have eg:(r.org !=0)=true:=by simpa using hg
  have HN:Hid (¬r.org=0):=hg
  clear hg
  go_wp2
  go_ret
  exact⟨true,rfl,⟨fun _=>fun h=>HN.out (HC.out.1 h).2.2.2.2.2.1,fun _=>rfl⟩,HT1.out⟩
 have eg:(r.org !=0)=false:=by rw[hg];rfl
 have Zg:Hid (r.org=0):=hg
 clear hg
 by_cases hl:nt=0
 rotate_left
 ·have el:0<nt:=by omega
  have el2:(0:Int)<(nt:Int):=by omega
  have HN:Hid (¬nt=0):=hl
  clear hl
  go_wp2
  go_ret
  exact⟨true,rfl,⟨fun _=>fun h=>HN.out (HC.out.1 h).2.2.2.2.2.2,fun _=>rfl⟩,HT1.out⟩
 subst hl
 go_wp2
 go_ret
 exact⟨false,rfl,⟨fun h=>by simp at h,fun h=>absurd (HC.out.2 ⟨Zp.out,Zt.out,by first|rfl|trivial,by first|rfl|trivial,Zn.out,Zg.out,by first|rfl|trivial⟩) h⟩,HT1.out⟩
theorem cut_iff_9 (r:Rc) (s:Sk) (he:s.P.map Prod.fst=r.tbs):r=cutC 9 r ↔ r.p=0∧r.o.length=0∧r.n.length=0∧r.nm.size=0∧r.org=0∧r.tb=tb0∧s.P.length=0:=by
 have hl:s.P.length=r.tbs.length:=by rw[←he,List.length_map]
 obtain⟨k,x,p,t,o,n,nm,org,tb,tbs⟩:=r
 simp only at hl
 rw[hl]
 simp only[cutC,rc0,Rc.mk.injEq,List.length_eq_zero_iff]
 have hz:nm=⟨#[]⟩ ↔ nm.size=0:=⟨fun h=>by rw[h];rfl,emp_eq⟩
 rw[hz]
 constructor
 ·rintro⟨-, -,gp, -,go,gw,gn,gg,ga,gl⟩
  exact⟨gp,go,gw,gn,gg,ga,gl⟩
 ·rintro⟨gp,go,gw,gn,gg,ga,gl⟩
  refine⟨?_,?_,?_,?_,?_,?_,?_,?_,?_,?_⟩<;>first|trivial|rfl|assumption
theorem spare_9 (r:Rc) (s:Sk) (w:World) (he:s.P.map Prod.fst=r.tbs):Calls Tryz.prog 46 #[rV r s,.string (wordC 9)] w fun x w'=>EqT (¬r=cutC 9 r) w x w':=by
 have HC:Hid (r=cutC 9 r ↔ r.p=0∧r.o.length=0∧r.n.length=0∧r.nm.size=0∧r.org=0∧r.tb=tb0∧s.P.length=0):=cut_iff_9 r s he
 obtain⟨wd,hwd⟩: ∃wd,wd=wordC 9:=⟨_,rfl⟩
 have Hx:Hid (∀W,Calls Tryz.prog 75 #[.string wd,.int .u8 120] W fun x w'=>x= .returned (.bool true)∧w'=W):=fun W=>by rw[hwd];exact has6 (wordC 9) (by decide) 120 (by decide) W
 have Hp:Hid (∀W,Calls Tryz.prog 75 #[.string wd,.int .u8 112] W fun x w'=>x= .returned (.bool false)∧w'=W):=fun W=>by rw[hwd];exact has6 (wordC 9) (by decide) 112 (by decide) W
 have Ht:Hid (∀W,Calls Tryz.prog 75 #[.string wd,.int .u8 116] W fun x w'=>x= .returned (.bool true)∧w'=W):=fun W=>by rw[hwd];exact has6 (wordC 9) (by decide) 116 (by decide) W
 have Ho:Hid (∀W,Calls Tryz.prog 75 #[.string wd,.int .u8 111] W fun x w'=>x= .returned (.bool false)∧w'=W):=fun W=>by rw[hwd];exact has6 (wordC 9) (by decide) 111 (by decide) W
 have Hw:Hid (∀W,Calls Tryz.prog 75 #[.string wd,.int .u8 119] W fun x w'=>x= .returned (.bool false)∧w'=W):=fun W=>by rw[hwd];exact has6 (wordC 9) (by decide) 119 (by decide) W
 have Hc:Hid (∀W,Calls Tryz.prog 75 #[.string wd,.int .u8 99] W fun x w'=>x= .returned (.bool false)∧w'=W):=fun W=>by rw[hwd];exact has6 (wordC 9) (by decide) 99 (by decide) W
 have Hm:Hid (∀W,Calls Tryz.prog 75 #[.string wd,.int .u8 109] W fun x w'=>x= .returned (.bool false)∧w'=W):=fun W=>by rw[hwd];exact has6 (wordC 9) (by decide) 109 (by decide) W
 have Ha:Hid (∀W,Calls Tryz.prog 75 #[.string wd,.int .u8 97] W fun x w'=>x= .returned (.bool false)∧w'=W):=fun W=>by rw[hwd];exact has6 (wordC 9) (by decide) 97 (by decide) W
 have Hl:Hid (∀W,Calls Tryz.prog 75 #[.string wd,.int .u8 108] W fun x w'=>x= .returned (.bool false)∧w'=W):=fun W=>by rw[hwd];exact has6 (wordC 9) (by decide) 108 (by decide) W
 rw[←hwd]
 have HB:Hid (∀W,Calls Tryz.prog 76 #[tA r.tb.id r.tb.ver r.tb.nm (.slice s.co r.tb.cols.length s.cc) r.tb.key] W fun x w'=>EqT (r.tb=tb0) W x w'):=fun W=>bare6 r.tb s.co s.cc W
 obtain⟨no,eno⟩: ∃no:Nat,no=r.o.length:=⟨_,rfl⟩
 obtain⟨nn,enn⟩: ∃nn:Nat,nn=r.n.length:=⟨_,rfl⟩
 obtain⟨nt,ent⟩: ∃nt:Nat,nt=s.P.length:=⟨_,rfl⟩
 rw[rV, ←eno, ←enn, ←ent]
 rw[←eno, ←enn, ←ent] at HC
 have HC:Hid (r=cutC 9 r ↔ r.p=0∧no=0∧nn=0∧r.nm.size=0∧r.org=0∧r.tb=tb0∧nt=0):=HC
 have HK:Hid (∀W,Tch (fun _=>False) (w.alloc (.cells #[.int .i64 r.k,.int .i64 r.x,.int .i64 r.p,.int .i64 r.t,.slice s.oo no s.oc,.slice s.no nn s.nc,.string r.nm,.int .i64 r.org,.int .i64 r.tb.id,.int .i64 r.tb.ver,.string r.tb.nm,.slice s.co r.tb.cols.length s.cc,.int .i64 r.tb.key,.slice s.to nt s.tc] 37)) W→W.heap[w.heap.size]? =some (.cells #[.int .i64 r.k,.int .i64 r.x,.int .i64 r.p,.int .i64 r.t,.slice s.oo no s.oc,.slice s.no nn s.nc,.string r.nm,.int .i64 r.org,.int .i64 r.tb.id,.int .i64 r.tb.ver,.string r.tb.nm,.slice s.co r.tb.cols.length s.cc,.int .i64 r.tb.key,.slice s.to nt s.tc] 37 (0,0))):=fun W t=>(t.block _ (by simp) (fun h=>h)).trans (heap_new w _)
 clear hwd he eno enn ent
 go_enter Tryz.func46,Tryz.ntmps46
 go_wp2_with fail
 refine(Hx.out _).mono ?_
 rintro x w1 ⟨rfl,hw1⟩
 obtain rfl:=hw1.symm
 clear hw1 Hx
 go_wp2_with fail
 refine(Hp.out _).mono ?_
 rintro x w1 ⟨rfl,hw1⟩
 obtain rfl:=hw1.symm
 clear hw1 Hp
 go_wp2_with fail
 refine(Ht.out _).mono ?_
 rintro x w1 ⟨rfl,hw1⟩
 obtain rfl:=hw1.symm
 clear hw1 Ht
 go_wp2_with fail
 refine(Ho.out _).mono ?_
 rintro x w1 ⟨rfl,hw1⟩
 obtain rfl:=hw1.symm
 clear hw1 Ho
 go_wp2_with fail
 refine(Hw.out _).mono ?_
 rintro x w1 ⟨rfl,hw1⟩
 obtain rfl:=hw1.symm
 clear hw1 Hw
 go_wp2_with fail
 refine(Hc.out _).mono ?_
 rintro x w1 ⟨rfl,hw1⟩
 obtain rfl:=hw1.symm
 clear hw1 Hc
 go_wp2_with fail
 refine(Hm.out _).mono ?_
 rintro x w1 ⟨rfl,hw1⟩
 obtain rfl:=hw1.symm
 clear hw1 Hm
 go_wp2_with fail
 refine(Ha.out _).mono ?_
 rintro x w1 ⟨rfl,hw1⟩
 obtain rfl:=hw1.symm
 clear hw1 Ha
 go_wp2_with fail
 refine(Hl.out _).mono ?_
 rintro x w1 ⟨rfl,hw1⟩
 obtain rfl:=hw1.symm
 clear hw1 Hl
 go_wp2_with fail
 refine(HB.out _).mono ?_
 rintro x w1 ⟨bt,rfl,hbt,t1⟩
 have HBT:Hid (bt=true ↔ r.tb=tb0):=hbt
 have T1:Tch (fun _=>False) w w1:=(Tch.alloc _ _ _).trans' t1
 have HT1:Hid (Tch (fun _=>False) w w1):=T1
 have b1:=HK.out w1 t1
 have y1:=blk_cell b1 1
 have y2:=blk_cell b1 2
 have y3:=blk_cell b1 3
 have y4:=blk_cell b1 4
 have y5:=blk_cell b1 5
 have y6:=blk_cell b1 6
 have y7:=blk_cell b1 7
 have y13:=blk_cell b1 13
 simp only[List.getElem?_toArray,List.getElem?_cons_succ,List.getElem?_cons_zero] at y1 y2 y3 y4 y5 y6 y7 y13
 clear b1 hbt t1 T1 HB HK
 go_simp
 iterate 8 (first|go_values|go_skip|go_guarded|go_step|go_upon|go_in|go_back)
 dsimp only[List.append]
 by_cases hp:r.p=0
 rotate_left
 ·have ep:(r.p !=0)=true:=by simpa using hp
  have HN:Hid (¬r.p=0):=hp
  clear hp
  go_wp2
  go_ret
  exact⟨true,rfl,⟨fun _=>fun h=>HN.out (HC.out.1 h).1,fun _=>rfl⟩,HT1.out⟩
 have ep:(r.p !=0)=false:=by rw[hp];rfl
 have Zp:Hid (r.p=0):=hp
 clear hp
 by_cases ho:no=0
 rotate_left
 ·have eo:0<no:=by omega
  have eo2:(0:Int)<(no:Int):=by omega
  have HN:Hid (¬no=0):=ho
  clear ho
  go_wp2
  go_ret
  exact⟨true,rfl,⟨fun _=>fun h=>HN.out (HC.out.1 h).2.1,fun _=>rfl⟩,HT1.out⟩
 subst ho
 by_cases hw:nn=0
 rotate_left
 ·have ew:0<nn:=by omega
  have ew2:(0:Int)<(nn:Int):=by omega
  have HN:Hid (¬nn=0):=hw
  clear hw
  go_wp2
  go_ret
  exact⟨true,rfl,⟨fun _=>fun h=>HN.out (HC.out.1 h).2.2.1,fun _=>rfl⟩,HT1.out⟩
 subst hw
 by_cases hn:r.nm.size=0
 rotate_left
 ·have en:r.nm.toList.isEmpty=false:=nonempty_of_size (r:=r.nm) (by omega)
  have HN:Hid (¬r.nm.size=0):=hn
  clear hn
  go_wp2
  go_ret
  exact⟨true,rfl,⟨fun _=>fun h=>HN.out (HC.out.1 h).2.2.2.1,fun _=>rfl⟩,HT1.out⟩
 have en:r.nm.toList.isEmpty=true:=empty_of_size hn
 have Zn:Hid (r.nm.size=0):=hn
 clear hn
 by_cases hg:r.org=0
 rotate_left
 ·have eg:(r.org !=0)=true:=by simpa using hg
  have HN:Hid (¬r.org=0):=hg
  clear hg
  go_wp2
  go_ret
  exact⟨true,rfl,⟨fun _=>fun h=>HN.out (HC.out.1 h).2.2.2.2.1,fun _=>rfl⟩,HT1.out⟩
 have eg:(r.org !=0)=false:=by rw[hg];rfl
 have Zg:Hid (r.org=0):=hg
 clear hg
 cases bt
 ·have HN:Hid (¬r.tb=tb0):=fun h=>by have:=HBT.out.2 h;simp at this
  clear HBT
  go_wp2
  go_ret
  exact⟨true,rfl,⟨fun _=>fun h=>HN.out (HC.out.1 h).2.2.2.2.2.1,fun _=>rfl⟩,HT1.out⟩
 have Za:Hid (r.tb=tb0):=HBT.out.1 (by first|rfl|trivial)
 clear HBT
 by_cases hl:nt=0
 rotate_left
 ·have el:0<nt:=by omega
  have el2:(0:Int)<(nt:Int):=by omega
  have HN:Hid (¬nt=0):=hl
  clear hl
  go_wp2
  go_ret
  exact⟨true,rfl,⟨fun _=>fun h=>HN.out (HC.out.1 h).2.2.2.2.2.2,fun _=>rfl⟩,HT1.out⟩
 subst hl
 go_wp2
 go_ret
 exact⟨false,rfl,⟨fun h=>by simp at h,fun h=>absurd (HC.out.2 ⟨Zp.out,by first|rfl|trivial,by first|rfl|trivial,Zn.out,Zg.out,Za.out,by first|rfl|trivial⟩) h⟩,HT1.out⟩
theorem cut_iff_10 (r:Rc) (s:Sk) (he:s.P.map Prod.fst=r.tbs):r=cutC 10 r ↔ r.p=0∧r.o.length=0∧r.n.length=0∧r.nm.size=0∧r.org=0∧r.tb=tb0:=by
 have hl:s.P.length=r.tbs.length:=by rw[←he,List.length_map]
 obtain⟨k,x,p,t,o,n,nm,org,tb,tbs⟩:=r
 simp only at hl
 clear hl
 simp only[cutC,rc0,Rc.mk.injEq,List.length_eq_zero_iff]
 have hz:nm=⟨#[]⟩ ↔ nm.size=0:=⟨fun h=>by rw[h];rfl,emp_eq⟩
 rw[hz]
 constructor
 ·rintro⟨-, -,gp, -,go,gw,gn,gg,ga, -⟩
  exact⟨gp,go,gw,gn,gg,ga⟩
 ·rintro⟨gp,go,gw,gn,gg,ga⟩
  refine⟨?_,?_,?_,?_,?_,?_,?_,?_,?_,?_⟩<;>first|trivial|rfl|assumption
theorem spare_10 (r:Rc) (s:Sk) (w:World) (he:s.P.map Prod.fst=r.tbs):Calls Tryz.prog 46 #[rV r s,.string (wordC 10)] w fun x w'=>EqT (¬r=cutC 10 r) w x w':=by
 have HC:Hid (r=cutC 10 r ↔ r.p=0∧r.o.length=0∧r.n.length=0∧r.nm.size=0∧r.org=0∧r.tb=tb0):=cut_iff_10 r s he
 obtain⟨wd,hwd⟩: ∃wd,wd=wordC 10:=⟨_,rfl⟩
 have Hx:Hid (∀W,Calls Tryz.prog 75 #[.string wd,.int .u8 120] W fun x w'=>x= .returned (.bool false)∧w'=W):=fun W=>by rw[hwd];exact has6 (wordC 10) (by decide) 120 (by decide) W
 have Hn:Hid (∀W,Calls Tryz.prog 75 #[.string wd,.int .u8 110] W fun x w'=>x= .returned (.bool true)∧w'=W):=fun W=>by rw[hwd];exact has6 (wordC 10) (by decide) 110 (by decide) W
 have Hp:Hid (∀W,Calls Tryz.prog 75 #[.string wd,.int .u8 112] W fun x w'=>x= .returned (.bool false)∧w'=W):=fun W=>by rw[hwd];exact has6 (wordC 10) (by decide) 112 (by decide) W
 have Ht:Hid (∀W,Calls Tryz.prog 75 #[.string wd,.int .u8 116] W fun x w'=>x= .returned (.bool false)∧w'=W):=fun W=>by rw[hwd];exact has6 (wordC 10) (by decide) 116 (by decide) W
 have Hu:Hid (∀W,Calls Tryz.prog 75 #[.string wd,.int .u8 117] W fun x w'=>x= .returned (.bool true)∧w'=W):=fun W=>by rw[hwd];exact has6 (wordC 10) (by decide) 117 (by decide) W
 have Ho:Hid (∀W,Calls Tryz.prog 75 #[.string wd,.int .u8 111] W fun x w'=>x= .returned (.bool false)∧w'=W):=fun W=>by rw[hwd];exact has6 (wordC 10) (by decide) 111 (by decide) W
 have Hw:Hid (∀W,Calls Tryz.prog 75 #[.string wd,.int .u8 119] W fun x w'=>x= .returned (.bool false)∧w'=W):=fun W=>by rw[hwd];exact has6 (wordC 10) (by decide) 119 (by decide) W
 have Hc:Hid (∀W,Calls Tryz.prog 75 #[.string wd,.int .u8 99] W fun x w'=>x= .returned (.bool false)∧w'=W):=fun W=>by rw[hwd];exact has6 (wordC 10) (by decide) 99 (by decide) W
 have Hm:Hid (∀W,Calls Tryz.prog 75 #[.string wd,.int .u8 109] W fun x w'=>x= .returned (.bool false)∧w'=W):=fun W=>by rw[hwd];exact has6 (wordC 10) (by decide) 109 (by decide) W
 have Ha:Hid (∀W,Calls Tryz.prog 75 #[.string wd,.int .u8 97] W fun x w'=>x= .returned (.bool false)∧w'=W):=fun W=>by rw[hwd];exact has6 (wordC 10) (by decide) 97 (by decide) W
 have Hl:Hid (∀W,Calls Tryz.prog 75 #[.string wd,.int .u8 108] W fun x w'=>x= .returned (.bool true)∧w'=W):=fun W=>by rw[hwd];exact has6 (wordC 10) (by decide) 108 (by decide) W
 rw[←hwd]
 have HB:Hid (∀W,Calls Tryz.prog 76 #[tA r.tb.id r.tb.ver r.tb.nm (.slice s.co r.tb.cols.length s.cc) r.tb.key] W fun x w'=>EqT (r.tb=tb0) W x w'):=fun W=>bare6 r.tb s.co s.cc W
 obtain⟨no,eno⟩: ∃no:Nat,no=r.o.length:=⟨_,rfl⟩
 obtain⟨nn,enn⟩: ∃nn:Nat,nn=r.n.length:=⟨_,rfl⟩
 obtain⟨nt,ent⟩: ∃nt:Nat,nt=s.P.length:=⟨_,rfl⟩
 rw[rV, ←eno, ←enn, ←ent]
 rw[←eno, ←enn] at HC
 have HC:Hid (r=cutC 10 r ↔ r.p=0∧no=0∧nn=0∧r.nm.size=0∧r.org=0∧r.tb=tb0):=HC
 have HK:Hid (∀W,Tch (fun _=>False) (w.alloc (.cells #[.int .i64 r.k,.int .i64 r.x,.int .i64 r.p,.int .i64 r.t,.slice s.oo no s.oc,.slice s.no nn s.nc,.string r.nm,.int .i64 r.org,.int .i64 r.tb.id,.int .i64 r.tb.ver,.string r.tb.nm,.slice s.co r.tb.cols.length s.cc,.int .i64 r.tb.key,.slice s.to nt s.tc] 37)) W→W.heap[w.heap.size]? =some (.cells #[.int .i64 r.k,.int .i64 r.x,.int .i64 r.p,.int .i64 r.t,.slice s.oo no s.oc,.slice s.no nn s.nc,.string r.nm,.int .i64 r.org,.int .i64 r.tb.id,.int .i64 r.tb.ver,.string r.tb.nm,.slice s.co r.tb.cols.length s.cc,.int .i64 r.tb.key,.slice s.to nt s.tc] 37 (0,0))):=fun W t=>(t.block _ (by simp) (fun h=>h)).trans (heap_new w _)
 clear hwd he eno enn ent
 go_enter Tryz.func46,Tryz.ntmps46
 go_wp2_with fail
 refine(Hx.out _).mono ?_
 rintro x w1 ⟨rfl,hw1⟩
 obtain rfl:=hw1.symm
 clear hw1 Hx
 go_wp2_with fail
 refine(Hn.out _).mono ?_
 rintro x w1 ⟨rfl,hw1⟩
 obtain rfl:=hw1.symm
 clear hw1 Hn
 go_wp2_with fail
 refine(Hp.out _).mono ?_
 rintro x w1 ⟨rfl,hw1⟩
 obtain rfl:=hw1.symm
 clear hw1 Hp
 go_wp2_with fail
 refine(Ht.out _).mono ?_
 rintro x w1 ⟨rfl,hw1⟩
 obtain rfl:=hw1.symm
 clear hw1 Ht
 go_wp2_with fail
 refine(Hu.out _).mono ?_
 rintro x w1 ⟨rfl,hw1⟩
 obtain rfl:=hw1.symm
 clear hw1 Hu
 go_wp2_with fail
 refine(Ho.out _).mono ?_
 rintro x w1 ⟨rfl,hw1⟩
 obtain rfl:=hw1.symm
 clear hw1 Ho
 go_wp2_with fail
 refine(Hw.out _).mono ?_
 rintro x w1 ⟨rfl,hw1⟩
 obtain rfl:=hw1.symm
 clear hw1 Hw
 go_wp2_with fail
 refine(Hc.out _).mono ?_
 rintro x w1 ⟨rfl,hw1⟩
 obtain rfl:=hw1.symm
 clear hw1 Hc
 go_wp2_with fail
 refine(Hm.out _).mono ?_
 rintro x w1 ⟨rfl,hw1⟩
 obtain rfl:=hw1.symm
 clear hw1 Hm
 go_wp2_with fail
 refine(Ha.out _).mono ?_
 rintro x w1 ⟨rfl,hw1⟩
 obtain rfl:=hw1.symm
 clear hw1 Ha
 go_wp2_with fail
 refine(Hl.out _).mono ?_
 rintro x w1 ⟨rfl,hw1⟩
 obtain rfl:=hw1.symm
 clear hw1 Hl
 go_wp2_with fail
 refine(HB.out _).mono ?_
 rintro x w1 ⟨bt,rfl,hbt,t1⟩
 have HBT:Hid (bt=true ↔ r.tb=tb0):=hbt
 have T1:Tch (fun _=>False) w w1:=(Tch.alloc _ _ _).trans' t1
 have HT1:Hid (Tch (fun _=>False) w w1):=T1
 have b1:=HK.out w1 t1
 have y1:=blk_cell b1 1
 have y2:=blk_cell b1 2
 have y3:=blk_cell b1 3
 have y4:=blk_cell b1 4
 have y5:=blk_cell b1 5
 have y6:=blk_cell b1 6
 have y7:=blk_cell b1 7
 have y13:=blk_cell b1 13
 simp only[List.getElem?_toArray,List.getElem?_cons_succ,List.getElem?_cons_zero] at y1 y2 y3 y4 y5 y6 y7 y13
 clear b1 hbt t1 T1 HB HK
 go_simp
 iterate 8 (first|go_values|go_skip|go_guarded|go_step|go_upon|go_in|go_back)
 dsimp only[List.append]
 by_cases hp:r.p=0
 rotate_left
 ·have ep:(r.p !=0)=true:=by simpa using hp
  have HN:Hid (¬r.p=0):=hp
  clear hp
  go_wp2
  go_ret
  exact⟨true,rfl,⟨fun _=>fun h=>HN.out (HC.out.1 h).1,fun _=>rfl⟩,HT1.out⟩
 have ep:(r.p !=0)=false:=by rw[hp];rfl
 have Zp:Hid (r.p=0):=hp
 clear hp
 by_cases ho:no=0
 rotate_left
 ·have eo:0<no:=by omega
  have eo2:(0:Int)<(no:Int):=by omega
  have HN:Hid (¬no=0):=ho
  clear ho
  go_wp2
  go_ret
  exact⟨true,rfl,⟨fun _=>fun h=>HN.out (HC.out.1 h).2.1,fun _=>rfl⟩,HT1.out⟩
 subst ho
 by_cases hw:nn=0
 rotate_left
 ·have ew:0<nn:=by omega
  have ew2:(0:Int)<(nn:Int):=by omega
  have HN:Hid (¬nn=0):=hw
  clear hw
  go_wp2
  go_ret
  exact⟨true,rfl,⟨fun _=>fun h=>HN.out (HC.out.1 h).2.2.1,fun _=>rfl⟩,HT1.out⟩
 subst hw
 by_cases hn:r.nm.size=0
 rotate_left
 ·have en:r.nm.toList.isEmpty=false:=nonempty_of_size (r:=r.nm) (by omega)
  have HN:Hid (¬r.nm.size=0):=hn
  clear hn
  go_wp2
  go_ret
  exact⟨true,rfl,⟨fun _=>fun h=>HN.out (HC.out.1 h).2.2.2.1,fun _=>rfl⟩,HT1.out⟩
 have en:r.nm.toList.isEmpty=true:=empty_of_size hn
 have Zn:Hid (r.nm.size=0):=hn
 clear hn
 by_cases hg:r.org=0
 rotate_left
 ·have eg:(r.org !=0)=true:=by simpa using hg
  have HN:Hid (¬r.org=0):=hg
  clear hg
  go_wp2
  go_ret
  exact⟨true,rfl,⟨fun _=>fun h=>HN.out (HC.out.1 h).2.2.2.2.1,fun _=>rfl⟩,HT1.out⟩
 have eg:(r.org !=0)=false:=by rw[hg];rfl
 have Zg:Hid (r.org=0):=hg
 clear hg
 cases bt
 ·have HN:Hid (¬r.tb=tb0):=fun h=>by have:=HBT.out.2 h;simp at this
  clear HBT
  go_wp2
  go_ret
  exact⟨true,rfl,⟨fun _=>fun h=>HN.out (HC.out.1 h).2.2.2.2.2,fun _=>rfl⟩,HT1.out⟩
 have Za:Hid (r.tb=tb0):=HBT.out.1 (by first|rfl|trivial)
 clear HBT
 go_wp2
 go_ret
 exact⟨false,rfl,⟨fun h=>by simp at h,fun h=>absurd (HC.out.2 ⟨Zp.out,by first|rfl|trivial,by first|rfl|trivial,Zn.out,Zg.out,Za.out⟩) h⟩,HT1.out⟩
end Go.Proofs.YtaiadknglhemaaaGreatDoor.C
