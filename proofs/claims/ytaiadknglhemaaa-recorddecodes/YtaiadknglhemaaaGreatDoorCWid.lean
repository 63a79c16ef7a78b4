import Derived.Test.YtaiadknglhemaaaGreatDoorRV0
import Derived.Test.YtaiadknglhemaaaGreatDoorRW4
import Derived.Deep.RegionLaw
set_option maxHeartbeats 8000000
set_option maxRecDepth 100000
namespace Go.Proofs.YtaiadknglhemaaaGreatDoor.C
open Go.RowKit
theorem Rc.ext' {a b:Rc} (h:a.k=b.k∧a.x=b.x∧a.p=b.p∧a.t=b.t∧a.o=b.o∧a.n=b.n∧a.nm=b.nm∧a.org=b.org∧a.tb=b.tb∧a.tbs=b.tbs):a=b:=by
 obtain⟨a1,a2,a3,a4,a5,a6,a7,a8,a9,a10⟩:=a
 obtain⟨b1,b2,b3,b4,b5,b6,b7,b8,b9,b10⟩:=b
 simp at h
 simp[h]
theorem eqT_of {P:Program} {f:FuncId} {ar:Array Value} {xs ys:List Val} {W:World} (h:Calls P f ar W fun x w'=>EqOut xs ys W x w'):Calls P f ar W fun x w'=>EqT (xs=ys) W x w':=h.mono (fun _ _ ⟨b,h1,h2,m,h3⟩=>⟨b,h1,h2,by rw[h3];exact(Tch.refl _ _).drewN m⟩)
theorem same_r (a b:Rc) (s u:Sk) (F G:Nat→Prop) (w:World) (h1:RW w F a s) (h2:RW w G b u):Calls Tryz.prog 66 #[rV a s,rV b u] w fun x w'=>EqT (a=b) w x w':=by
 obtain⟨w0,hw0⟩: ∃w0,w0=(w.alloc (.cells #[.int .i64 a.k,.int .i64 a.x,.int .i64 a.p,.int .i64 a.t,.slice s.oo a.o.length s.oc,.slice s.no a.n.length s.nc,.string a.nm,.int .i64 a.org,.int .i64 a.tb.id,.int .i64 a.tb.ver,.string a.tb.nm,.slice s.co a.tb.cols.length s.cc,.int .i64 a.tb.key,.slice s.to s.P.length s.tc] 37)).alloc (.cells #[.int .i64 b.k,.int .i64 b.x,.int .i64 b.p,.int .i64 b.t,.slice u.oo b.o.length u.oc,.slice u.no b.n.length u.nc,.string b.nm,.int .i64 b.org,.int .i64 b.tb.id,.int .i64 b.tb.ver,.string b.tb.nm,.slice u.co b.tb.cols.length u.cc,.int .i64 b.tb.key,.slice u.to u.P.length u.tc] 37):=⟨_,rfl⟩
 have t0:Tch (fun _=>False) w w0:=by rw[hw0];exact(Tch.alloc _ _ _).allocR _
 have bA:w0.heap[w.heap.size]? =some (.cells #[.int .i64 a.k,.int .i64 a.x,.int .i64 a.p,.int .i64 a.t,.slice s.oo a.o.length s.oc,.slice s.no a.n.length s.nc,.string a.nm,.int .i64 a.org,.int .i64 a.tb.id,.int .i64 a.tb.ver,.string a.tb.nm,.slice s.co a.tb.cols.length s.cc,.int .i64 a.tb.key,.slice s.to s.P.length s.tc] 37 (0,0)):=by
  rw[hw0];exact((Tch.alloc (fun _=>False) _ _).block _ (by simp) (fun h=>h)).trans (heap_new w _)
 have bB:w0.heap[w.heap.size+1]? =some (.cells #[.int .i64 b.k,.int .i64 b.x,.int .i64 b.p,.int .i64 b.t,.slice u.oo b.o.length u.oc,.slice u.no b.n.length u.nc,.string b.nm,.int .i64 b.org,.int .i64 b.tb.id,.int .i64 b.tb.ver,.string b.tb.nm,.slice u.co b.tb.cols.length u.cc,.int .i64 b.tb.key,.slice u.to u.P.length u.tc] 37 (0,0)):=by
  rw[hw0, ←World.size_alloc];exact heap_new _ _
 have HK:Hid (∀W,Tch (fun _=>False) w0 W→W.heap[w.heap.size]? =some (.cells #[.int .i64 a.k,.int .i64 a.x,.int .i64 a.p,.int .i64 a.t,.slice s.oo a.o.length s.oc,.slice s.no a.n.length s.nc,.string a.nm,.int .i64 a.org,.int .i64 a.tb.id,.int .i64 a.tb.ver,.string a.tb.nm,.slice s.co a.tb.cols.length s.cc,.int .i64 a.tb.key,.slice s.to s.P.length s.tc] 37 (0,0))∧W.heap[w.heap.size+1]? =some (.cells #[.int .i64 b.k,.int .i64 b.x,.int .i64 b.p,.int .i64 b.t,.slice u.oo b.o.length u.oc,.slice u.no b.n.length u.nc,.string b.nm,.int .i64 b.org,.int .i64 b.tb.id,.int .i64 b.tb.ver,.string b.tb.nm,.slice u.co b.tb.cols.length u.cc,.int .i64 b.tb.key,.slice u.to u.P.length u.tc] 37 (0,0))):=fun W t=>
  ⟨(t.block _ (blk_lt bA) (fun h=>h)).trans bA,(t.block _ (blk_lt bB) (fun h=>h)).trans bB⟩
 have HO:Hid (∀W,Tch (fun _=>False) w W→Calls Tryz.prog 102 #[.slice s.oo a.o.length s.oc,.slice u.oo b.o.length u.oc] W fun x w'=>EqT (a.o=b.o) W x w'):=fun W t=>eqT_of<|same_any a.o b.o s.oo u.oo s.oc u.oc W (h1.no t).o.row (h2.no t).o.row h1.ol
 have HN:Hid (∀W,Tch (fun _=>False) w W→Calls Tryz.prog 102 #[.slice s.no a.n.length s.nc,.slice u.no b.n.length u.nc] W fun x w'=>EqT (a.n=b.n) W x w'):=fun W t=>eqT_of<|same_any a.n b.n s.no u.no s.nc u.nc W (h1.no t).n.row (h2.no t).n.row h1.nl
 have HT:Hid (∀W,Tch (fun _=>False) w W→Calls Tryz.prog 103 #[tA a.tb.id a.tb.ver a.tb.nm (.slice s.co a.tb.cols.length s.cc) a.tb.key,tA b.tb.id b.tb.ver b.tb.nm (.slice u.co b.tb.cols.length u.cc) b.tb.key] W fun x w'=>EqT (a.tb=b.tb) W x w'):=fun W t=>sameTab_any a.tb b.tb s.co u.co s.cc u.cc W (h1.no t).tb.sl (h2.no t).tb.sl h1.cl
 have HL:Hid (∀W,Tch (fun _=>False) w W→Calls Tryz.prog 104 #[.slice s.to s.P.length s.tc,.slice u.to u.P.length u.tc,.func (.func 103) #[] #[]] W fun x w'=>EqT (s.P.map Prod.fst=u.P.map Prod.fst) W x w'):=fun W t=>eqTabs_any s.P u.P s.to u.to s.tc u.tc F G W (h1.no t).tbs (h2.no t).tbs h1.tl h1.pl
 have HEA:Hid (s.P.map Prod.fst=a.tbs∧u.P.map Prod.fst=b.tbs):=⟨h1.eq,h2.eq⟩
 have HT0:Hid (Tch (fun _=>False) w w0):=t0
 have HW0:Hid (w0=(w.alloc (.cells #[.int .i64 a.k,.int .i64 a.x,.int .i64 a.p,.int .i64 a.t,.slice s.oo a.o.length s.oc,.slice s.no a.n.length s.nc,.string a.nm,.int .i64 a.org,.int .i64 a.tb.id,.int .i64 a.tb.ver,.string a.tb.nm,.slice s.co a.tb.cols.length s.cc,.int .i64 a.tb.key,.slice s.to s.P.length s.tc] 37)).alloc (.cells #[.int .i64 b.k,.int .i64 b.x,.int .i64 b.p,.int .i64 b.t,.slice u.oo b.o.length u.oc,.slice u.no b.n.length u.nc,.string b.nm,.int .i64 b.org,.int .i64 b.tb.id,.int .i64 b.tb.ver,.string b.tb.nm,.slice u.co b.tb.cols.length u.cc,.int .i64 b.tb.key,.slice u.to u.P.length u.tc] 37)):=hw0
 clear h1 h2 bA bB t0 hw0
 by_cases e1:a.k=b.k
 ·have e1':=int_eq' e1
  have E1:Hid (a.k=b.k):=e1
  clear e1
  by_cases e2:a.x=b.x
  ·have e2':=int_eq' e2
   have E2:Hid (a.x=b.x):=e2
   clear e2
   by_cases e3:a.p=b.p
   ·have e3':=int_eq' e3
    have E3:Hid (a.p=b.p):=e3
    clear e3
    by_cases e4:a.t=b.t
    ·have e4':=int_eq' e4
     have E4:Hid (a.t=b.t):=e4
     clear e4
     by_cases e7:a.nm=b.nm
     ·have e7':=bs_eq e7
      have E7:Hid (a.nm=b.nm):=e7
      clear e7
      by_cases e8:a.org=b.org
      ·have e8':=int_eq' e8
       have E8:Hid (a.org=b.org):=e8
       clear e8
       go_enter Tryz.func66,Tryz.ntmps66
       go_wp2_with fail
       have qo:=HO.out w0 HT0.out
       rw[HW0.out] at qo
       refine qo.mono ?_
       rintro x w1 ⟨d1,rfl,hd1,t1⟩
       rw[←HW0.out] at t1
       have D1:Hid (d1=true ↔ a.o=b.o):=hd1
       clear qo hd1
       have T1:Tch (fun _=>False) w w1:=HT0.out.trans' t1
       cases d1
       ·go_wp2_with fail
        go_ret
        exact eqT_no (fun e=>by have:=D1.out.2 (by rw[e]);simp at this) T1
       ·skip
        obtain⟨bA,bB⟩:=HK.out w1 t1
        have a5:=blk_cell bA 5
        have b5:=blk_cell bB 5
        simp only[List.getElem?_toArray,List.getElem?_cons_succ,List.getElem?_cons_zero] at a5 b5
        clear bA bB
        go_wp2_with fail
        refine(HN.out w1 T1).mono ?_
        rintro x w2 ⟨d2,rfl,hd2,t2⟩
        have D2:Hid (d2=true ↔ a.n=b.n):=hd2
        have T2:=T1.trans' t2
        have U2:=t1.trans' t2
        clear hd2 a5 b5 t2 t1 T1
        cases d2
        ·go_wp2_with fail
         go_ret
         exact eqT_no (fun e=>by have:=D2.out.2 (by rw[e]);simp at this) T2
        ·skip
         obtain⟨bA,bB⟩:=HK.out w2 U2
         have a6:=blk_cell bA 6
         have b6:=blk_cell bB 6
         have a7:=blk_cell bA 7
         have b7:=blk_cell bB 7
         have a8:=blk_cell bA 8
         have b8:=blk_cell bB 8
         have a9:=blk_cell bA 9
         have b9:=blk_cell bB 9
         have a10:=blk_cell bA 10
         have b10:=blk_cell bB 10
         have a11:=blk_cell bA 11
         have b11:=blk_cell bB 11
         have a12:=blk_cell bA 12
         have b12:=blk_cell bB 12
         simp only[List.getElem?_toArray,List.getElem?_cons_succ,List.getElem?_cons_zero] at a6 b6 a7 b7 a8 b8 a9 b9 a10 b10 a11 b11 a12 b12
         clear bA bB
         go_wp2_with fail
         refine(HT.out w2 T2).mono ?_
         rintro x w3 ⟨d3,rfl,hd3,t3⟩
         have D3:Hid (d3=true ↔ a.tb=b.tb):=hd3
         have T3:=T2.trans' t3
         have U3:=U2.trans' t3
         clear hd3 t3 T2 U2 a6 b6 a7 b7 a8 b8 a9 b9 a10 b10 a11 b11 a12 b12
         cases d3
         ·go_wp2_with fail
          go_ret
          exact eqT_no (fun e=>by have:=D3.out.2 (by rw[e]);simp at this) T3
         ·skip
          obtain⟨bA,bB⟩:=HK.out w3 U3
          have a13:=blk_cell bA 13
          have b13:=blk_cell bB 13
          simp only[List.getElem?_toArray,List.getElem?_cons_succ,List.getElem?_cons_zero] at a13 b13
          clear bA bB
          go_wp2_with fail
          refine(HL.out _ T3).mono ?_
          rintro x w4 ⟨d4,rfl,hd4,t4⟩
          have D4:Hid (d4=true ↔ s.P.map Prod.fst=u.P.map Prod.fst):=hd4
          clear hd4
          have T4:=T3.trans' t4
          cases d4
          ·go_wp2_with fail
           go_ret
           exact eqT_no (fun e=>by have:=D4.out.2 (by rw[HEA.out.1,HEA.out.2,e]);simp at this) T4
          ·go_wp2_with fail
           go_ret
           refine⟨true,rfl,⟨fun _=>Rc.ext' ⟨E1.out,E2.out,E3.out,E4.out,D1.out.1 (by trivial),D2.out.1 (by trivial),E7.out,E8.out,D3.out.1 (by trivial),?_⟩,fun _=>rfl⟩,T4⟩
           rw[←HEA.out.1, ←HEA.out.2]
           exact D4.out.1 (by trivial)
      ·have e8':=int_ne e8
       go_enter Tryz.func66,Tryz.ntmps66
       go_wp2_with fail
       have qo:=HO.out w0 HT0.out
       rw[HW0.out] at qo
       refine qo.mono ?_
       rintro x w1 ⟨d1,rfl,hd1,t1⟩
       rw[←HW0.out] at t1
       have D1:Hid (d1=true ↔ a.o=b.o):=hd1
       clear qo hd1
       have T1:Tch (fun _=>False) w w1:=HT0.out.trans' t1
       cases d1
       ·go_wp2_with fail
        go_ret
        exact eqT_no (fun e=>by have:=D1.out.2 (by rw[e]);simp at this) T1
       ·skip
        obtain⟨bA,bB⟩:=HK.out w1 t1
        have a5:=blk_cell bA 5
        have b5:=blk_cell bB 5
        simp only[List.getElem?_toArray,List.getElem?_cons_succ,List.getElem?_cons_zero] at a5 b5
        clear bA bB
        go_wp2_with fail
        refine(HN.out w1 T1).mono ?_
        rintro x w2 ⟨d2,rfl,hd2,t2⟩
        have D2:Hid (d2=true ↔ a.n=b.n):=hd2
        have T2:=T1.trans' t2
        have U2:=t1.trans' t2
        clear hd2 a5 b5 t2 t1 T1
        cases d2
        ·go_wp2_with fail
         go_ret
         exact eqT_no (fun e=>by have:=D2.out.2 (by rw[e]);simp at this) T2
        ·skip
         obtain⟨bA,bB⟩:=HK.out w2 U2
         have a6:=blk_cell bA 6
         have b6:=blk_cell bB 6
         have a7:=blk_cell bA 7
         have b7:=blk_cell bB 7
         simp only[List.getElem?_toArray,List.getElem?_cons_succ,List.getElem?_cons_zero] at a6 b6 a7 b7
         clear bA bB
         go_wp2_with fail
         go_ret
         exact eqT_no (fun e=>e8 (by rw[e])) T2
     ·have e7':=bs_ne e7
      go_enter Tryz.func66,Tryz.ntmps66
      go_wp2_with fail
      have qo:=HO.out w0 HT0.out
      rw[HW0.out] at qo
      refine qo.mono ?_
      rintro x w1 ⟨d1,rfl,hd1,t1⟩
      rw[←HW0.out] at t1
      have D1:Hid (d1=true ↔ a.o=b.o):=hd1
      clear qo hd1
      have T1:Tch (fun _=>False) w w1:=HT0.out.trans' t1
      cases d1
      ·go_wp2_with fail
       go_ret
       exact eqT_no (fun e=>by have:=D1.out.2 (by rw[e]);simp at this) T1
      ·skip
       obtain⟨bA,bB⟩:=HK.out w1 t1
       have a5:=blk_cell bA 5
       have b5:=blk_cell bB 5
       simp only[List.getElem?_toArray,List.getElem?_cons_succ,List.getElem?_cons_zero] at a5 b5
       clear bA bB
       go_wp2_with fail
       refine(HN.out w1 T1).mono ?_
       rintro x w2 ⟨d2,rfl,hd2,t2⟩
       have D2:Hid (d2=true ↔ a.n=b.n):=hd2
       have T2:=T1.trans' t2
       have U2:=t1.trans' t2
       clear hd2 a5 b5 t2 t1 T1
       cases d2
       ·go_wp2_with fail
        go_ret
        exact eqT_no (fun e=>by have:=D2.out.2 (by rw[e]);simp at this) T2
       ·skip
        obtain⟨bA,bB⟩:=HK.out w2 U2
        have a6:=blk_cell bA 6
        have b6:=blk_cell bB 6
        simp only[List.getElem?_toArray,List.getElem?_cons_succ,List.getElem?_cons_zero] at a6 b6
        clear bA bB
        go_wp2_with fail
        go_ret
        exact eqT_no (fun e=>e7 (by rw[e])) T2
    ·have e4':=int_ne e4
     go_enter Tryz.func66,Tryz.ntmps66
     go_wp2_with fail
     go_ret
     exact eqT_no (fun e=>e4 (by rw[e])) (by have h:=HT0.out;rw[HW0.out] at h;exact h)
   ·have e3':=int_ne e3
    go_enter Tryz.func66,Tryz.ntmps66
    go_wp2_with fail
    go_ret
    exact eqT_no (fun e=>e3 (by rw[e])) (by have h:=HT0.out;rw[HW0.out] at h;exact h)
  ·have e2':=int_ne e2
   go_enter Tryz.func66,Tryz.ntmps66
   go_wp2_with fail
   go_ret
   exact eqT_no (fun e=>e2 (by rw[e])) (by have h:=HT0.out;rw[HW0.out] at h;exact h)
 ·have e1':=int_ne e1
  go_enter Tryz.func66,Tryz.ntmps66
  go_wp2_with fail
  go_ret
  exact eqT_no (fun e=>e1 (by rw[e])) (by have h:=HT0.out;rw[HW0.out] at h;exact h)
open Go
abbrev wA (nm:ByteArray) (x:Col):Value:= .agg #[.string nm,.string x.nm,.int .i64 x.k,.bool x.nl]
end Go.Proofs.YtaiadknglhemaaaGreatDoor.C
