import Derived.Test.YtaiadknglhemaaaGreatDoorKP3
import Derived.Test.YtaiadknglhemaaaGreatDoorRVd4
import Derived.Test.YtaiadknglhemaaaGreatDoorOW5
import Derived.Test.YtaiadknglhemaaaGreatDoorLD2
import Derived.Test.YtaiadknglhemaaaGreatDoorRows
import Derived.Test.YtaiadknglhemaaaGreatDoorXReader
import Derived.ProofKit
import Derived.ChangeSame
import Derived.ChangeVars
import Derived.JoinedOf
import Derived.RowKit
import Derived.RowKitTokens
import Derived.LaidLaws
import Derived.LaidHandle
import Derived.LaidMore
import Derived.Stop.Joined
import Derived.OpenShut
import Derived.SizedLaws
import Derived.Deep.Slices
import Derived.Test.YtaiadknglhemaaaGreatDoorKeeps
import Derived.BigQuiet
set_option maxHeartbeats 8000000
set_option maxRecDepth 1000000
namespace Go.Proofs.YtaiadknglhemaaaGreatDoor.C
open Go.RowKit Go Go.Sort
def kRow:List Val:=[⟨1,7,⟨#[]⟩⟩,⟨2,0,⟨#[97]⟩⟩]
def kR:Rc:= { rc0 3 with x:=1,t:=2,n:=kRow }
def kB:ByteArray:=⟨#[3,1,2,6,2,1,14,2,1,97]⟩
def kF (v:Val):ByteArray:=if v.k=1 then itoB v.n else⟨#[39,97,39]⟩
theorem kR_bytes:(⟨(recL kR).toArray⟩:ByteArray)=kB:=by kernel_rfl
theorem kR_right:rightC 3 kR:=⟨by unfold rtN;decide,by unfold rtN;decide,by decide,by kernel_rfl⟩
theorem kR_cut:cutC 3 kR=kR:=rfl
theorem kRow_i64: ∀v∈kRow,v.i64:=fun v hv=>by
 rcases List.mem_cons.1 hv with rfl|hv
 ·unfold Val.i64;decide
 ·rcases List.mem_cons.1 hv with rfl|hv
  ·unfold Val.i64;decide
  ·simp at hv
theorem kR_print:insB++spB++joinS [itoB kR.x,tableB,itoB kR.t,brk (kR.n.map kF)]=⟨#[105,110,115,101,114,116,32,49,32,116,97,98,108,101,32,50,32,40,55,44,32,39,97,39,41]⟩:=by kernel_rfl
theorem kR_join:(joinC (kR.n.map kF)).length≤1000000:=by
 have e:(joinC (kR.n.map kF)).length=6:=by kernel_rfl
 omega
theorem kR_joinS:(joinS [itoB kR.x,tableB,itoB kR.t,brk (kR.n.map kF)]).size≤10000000:=by
 have e:(joinS [itoB kR.x,tableB,itoB kR.t,brk (kR.n.map kF)]).size=18:=by kernel_rfl
 omega
theorem k_qtd:qtd ⟨#[97]⟩=[39,97,39]:=by kernel_rfl
theorem k_quoted (W:World):Calls Tryz.prog 156 #[.string ⟨#[97]⟩] W fun x w'=>x= .returned (.string ⟨#[39,97,39]⟩)∧Tch (fun _=>False) W w':=by
 have:=quoted_plain ⟨#[97]⟩ W (by decide) (fun k hk=>by
  obtain rfl:k=0:=by have:k<1:=hk;omega
  rw[show(⟨#[97]⟩:ByteArray)[0]'hk=97 from rfl];decide)
 rw[k_qtd] at this
 exact this
theorem k_prints (w:World) (hw:HWd w) (hv:HP w): ∀v∈kR.n, ∀W,Tch (fun _=>False) w W→Calls Tryz.prog 115 #[vA v.k v.n v.s] W fun x w'=>x= .returned (.string (kF v))∧Tch (fun _=>False) W w':=fun v h W t=>by
 rcases List.mem_cons.1 h with rfl|h
 ·exact print_int6 7 (by omega) W (hw.tch t (fun h=>h)) (hv.no t)
 ·rcases List.mem_cons.1 h with rfl|h
  ·exact print_text ⟨#[97]⟩ W (hw.tch t (fun h=>h)) (by decide) _ k_quoted
  ·simp at h
def kS (A:Nat):Sk:= { sk0 with no:=some ⟨A,0,none⟩,nc:=2 }
theorem kR_rw {W:World} {A:Nat} (h:W.heap[A]? =some (.cells (vcl kRow).toArray 58 (0,0))):RW W (fun _=>False) kR (kS A):=by
 have n0: ∀v∈([]:List Val),v.i64:=fun v hv=>by simp at hv
 have z0:(0:Nat)≤9223372036854775807:=Nat.zero_le _
 exact⟨sl_nil W _ rfl,fun _=>⟨A,0,rfl,blk_at h⟩,ck_nil W _,tl_nil W _,rfl,fun h=>absurd rfl h,fun _ _ _ _ h=>h,n0,kRow_i64,z0,(show(2:Nat)≤9223372036854775807 by omega),z0,z0,fun i hi=>absurd hi (Nat.not_lt_zero i)⟩
theorem known_any (w:World) (hg:HE w) (hvb:HVB w) (hv:HP w) (hw:HWd w):Calls Tryz.prog 6 #[] w fun x w'=>x= .returned (.bool true)∧Tch (fun _=>False) w w':=by
 obtain⟨w0,hw0⟩: ∃w0,w0=(w.alloc (.cells #[.int .i64 1,.int .i64 7,.string ⟨#[]⟩,.int .i64 2,.int .i64 0,.string ⟨#[97]⟩] 58)).alloc (.cells #[.int .i64 3,.int .i64 1,.int .i64 0,.int .i64 2,.slice none 0 0,.slice (some ⟨w.heap.size,0,none⟩) 2 2,.string ⟨#[]⟩,.int .i64 0,.int .i64 0,.int .i64 0,.string ⟨#[]⟩,.slice none 0 0,.int .i64 0,.slice none 0 0] 37):=⟨_,rfl⟩
 have t0:Tch (fun _=>False) w w0:=by rw[hw0];exact(Tch.alloc _ _ _).allocR _
 have bA:w0.heap[w.heap.size]? =some (.cells (vcl kRow).toArray 58 (0,0)):=by
  rw[hw0];exact((Tch.alloc (fun _=>False) _ _).block _ (by simp) (fun h=>h)).trans (heap_new w _)
 have bB:w0.heap[w.heap.size+1]? =some (.cells #[.int .i64 3,.int .i64 1,.int .i64 0,.int .i64 2,.slice none 0 0,.slice (some ⟨w.heap.size,0,none⟩) 2 2,.string ⟨#[]⟩,.int .i64 0,.int .i64 0,.int .i64 0,.string ⟨#[]⟩,.slice none 0 0,.int .i64 0,.slice none 0 0] 37 (0,0)):=by
  rw[hw0, ←World.size_alloc];exact heap_new _ _
 have HK:Hid (∀W,Tch (fun _=>False) w0 W→W.heap[w.heap.size+1]? =some (.cells #[.int .i64 3,.int .i64 1,.int .i64 0,.int .i64 2,.slice none 0 0,.slice (some ⟨w.heap.size,0,none⟩) 2 2,.string ⟨#[]⟩,.int .i64 0,.int .i64 0,.int .i64 0,.string ⟨#[]⟩,.slice none 0 0,.int .i64 0,.slice none 0 0] 37 (0,0))):=fun W t=>(t.block _ (blk_lt bB) (fun h=>h)).trans bB
 have HR:Hid (∀W,Tch (fun _=>False) w0 W→RW W (fun _=>False) kR (kS w.heap.size)∧HE W):=fun W t=>⟨kR_rw ((t.block _ (blk_lt bA) (fun h=>h)).trans bA),(hg.tch t0 (fun h=>h)).tch t (fun h=>h)⟩
 have q1:=encode_ok kR (kS w.heap.size) (fun _=>False) w0 (HR.out w0 (Tch.refl _ _)).2 (HR.out w0 (Tch.refl _ _)).1 kR_right kR_cut
 rw[kR_bytes] at q1
 have q1:Calls Tryz.prog 13 #[rA 3 1 0 2 (.slice none 0 0) (.slice (some ⟨w.heap.size,0,none⟩) 2 2) ⟨#[]⟩ 0 0 0 ⟨#[]⟩ (.slice none 0 0) 0 (.slice none 0 0)] w0 fun x w'=>x= .returned (.tuple #[.string ⟨#[3,1,2,6,2,1,14,2,1,97]⟩,.int .i64 0])∧Tch (fun _=>False) w0 w':=q1
 have HD:Hid (∀W,Tch (fun _=>False) w0 W→Calls Tryz.prog 14 #[.string ⟨#[3,1,2,6,2,1,14,2,1,97]⟩] W fun x w'=> ∃a4 c4 a b a11 c11 a13 n13 c13,x= .returned (.tuple #[rA 3 1 0 2 (.slice a4 0 c4) (.slice a 2 b) ⟨#[]⟩ 0 0 0 ⟨#[]⟩ (.slice a11 0 c11) 0 (.slice a13 n13 c13),.int .i64 0])∧Tch (fun _=>False) W w'):=fun W t=>by
  have q:=decode_3 kR kB W kR_bytes.symm (by decide) (HR.out W t).2 rfl kR_right kR_cut (fun v hv=>by simp[kR,rc0] at hv) kRow_i64
  refine q.mono ?_
  rintro x w' ⟨s,rfl, -,tw, -⟩
  exact⟨s.oo,s.oc,s.no,s.nc,s.co,s.cc,s.to,s.P.length,s.tc,rfl,tw⟩
 have HPR:Hid (∀W,Tch (fun _=>False) w0 W→Calls Tryz.prog 19 #[rA 3 1 0 2 (.slice none 0 0) (.slice (some ⟨w.heap.size,0,none⟩) 2 2) ⟨#[]⟩ 0 0 0 ⟨#[]⟩ (.slice none 0 0) 0 (.slice none 0 0)] W fun x w'=>x= .returned (.string ⟨#[105,110,115,101,114,116,32,49,32,116,97,98,108,101,32,50,32,40,55,44,32,39,97,39,41]⟩)∧Tch (fun _=>False) W w'):=fun W t=>by
  have q:=print_3 kR (kS w.heap.size) (fun _=>False) W kF (HR.out W t).2 (hvb.no (t0.trans' t)) (hv.no (t0.trans' t)) (HR.out W t).1 rfl kR_right kR_cut (k_prints W (hw.tch (t0.trans' t) (fun h=>h)) (hv.no (t0.trans' t))) (by decide) kR_join kR_joinS
  rw[kR_print] at q
  exact q
 rw[hw0] at q1
 have HT0:Hid (Tch (fun _=>False) w w0):=t0
 have HW0:Hid (w0=_):=hw0
 clear hg hvb hv hw bA bB t0 hw0 HR
 go_enter Tryz.func6,Tryz.ntmps6
 go_wp2_with fail
 refine q1.mono ?_
 rintro x w1 ⟨rfl,t1⟩
 rw[←HW0.out] at t1
 clear q1
 go_wp2_with fail
 refine(HD.out w1 t1).mono ?_
 rintro x w2 ⟨a4,c4,a,b,a11,c11,a13,n13,c13,rfl,t2⟩
 have T2:=t1.trans' t2
 have b2:=HK.out w2 T2
 obtain⟨w3,hw3⟩: ∃w3,w3=w2.alloc (.cells #[.int .i64 3,.int .i64 1,.int .i64 0,.int .i64 2,.slice a4 0 c4,.slice a 2 b,.string ⟨#[]⟩,.int .i64 0,.int .i64 0,.int .i64 0,.string ⟨#[]⟩,.slice a11 0 c11,.int .i64 0,.slice a13 n13 c13] 37):=⟨_,rfl⟩
 have T3:Tch (fun _=>False) w0 w3:=by rw[hw3];exact T2.allocR _
 have q4:=HPR.out w3 T3
 have b3:=HK.out w3 T3
 have hlt:=blk_lt b2
 have HT3:Hid (Tch (fun _=>False) w w3):=HT0.out.trans' T3
 rw[hw3] at q4 b3
 have HW3:Hid (w3=_):=hw3
 have y0:(w2.alloc (.cells #[.int .i64 3,.int .i64 1,.int .i64 0,.int .i64 2,.slice a4 0 c4,.slice a 2 b,.string ⟨#[]⟩,.int .i64 0,.int .i64 0,.int .i64 0,.string ⟨#[]⟩,.slice a11 0 c11,.int .i64 0,.slice a13 n13 c13] 37)).cell? ⟨w.heap.size+1,0,none⟩=some (.int .i64 3):=blk_cell b3 0
 have y1:(w2.alloc (.cells #[.int .i64 3,.int .i64 1,.int .i64 0,.int .i64 2,.slice a4 0 c4,.slice a 2 b,.string ⟨#[]⟩,.int .i64 0,.int .i64 0,.int .i64 0,.string ⟨#[]⟩,.slice a11 0 c11,.int .i64 0,.slice a13 n13 c13] 37)).cell? ⟨w.heap.size+1,1,none⟩=some (.int .i64 1):=blk_cell b3 1
 have y2:(w2.alloc (.cells #[.int .i64 3,.int .i64 1,.int .i64 0,.int .i64 2,.slice a4 0 c4,.slice a 2 b,.string ⟨#[]⟩,.int .i64 0,.int .i64 0,.int .i64 0,.string ⟨#[]⟩,.slice a11 0 c11,.int .i64 0,.slice a13 n13 c13] 37)).cell? ⟨w.heap.size+1,2,none⟩=some (.int .i64 0):=blk_cell b3 2
 have y3:(w2.alloc (.cells #[.int .i64 3,.int .i64 1,.int .i64 0,.int .i64 2,.slice a4 0 c4,.slice a 2 b,.string ⟨#[]⟩,.int .i64 0,.int .i64 0,.int .i64 0,.string ⟨#[]⟩,.slice a11 0 c11,.int .i64 0,.slice a13 n13 c13] 37)).cell? ⟨w.heap.size+1,3,none⟩=some (.int .i64 2):=blk_cell b3 3
 have y4:(w2.alloc (.cells #[.int .i64 3,.int .i64 1,.int .i64 0,.int .i64 2,.slice a4 0 c4,.slice a 2 b,.string ⟨#[]⟩,.int .i64 0,.int .i64 0,.int .i64 0,.string ⟨#[]⟩,.slice a11 0 c11,.int .i64 0,.slice a13 n13 c13] 37)).cell? ⟨w.heap.size+1,4,none⟩=some (.slice none 0 0):=blk_cell b3 4
 have y5:(w2.alloc (.cells #[.int .i64 3,.int .i64 1,.int .i64 0,.int .i64 2,.slice a4 0 c4,.slice a 2 b,.string ⟨#[]⟩,.int .i64 0,.int .i64 0,.int .i64 0,.string ⟨#[]⟩,.slice a11 0 c11,.int .i64 0,.slice a13 n13 c13] 37)).cell? ⟨w.heap.size+1,5,none⟩=some (.slice (some ⟨w.heap.size,0,none⟩) 2 2):=blk_cell b3 5
 have y6:(w2.alloc (.cells #[.int .i64 3,.int .i64 1,.int .i64 0,.int .i64 2,.slice a4 0 c4,.slice a 2 b,.string ⟨#[]⟩,.int .i64 0,.int .i64 0,.int .i64 0,.string ⟨#[]⟩,.slice a11 0 c11,.int .i64 0,.slice a13 n13 c13] 37)).cell? ⟨w.heap.size+1,6,none⟩=some (.string ⟨#[]⟩):=blk_cell b3 6
 have y7:(w2.alloc (.cells #[.int .i64 3,.int .i64 1,.int .i64 0,.int .i64 2,.slice a4 0 c4,.slice a 2 b,.string ⟨#[]⟩,.int .i64 0,.int .i64 0,.int .i64 0,.string ⟨#[]⟩,.slice a11 0 c11,.int .i64 0,.slice a13 n13 c13] 37)).cell? ⟨w.heap.size+1,7,none⟩=some (.int .i64 0):=blk_cell b3 7
 have y8:(w2.alloc (.cells #[.int .i64 3,.int .i64 1,.int .i64 0,.int .i64 2,.slice a4 0 c4,.slice a 2 b,.string ⟨#[]⟩,.int .i64 0,.int .i64 0,.int .i64 0,.string ⟨#[]⟩,.slice a11 0 c11,.int .i64 0,.slice a13 n13 c13] 37)).cell? ⟨w.heap.size+1,8,none⟩=some (.int .i64 0):=blk_cell b3 8
 have y9:(w2.alloc (.cells #[.int .i64 3,.int .i64 1,.int .i64 0,.int .i64 2,.slice a4 0 c4,.slice a 2 b,.string ⟨#[]⟩,.int .i64 0,.int .i64 0,.int .i64 0,.string ⟨#[]⟩,.slice a11 0 c11,.int .i64 0,.slice a13 n13 c13] 37)).cell? ⟨w.heap.size+1,9,none⟩=some (.int .i64 0):=blk_cell b3 9
 have y10:(w2.alloc (.cells #[.int .i64 3,.int .i64 1,.int .i64 0,.int .i64 2,.slice a4 0 c4,.slice a 2 b,.string ⟨#[]⟩,.int .i64 0,.int .i64 0,.int .i64 0,.string ⟨#[]⟩,.slice a11 0 c11,.int .i64 0,.slice a13 n13 c13] 37)).cell? ⟨w.heap.size+1,10,none⟩=some (.string ⟨#[]⟩):=blk_cell b3 10
 have y11:(w2.alloc (.cells #[.int .i64 3,.int .i64 1,.int .i64 0,.int .i64 2,.slice a4 0 c4,.slice a 2 b,.string ⟨#[]⟩,.int .i64 0,.int .i64 0,.int .i64 0,.string ⟨#[]⟩,.slice a11 0 c11,.int .i64 0,.slice a13 n13 c13] 37)).cell? ⟨w.heap.size+1,11,none⟩=some (.slice none 0 0):=blk_cell b3 11
 have y12:(w2.alloc (.cells #[.int .i64 3,.int .i64 1,.int .i64 0,.int .i64 2,.slice a4 0 c4,.slice a 2 b,.string ⟨#[]⟩,.int .i64 0,.int .i64 0,.int .i64 0,.string ⟨#[]⟩,.slice a11 0 c11,.int .i64 0,.slice a13 n13 c13] 37)).cell? ⟨w.heap.size+1,12,none⟩=some (.int .i64 0):=blk_cell b3 12
 have y13:(w2.alloc (.cells #[.int .i64 3,.int .i64 1,.int .i64 0,.int .i64 2,.slice a4 0 c4,.slice a 2 b,.string ⟨#[]⟩,.int .i64 0,.int .i64 0,.int .i64 0,.string ⟨#[]⟩,.slice a11 0 c11,.int .i64 0,.slice a13 n13 c13] 37)).cell? ⟨w.heap.size+1,13,none⟩=some (.slice none 0 0):=blk_cell b3 13
 clear hw3 T2 T3 t1 t2 b2 b3 HPR HD HK
 go_wp2_with fail
 refine q4.mono ?_
 rintro x w4 ⟨rfl,t4⟩
 rw[←HW3.out] at t4
 go_wp2_with fail
 go_ret
 exact⟨rfl,HT3.out.trans' t4⟩
theorem recdec_law (S O:ByteArray) (w:World) (qk:Calls Tryz.prog 6 #[] w fun x w'=>x= .returned (.bool true)∧Tch (fun _=>False) w w') (hG: ∀W,Tch (fun _=>False) w W→HE W) (z0:S.size≤140737488351232) (z1:O.size≤140737488351232):
  Calls Tryz.prog 5 #[.string S,.string O] w fun x w'=>x= .returned (.bool true)∧Tch (fun _=>False) w w':=by
 have HGG:Hid _:=hG
 have HZ:Hid (∀T∈[S,S,O,S],T.size≤140737488351232):=fun T hT=>by
  simp only[List.mem_cons,List.not_mem_nil,or_false] at hT
  rcases hT with rfl|rfl|rfl|rfl<;>assumption
 clear hG z0 z1
 go_enter Tryz.func5,Tryz.ntmps5
 go_wp2_with fail
 refine qk.mono ?_
 rintro x w1 ⟨rfl,t1⟩
 clear qk
 obtain⟨w2,hw2⟩: ∃w2,w2=w1.alloc (.cells #[.string S,.string S,.string O,.string S] 9):=⟨_,rfl⟩
 obtain⟨Ab,hAb⟩: ∃Ab,Ab=w1.heap.size:=⟨_,rfl⟩
 have t2:Tch (fun _=>False) w1 w2:=by rw[hw2];exact Tch.alloc _ _ _
 have b2:w2.heap[Ab]? =some (.cells #[.string S,.string S,.string O,.string S] 9 (0,0)):=by rw[hw2,hAb];exact heap_new w1 _
 have HA:Hid (∀W,Tch (fun _=>False) w2 W→Ab<W.heap.size∧ ∀(i:Nat) (T:ByteArray),[S,S,O,S][i]? =some T→W.cell? ⟨Ab,i,none⟩=some (.string T)):=fun W t=>by
  have b3:=(t.block Ab (blk_lt b2) (fun h=>h)).trans b2
  refine⟨blk_lt b3,fun i T hT=>?_⟩
  rw[blk_cell b3]
  rcases i with _|_|_|_|i<;>simp at hT<;>simp[hT]
 have HT2:Hid (Tch (fun _=>False) w w2):=t1.trans' t2
 have HW2:Hid (w2=w1.alloc (.cells #[.string S,.string S,.string O,.string S] 9)):=hw2
 have HAb:Hid (Ab=w1.heap.size):=hAb
 clear t1 t2 b2 hw2 hAb
 go_wp2_with fail
 rw[←HW2.out, ←HAb.out]
 clear HW2 HAb
 refine dec1 w2 S O Ab (HA.out w2 (Tch.refl _ _)) HZ (fun W t=>HGG.out W (HT2.out.trans' t)) _ _ _ _ _ _ _ _ _ _ _ _ _ _ _ _ _ _ _ _ _ _ _ _ _ _ _ _ _ _ _ _ _ _ _ _ _ _ _ _ _ _ _ _ _ _ _ _ _ _ _ _ _ _ _ _ _ _ _ _ _ _ _ _ _ _ _ _ _ _ _ _ _ _ _ _ _ _ _ _ _ _ _ _ _ ?_
 rintro v4 v7 v8 v9 aa ab ae af am aq au av aw ax ay az aA aB aC aD aF aG aH aI aJ aK aL aM aN aO aP aQ aR aS aT aU aV aW aX aY aZ ba be bf w3 ⟨lo,lc,rfl,J⟩
 obtain⟨RS,hR,t3⟩:=J.out
 have H3:Hid (RL w3 w2.heap.size lo 4 lc [S,S,O,S] RS∧Tch (fun _=>False) w2 w3):=⟨hR,t3⟩
 clear J hR t3
 go_wp2_with fail
 refine dec2 w3 S O Ab w2.heap.size lo lc RS (HA.out w3 H3.out.2) HZ H3.out.1 _ _ _ _ _ _ _ _ _ _ _ _ _ _ _ _ _ _ _ _ _ _ _ _ _ _ _ _ _ _ _ _ _ _ _ _ _ _ _ _ _ _ _ _ _ _ _ _ _ _ _ _ _ _ _ _ _ _ _ _ _ _ _ _ _ _ _ _ _ _ _ _ _ _ _ _ _ _ _ _ _ _ _ _ _ ?_
 rintro z4 ah ai aj al bg bh bi bj bp bq br bu bv bw bz bC bD bE bF bG bH bI bJ bK bL bM w4 J
 have H4:Hid (RL w4 w2.heap.size lo 4 lc [S,S,O,S] RS∧Tch (fun _=>False) w w4):=⟨H3.out.1.no J.out,(HT2.out.trans' H3.out.2).trans' J.out⟩
 have q:=H4.out.1.owned (by omega) (by omega)
 have H5:Hid (w.heap.size≤w2.heap.size):=HT2.out.size
 clear J H3 HA HT2 HGG HZ
 go_wp2_with fail
 refine q.mono ?_
 rintro x w5 ⟨rfl,t5⟩
 have H6:Hid (Tch (fun _=>False) w w5):=H4.out.2.trans t5 (fun g hg e=>by have:=H4.out.1.ge e;have:=H5.out;omega)
 clear q t5 H4 H5
 go_wp2_with fail
 go_ret
 exact⟨rfl,H6.out⟩
end Go.Proofs.YtaiadknglhemaaaGreatDoor.C
namespace Go.Proofs.YtaiadknglhemaaaGreatDoor
open Go.ChangeShapes Go.WideShapes Go.RowKit Go.Deep
set_option maxRecDepth 100000
theorem tr_et:Tryz.prog.globalNamed "errors.errorType" =some 1:=by kernel_rfl
theorem tr_ws:Tryz.prog.globalNamed "confluence/value.words" =some 3:=by kernel_rfl
theorem tr_wt:(Tryz.prog.globals[3]?).map (·.type)=some 224:=by kernel_rfl
theorem tr_rt:(Tryz.prog.cutTypes.find? (·.1== "internal/reflectlite.rtype")).map (·.2)=some 205:=by kernel_rfl
theorem tr_oneRow:((List.range 281).filter fun t=>Tryz.prog.rowNamed t [101,114,114,111,114])=[117]:=by kernel_rfl
theorem tr_size:Tryz.prog.types.size=281:=by kernel_rfl
theorem c_int:Tryz.prog.cellsOf 3=1:=by kernel_rfl
theorem c_str:Tryz.prog.cellsOf 9=1:=by kernel_rfl
theorem c_val:Tryz.prog.cellsOf 58=3:=by kernel_rfl
theorem c_word:Tryz.prog.cellsOf 223=4:=by kernel_rfl
theorem wf_i64 {n:Int} (h:(Lit.int .i64 n).wf=true): -9223372036854775808≤n∧n≤9223372036854775807:=by
 have:=bounds_i64 h
 omega
theorem list3 {α:Type} (l:List α) (h:l.length=3): ∃c0 c1 c2,l=[c0,c1,c2]:=by
 rcases l with _|⟨c0,_|⟨c1,_|⟨c2,_|⟨c3,l⟩⟩⟩⟩<;>simp at h
 exact⟨c0,c1,c2,rfl⟩
theorem list4 {α:Type} (l:List α) (h:l.length=4): ∃c0 c1 c2 c3,l=[c0,c1,c2,c3]:=by
 rcases l with _|⟨c0,_|⟨c1,_|⟨c2,_|⟨c3,_|⟨c4,l⟩⟩⟩⟩⟩<;>simp at h
 exact⟨c0,c1,c2,c3,rfl⟩
section
variable {H:Type} {enc:TypeId×Value→H} {W:World} {sp:Nat→Bool} {hd:Bool} {fuel:Nat} {x:DataW H×List MemPlace} {cs:List Value}
theorem val_of (h:DataW.trod enc Tryz.prog W 0 sp hd fuel 58 cs=some x):
  ∃(k n:Int) (s:ByteArray),cs=[.int .i64 k,.int .i64 n,.string s]∧x.1= .agg [.lit (.int .i64 k),.lit (.int .i64 n),.lit (.string s.data.toList)]∧(Val.mk k n s).i64∧s.size≤maxLen:=by
 obtain⟨xs,n',_,hx,hcl,hxl,hf⟩:=DataW.trod_struct Tryz.underlying58 h
 rw[c_val] at hcl
 have hxs:xs.length=3:=hxl
 obtain⟨c0,c1,c2,rfl⟩:=list3 cs hcl
 obtain⟨y0,y1,y2,rfl⟩:=list3 xs hxs
 have f0:DataW.trod enc Tryz.prog W 0 sp hd n' 3 [c0]=some y0:=by have:=hf 0 _ rfl;simpa[c_int] using this
 have f1:DataW.trod enc Tryz.prog W 0 sp hd n' 3 [c1]=some y1:=by have:=hf 1 _ rfl;simpa[c_int] using this
 have f2:DataW.trod enc Tryz.prog W 0 sp hd n' 9 [c2]=some y2:=by have:=hf 2 _ rfl;simpa[c_str] using this
 obtain⟨k,e0,g0,wk⟩:=DataW.trod_int Tryz.underlying3 f0
 obtain⟨n,e1,g1,wn⟩:=DataW.trod_int Tryz.underlying3 f1
 obtain⟨s,e2,g2,ws⟩:=DataW.trod_string Tryz.underlying9 f2
 simp at e0 e1 e2
 subst e0 e1 e2
 exact⟨k,n,s,rfl,by rw[hx,g0,g1,g2];rfl,⟨wf_i64 wk,wf_i64 wn⟩,ws⟩
theorem word_of (h:DataW.trod enc Tryz.prog W 0 sp hd fuel 223 cs=some x):
  ∃(t:ByteArray) (k n:Int) (s:ByteArray),cs=[.string t,.int .i64 k,.int .i64 n,.string s]∧x.1= .agg [.lit (.string t.data.toList),.agg [.lit (.int .i64 k),.lit (.int .i64 n),.lit (.string s.data.toList)]]:=by
 obtain⟨xs,n',_,hx,hcl,hxl,hf⟩:=DataW.trod_struct Tryz.underlying223 h
 rw[c_word] at hcl
 have hxs:xs.length=2:=hxl
 obtain⟨c0,c1,c2,c3,rfl⟩:=list4 cs hcl
 rcases xs with _|⟨y0,_|⟨y1,_|⟨y2,l⟩⟩⟩<;>simp at hxs
 have f0:DataW.trod enc Tryz.prog W 0 sp hd n' 9 [c0]=some y0:=by have:=hf 0 _ rfl;simpa[c_str] using this
 have f1:DataW.trod enc Tryz.prog W 0 sp hd n' 58 [c1,c2,c3]=some y1:=by have:=hf 1 _ rfl;simpa[c_val] using this
 obtain⟨t,e0,g0,_⟩:=DataW.trod_string Tryz.underlying9 f0
 obtain⟨k,n,s,e1,g1,_⟩:=val_of f1
 simp at e0 e1
 obtain⟨rfl,rfl,rfl⟩:=e1
 subst e0
 exact⟨t,k,n,s,rfl,by rw[hx,g0];simp[g1]⟩
end
theorem bytes_of {t:ByteArray} {l:List UInt8} (h:t.data.toList=l):t=⟨l.toArray⟩:=by
 obtain⟨⟨t⟩⟩:=t
 simp at h
 simp[h]
end Go.Proofs.YtaiadknglhemaaaGreatDoor
namespace Go.Proofs.YtaiadknglhemaaaGreatDoor
open Go.RowKit
def oc (a b:Int):Int:=Lib.compareInt a b
open Go.Sort
def LX (base:Nat) (W:World) (xo:Option Addr) (cx:Nat) (ro:Option Addr) (c:Nat) (l:List Val):Prop:=
 (ro=none∧xo=none∧l=[]∧c=0∧cx=0)∨ ∃ad g,ro=some ad∧xo=some ⟨g,0,none⟩∧base≤g∧g<W.heap.size∧l.length+4≤cx∧RowAt W g 0 (lentV l)∧ ∀j,W.frozen? ⟨g,j,none⟩=false
end Go.Proofs.YtaiadknglhemaaaGreatDoor
