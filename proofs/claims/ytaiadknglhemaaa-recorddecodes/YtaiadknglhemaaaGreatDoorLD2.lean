import Derived.Test.YtaiadknglhemaaaGreatDoorOW1
import Derived.Test.YtaiadknglhemaaaGreatDoorOW5
import Derived.Test.YtaiadknglhemaaaGreatDoorOW11
import Derived.Test.YtaiadknglhemaaaGreatDoorOW19
import Derived.Test.YtaiadknglhemaaaGreatDoorDX5
import Derived.Test.YtaiadknglhemaaaGreatDoorOX4
import Derived.Lib.QuietBelow
set_option maxHeartbeats 8000000
set_option maxRecDepth 1000000
namespace Go.Proofs.YtaiadknglhemaaaGreatDoor.C
open Go.RowKit Go Go.Sort
theorem HX.some9 {W:World} {le:TypeId} {ho:Option Addr} {m hc:Nat} {X:List (Value×Nat)} (h:HX W le ho m hc X) (hm:0<m): ∃G,ho=some ⟨G,0,none⟩:=by
 obtain⟨G,e,_⟩:=own_at h.2 hm
 exact⟨G,e⟩
def B3 (RS:List (Rc×Sk)) (g:Nat):Prop:=Bx (RS.flatMap xr6) g∨Bx (RS.flatMap xc6) g∨Bx (RS.map xt6) g
theorem owned_t (w0:World) (Lb m lc:Nat) (RS:List (Rc×Sk)) (hm:m≤1000) (HM:Hid (m=RS.length))
  (HL:Hid (Lb<w0.heap.size∧ ∀(i:Nat) (p:Rc×Sk),RS[i]? =some p→ ∃(oo:Option Addr) (on oc:Nat) (no:Option Addr) (nn nc:Nat) (ko:Option Addr) (kn kc:Nat) (to':Option Addr) (tn tc':Nat),xr6 p=[(.slice oo on oc,on),(.slice no nn nc,nn)]∧(xc6 p).head? =some (.slice ko kn kc,kn)∧xt6 p=(.slice to' tn tc',tn)∧w0.cell? ⟨Lb,i*14+4,none⟩=some (.slice oo on oc)∧w0.cell? ⟨Lb,i*14+5,none⟩=some (.slice no nn nc)∧w0.cell? ⟨Lb,i*14+11,none⟩=some (.slice ko kn kc)∧w0.cell? ⟨Lb,i*14+13,none⟩=some (.slice to' tn tc')))
  (HP:Hid (∀(i:Nat) (p:Rc×Sk),RS[i]? =some p→p.2.P.length≤16∧ ∀(j:Nat) (q:Tbl×Value),p.2.P[j]? =some q→ ∃g ko kc,p.2.to=some ⟨g,0,none⟩∧g<w0.heap.size∧q.2= .slice ko q.1.cols.length kc∧w0.cell? ⟨g,j*5+3,none⟩=some (.slice ko q.1.cols.length kc)))
  (hm0:0<m) (HX0:Hid (LX w0 58 3 mkR6 (RS.flatMap xr6) 0∧LX w0 43 3 mkL6 (RS.flatMap xc6) 0∧LX w0 29 5 mkT6 (RS.map xt6) 0)) (HN:Hid ((∀x∈RS.flatMap xr6,x.2≤1000000)∧(∀x∈RS.flatMap xc6,x.2≤1000000)∧(∀x∈RS.map xt6,x.2≤1000000))):
  Calls Tryz.prog 23 #[.slice (some ⟨Lb,0,none⟩) m lc] w0 fun x w'=>x= .returned (.bool true)∧Tch (B3 RS) w0 w':=by
 go_enter Tryz.func23,Tryz.ntmps23
 go_wp2_with fail
 refine owned1 w0 Lb m lc RS hm HM HL HP _ _ _ _ _ _ _ _ _ _ _ _ _ _ _ _ _ _ _ _ _ _ _ _ _ _ _ _ _ _ _ _ _ _ _ _ _ _ _ _ _ _ _ _ _ _ _ _ _ _ _ _ _ _ _ _ _ _ _ _ _ _ _ _ _ _ _ _ _ _ _ _ _ _ _ _ _ _ _ _ _ _ _ _ _ _ _ _ _ _ _ _ _ _ _ _ _ _ _ _ _ _ _ _ _ _ _ _ _ _ _ _ _ _ _ _ _ _ _ _ _ _ _ _ _ _ _ _ _ _ _ _ _ _ _ _ _ _ _ _ _ _ _ _ _ _ _ _ _ _ _ _ _ _ _ _ _ _ _ _ _ _ _ _ _ _ _ _ _ _ _ _ _ _ _ _ _ _ _ _ _ _ _ _ _ _ _ _ _ _ _ _ _ _ _ _ _ _ _ _ _ _ _ _ _ _ _ _ _ _ _ _ _ _ _ _ _ _ _ _ _ _ _ _ _ _ _ _ _ _ _ _ _ _ _ _ _ _ _ _ _ _ _ _ _ _ _ _ _ _ _ _ _ _ _ _ _ _ _ _ _ _ _ _ _ _ _ _ _ _ _ _ _ _ _ _ _ _ _ _ _ _ _ _ _ _ _ _ _ _ _ _ _ _ _ _ _ _ _ _ _ _ _ _ _ _ _ _ _ _ _ _ _ _ _ _ _ _ _ ?_
 rintro v3 v4 v5 v6 v7 gr gu gx gy gA gB gC gD gE gF gG gH gI gJ gK gL gM gN gO gP gQ gR gS gT gU gV gW gX gY gZ hH hU hZ i6 i7 i8 ia ib ic ie ig ii ij ik il im io ip iq ir iu iw ix iy iz iA iB iC w1 ⟨ro,rm,rc,co,cm,cc,tbo,tm,tc,rfl,rfl,rfl,J⟩
 obtain⟨j1,j2,j3,j4⟩:=J.out
 rw[List.take_of_length_le (by have:=HM.out;omega)] at j4
 have bm:rm≤1000000∧cm≤1000000∧tm≤1000000:=by omega
 obtain⟨a1,a2,a3⟩:=HX0.out
 obtain⟨n1,n2,n3⟩:=HN.out
 have HP0:Hid (0<rm∧0<cm∧0<tm∧rm≤1000000∧cm≤1000000∧tm≤1000000):=by
  have l2:=j4.c.1
  have l0:=HM.out
  refine⟨by omega,?_,by omega,bm⟩
  rw[l2,List.length_flatMap]
  cases RS with
  |nil=>simp at l0;omega
  |cons p l=>simp;omega
 have H1:Hid (LX w1 58 3 mkR6 (RS.flatMap xr6) 0∧LX w1 43 3 mkL6 (RS.flatMap xc6) 0∧LX w1 29 5 mkT6 (RS.map xt6) 0∧HX w1 24 ro rm rc (RS.flatMap xr6)∧HX w1 22 co cm cc (RS.flatMap xc6)∧HX w1 35 tbo tm tc (RS.map xt6)):=⟨a1.no j4.tch (fun _ _ _ _ _ e=>e),a2.no j4.tch (fun _ _ _ _ _ e=>e),a3.no j4.tch (fun _ _ _ _ _ e=>e),j4.r,j4.c,j4.t⟩
 have HN1:Hid (∀x∈RS.flatMap xr6,x.2≤1000000):=n1
 have HN2:Hid (∀x∈RS.flatMap xc6,x.2≤1000000):=n2
 have HN3:Hid (∀x∈RS.map xt6,x.2≤1000000):=n3
 have T1:Hid (Tch (B3 RS) w0 w1):=j4.tch.mono (fun _ _ h=>h.elim)
 obtain⟨m1,m2,m3⟩:=bm
 clear a1 a2 a3 n1 n2 n3 j1 j2 j3 j4 J HX0 HN HL HP
 go_wp2_with fail
 refine owned3 w1 ro rm rc (RS.flatMap xr6) m1 HN1 ⟨H1.out.1,H1.out.2.2.2.1,Tch.refl _ _⟩ _ _ _ _ _ _ _ _ _ _ _ _ _ _ _ _ _ _ _ _ _ _ _ _ _ _ _ _ _ _ _ _ _ _ _ _ _ _ _ _ _ _ _ _ _ _ _ _ _ _ _ _ _ _ _ _ _ _ _ _ _ _ _ _ _ _ _ _ _ _ _ _ _ _ _ _ _ _ _ _ _ _ _ _ _ _ _ _ _ _ _ _ _ _ _ _ _ _ _ _ _ _ _ _ _ _ _ _ _ _ _ _ _ _ _ _ _ _ _ _ _ _ _ _ _ _ _ _ _ _ _ _ _ _ _ _ _ _ _ _ _ _ _ _ _ _ _ _ _ _ _ _ _ _ _ _ _ _ _ _ _ _ _ _ _ _ _ _ _ _ _ _ _ _ _ _ _ _ _ _ _ _ _ _ _ _ _ _ _ _ _ _ _ _ _ _ _ _ _ _ _ _ _ _ _ _ _ _ _ _ _ _ _ _ _ _ _ _ _ _ _ _ _ _ _ _ _ _ _ _ _ _ _ _ _ _ _ _ _ _ _ _ _ _ _ _ _ _ _ _ _ _ _ _ _ _ _ _ _ _ _ _ _ _ _ _ _ _ _ _ _ _ _ _ _ _ _ _ _ _ _ _ _ _ _ _ _ _ _ _ _ _ _ _ _ _ _ _ _ _ _ _ _ _ _ _ _ _ _ _ _ _ _ _ _ _ _ _ _ _ _ _ ?_
 rintro v8 v9 iD iF iG iH iI iJ iK iL iM iN aa ab ae af ah ai aj al am aq au av aw w3 J
 have H3:Hid (LX w3 58 3 mkR6 (RS.flatMap xr6) rm∧LX w3 43 3 mkL6 (RS.flatMap xc6) 0∧LX w3 29 5 mkT6 (RS.map xt6) 0∧HX w3 24 ro rm rc (RS.flatMap xr6)∧HX w3 22 co cm cc (RS.flatMap xc6)∧HX w3 35 tbo tm tc (RS.map xt6)):=by
  obtain⟨b1,b2,b3,b4,b5,b6⟩:=H1.out
  obtain⟨k1,k2,k3⟩:=J.out
  exact⟨k1,b2.far b1 (by decide) k3,b3.far b1 (by decide) k3,k2,b5.farX b1 (by decide) k3,b6.farX b1 (by decide) k3⟩
 have T3:Hid (Tch (B3 RS) w0 w3):=T1.out.trans' (J.out.2.2.mono (fun _ _ h=>Or.inl h))
 clear J H1 T1
 go_wp2_with fail
 refine owned5 w3 co cm cc (RS.flatMap xc6) m2 HN2 ⟨H3.out.2.1,H3.out.2.2.2.2.1,Tch.refl _ _⟩ _ _ _ _ _ _ _ _ _ _ _ _ _ _ _ _ _ _ _ _ _ _ _ _ _ _ _ _ _ _ _ _ _ _ _ _ _ _ _ _ _ _ _ _ _ _ _ _ _ _ _ _ _ _ _ _ _ _ _ _ _ _ _ _ _ _ _ _ _ _ _ _ _ _ _ _ _ _ _ _ _ _ _ _ _ _ _ _ _ _ _ _ _ _ _ _ _ _ _ _ _ _ _ _ _ _ _ _ _ _ _ _ _ _ _ _ _ _ _ _ _ _ _ _ _ _ _ _ _ _ _ _ _ _ _ _ _ _ _ _ _ _ _ _ _ _ _ _ _ _ _ _ _ _ _ _ _ _ _ _ _ _ _ _ _ _ _ _ _ _ _ _ _ _ _ _ _ _ _ _ _ _ _ _ _ _ _ _ _ _ _ _ _ _ _ _ _ _ _ _ _ _ _ _ _ _ _ _ _ _ _ _ _ _ _ _ _ _ _ _ _ _ _ _ _ _ _ _ _ _ _ _ _ _ _ _ _ _ _ _ _ _ _ _ _ _ _ _ _ _ _ _ _ _ _ _ _ _ _ _ _ _ _ _ _ _ _ _ _ _ _ _ _ _ _ _ _ _ _ _ _ _ _ _ _ _ _ _ _ _ _ _ _ _ _ _ _ _ _ _ _ _ _ _ _ _ _ _ _ _ _ _ _ _ _ _ _ _ _ _ _ _ ?_
 rintro fQ fR ax ay az aA aB aC aD aF aG aH aI aJ aK aL aM aN aO aP aQ aR aS aT aU aV w5 J
 have H5:Hid (LX w5 58 3 mkR6 (RS.flatMap xr6) rm∧LX w5 43 3 mkL6 (RS.flatMap xc6) cm∧LX w5 29 5 mkT6 (RS.map xt6) 0∧HX w5 24 ro rm rc (RS.flatMap xr6)∧HX w5 22 co cm cc (RS.flatMap xc6)∧HX w5 35 tbo tm tc (RS.map xt6)):=by
  obtain⟨b1,b2,b3,b4,b5,b6⟩:=H3.out
  obtain⟨k1,k2,k3⟩:=J.out
  exact⟨b1.far b2 (by decide) k3,k1,b3.far b2 (by decide) k3,b4.farX b2 (by decide) k3,k2,b6.farX b2 (by decide) k3⟩
 have T5:Hid (Tch (B3 RS) w0 w5):=T3.out.trans' (J.out.2.2.mono (fun _ _ h=>Or.inr (Or.inl h)))
 clear J H3 T3
 go_wp2_with fail
 refine owned7 w5 tbo tm tc (RS.map xt6) m3 HN3 ⟨H5.out.2.2.1,H5.out.2.2.2.2.2,Tch.refl _ _⟩ _ _ _ _ _ _ _ _ _ _ _ _ _ _ _ _ _ _ _ _ _ _ _ _ _ _ _ _ _ _ _ _ _ _ _ _ _ _ _ _ _ _ _ _ _ _ _ _ _ _ _ _ _ _ _ _ _ _ _ _ _ _ _ _ _ _ _ _ _ _ _ _ _ _ _ _ _ _ _ _ _ _ _ _ _ _ _ _ _ _ _ _ _ _ _ _ _ _ _ _ _ _ _ _ _ _ _ _ _ _ _ _ _ _ _ _ _ _ _ _ _ _ _ _ _ _ _ _ _ _ _ _ _ _ _ _ _ _ _ _ _ _ _ _ _ _ _ _ _ _ _ _ _ _ _ _ _ _ _ _ _ _ _ _ _ _ _ _ _ _ _ _ _ _ _ _ _ _ _ _ _ _ _ _ _ _ _ _ _ _ _ _ _ _ _ _ _ _ _ _ _ _ _ _ _ _ _ _ _ _ _ _ _ _ _ _ _ _ _ _ _ _ _ _ _ _ _ _ _ _ _ _ _ _ _ _ _ _ _ _ _ _ _ _ _ _ _ _ _ _ _ _ _ _ _ _ _ _ _ _ _ _ _ _ _ _ _ _ _ _ _ _ _ _ _ _ _ _ _ _ _ _ _ _ _ _ _ _ _ _ _ _ _ _ _ _ _ _ _ _ _ _ _ _ _ _ _ _ _ _ _ _ _ _ _ _ _ _ _ _ _ _ ?_
 rintro fS fT aW aX aY aZ ba be bf bg bh bi bj bp bq br bu bv bw bz bC bD bE bF bG bH w7 J
 have H7:Hid (LX w7 58 3 mkR6 (RS.flatMap xr6) rm∧LX w7 43 3 mkL6 (RS.flatMap xc6) cm∧LX w7 29 5 mkT6 (RS.map xt6) tm∧HX w7 24 ro rm rc (RS.flatMap xr6)∧HX w7 22 co cm cc (RS.flatMap xc6)∧HX w7 35 tbo tm tc (RS.map xt6)):=by
  obtain⟨b1,b2,b3,b4,b5,b6⟩:=H5.out
  obtain⟨k1,k2,k3⟩:=J.out
  exact⟨b1.far b3 (by decide) k3,b2.far b3 (by decide) k3,k1,b4.farX b3 (by decide) k3,b5.farX b3 (by decide) k3,k2⟩
 have T7:Hid (Tch (B3 RS) w0 w7):=T5.out.trans' (J.out.2.2.mono (fun _ _ h=>Or.inr (Or.inr h)))
 clear J H5 T5
 obtain⟨GR,rfl⟩:=H7.out.2.2.2.1.some9 HP0.out.1
 obtain⟨GC,rfl⟩:=H7.out.2.2.2.2.1.some9 HP0.out.2.1
 obtain⟨GT,rfl⟩:=H7.out.2.2.2.2.2.some9 HP0.out.2.2.1
 go_wp2_with fail
 refine owned9 w7 GR rm rc (RS.flatMap xr6) m1 HN1 ⟨rfl,GOx.start H7.out.1 H7.out.2.2.2.1 (by decide)⟩ _ _ _ _ _ _ _ _ _ _ _ _ _ _ _ _ _ _ _ _ _ _ _ _ _ _ _ _ _ _ _ _ _ _ _ _ _ _ _ _ _ _ _ _ _ _ _ _ _ _ _ _ _ _ _ _ _ _ _ _ _ _ _ _ _ _ _ _ _ _ _ _ _ _ _ _ _ _ _ _ _ _ _ _ _ _ _ _ _ _ _ _ _ _ _ _ _ _ _ _ _ _ _ _ _ _ _ _ _ _ _ _ _ _ _ _ _ _ _ _ _ _ _ _ _ _ _ _ _ _ _ _ _ _ _ _ _ _ _ _ _ _ _ _ _ _ _ _ _ _ _ _ _ _ _ _ _ _ _ _ _ _ _ _ _ _ _ _ _ _ _ _ _ _ _ _ _ _ _ _ _ _ _ _ _ _ _ _ _ _ _ _ _ _ _ _ _ _ _ _ _ _ _ _ _ _ _ _ _ _ _ _ _ _ _ _ _ _ _ _ _ _ _ _ _ _ _ _ _ _ _ _ _ _ _ _ _ _ _ _ _ _ _ _ _ _ _ _ _ _ _ _ _ _ _ _ _ _ _ _ _ _ _ _ _ _ _ _ _ _ _ _ _ _ _ _ _ _ _ _ _ _ _ _ _ _ _ _ _ _ _ _ _ _ _ _ _ _ _ _ _ _ _ _ _ _ _ _ _ _ _ _ _ _ _ _ _ _ _ _ _ ?_
 rintro fU fV fW fX bI bJ bK bL bM bN bO bP bQ bS bT bU bW bX bY bZ cd ce cf cg ch ci ck w9 ⟨LR,AR,ao,ac,rfl,J⟩
 have H9:Hid ((LR=AR.length∧LR≤20000000)∧LSb 24 w9 (Fo w7.heap.size (RS.flatMap xr6) rm) GR (fun j=>mkR6 (j / 20)) AR (.slice ao LR ac)∧LX w9 43 3 mkL6 (RS.flatMap xc6) cm∧LX w9 29 5 mkT6 (RS.map xt6) tm∧HX w9 22 (some ⟨GC,0,none⟩) cm cc (RS.flatMap xc6)∧HX w9 35 (some ⟨GT,0,none⟩) tm tc (RS.map xt6)):=by
  obtain⟨b1,b2,b3,b4,b5,b6⟩:=H7.out
  obtain⟨k1,k2⟩:=J.out
  have k3:Tch (Bx (RS.flatMap xr6)) w7 w9:=k2.t.mono (fun _ _ h=>Bo.bx h)
  have:=k2.len
  exact⟨⟨k1,by omega⟩,k2.ls,b2.far b1 (by decide) k3,b3.far b1 (by decide) k3,b5.farX b1 (by decide) k3,b6.farX b1 (by decide) k3⟩
 have T9:Hid (Tch (B3 RS) w0 w9):=T7.out.trans' (J.out.2.t.mono (fun _ _ h=>Or.inl (Bo.bx h)))
 clear J T7
 go_wp2_with fail
 refine owned11 w9 GC cm cc (RS.flatMap xc6) m2 HN2 ⟨rfl,GOx.start H9.out.2.2.1 H9.out.2.2.2.2.1 (by decide)⟩ _ _ _ _ _ _ _ _ _ _ _ _ _ _ _ _ _ _ _ _ _ _ _ _ _ _ _ _ _ _ _ _ _ _ _ _ _ _ _ _ _ _ _ _ _ _ _ _ _ _ _ _ _ _ _ _ _ _ _ _ _ _ _ _ _ _ _ _ _ _ _ _ _ _ _ _ _ _ _ _ _ _ _ _ _ _ _ _ _ _ _ _ _ _ _ _ _ _ _ _ _ _ _ _ _ _ _ _ _ _ _ _ _ _ _ _ _ _ _ _ _ _ _ _ _ _ _ _ _ _ _ _ _ _ _ _ _ _ _ _ _ _ _ _ _ _ _ _ _ _ _ _ _ _ _ _ _ _ _ _ _ _ _ _ _ _ _ _ _ _ _ _ _ _ _ _ _ _ _ _ _ _ _ _ _ _ _ _ _ _ _ _ _ _ _ _ _ _ _ _ _ _ _ _ _ _ _ _ _ _ _ _ _ _ _ _ _ _ _ _ _ _ _ _ _ _ _ _ _ _ _ _ _ _ _ _ _ _ _ _ _ _ _ _ _ _ _ _ _ _ _ _ _ _ _ _ _ _ _ _ _ _ _ _ _ _ _ _ _ _ _ _ _ _ _ _ _ _ _ _ _ _ _ _ _ _ _ _ _ _ _ _ _ _ _ _ _ _ _ _ _ _ _ _ _ _ _ _ _ _ _ _ _ _ _ _ _ _ _ _ _ ?_
 rintro fY fZ g7 g8 cn cq cr ct cw cy cz cA cB cC cE cF cG cH cI cJ cK cL cM cN cP cQ cR cT w11 ⟨LC,AC,bo,bc,rfl,J⟩
 have H11:Hid ((LC=AC.length∧LC≤20000000)∧LSb 24 w11 (Fo w7.heap.size (RS.flatMap xr6) rm) GR (fun j=>mkR6 (j / 20)) AR (.slice ao LR ac)∧LSb 22 w11 (Fo w9.heap.size (RS.flatMap xc6) cm) GC (fun j=>mkL6 (j / 20)) AC (.slice bo LC bc)∧LX w11 29 5 mkT6 (RS.map xt6) tm∧HX w11 35 (some ⟨GT,0,none⟩) tm tc (RS.map xt6)):=by
  obtain⟨_,c1,b2,b3,b5,b6⟩:=H9.out
  obtain⟨k1,k2⟩:=J.out
  have k3:Tch (Bx (RS.flatMap xc6)) w9 w11:=k2.t.mono (fun _ _ h=>Bo.bx h)
  have:=k2.len
  exact⟨⟨k1,by omega⟩,c1.farX H7.out.1 H7.out.2.1 (by decide) k3,k2.ls,b3.far b2 (by decide) k3,b6.farX b2 (by decide) k3⟩
 have T11:Hid (Tch (B3 RS) w0 w11):=T9.out.trans' (J.out.2.t.mono (fun _ _ h=>Or.inr (Or.inl (Bo.bx h))))
 clear J T9
 go_wp2_with fail
 refine owned13 w11 GT tm tc (RS.map xt6) m3 HN3 ⟨rfl,GOx.start H11.out.2.2.2.1 H11.out.2.2.2.2 (by decide)⟩ _ _ _ _ _ _ _ _ _ _ _ _ _ _ _ _ _ _ _ _ _ _ _ _ _ _ _ _ _ _ _ _ _ _ _ _ _ _ _ _ _ _ _ _ _ _ _ _ _ _ _ _ _ _ _ _ _ _ _ _ _ _ _ _ _ _ _ _ _ _ _ _ _ _ _ _ _ _ _ _ _ _ _ _ _ _ _ _ _ _ _ _ _ _ _ _ _ _ _ _ _ _ _ _ _ _ _ _ _ _ _ _ _ _ _ _ _ _ _ _ _ _ _ _ _ _ _ _ _ _ _ _ _ _ _ _ _ _ _ _ _ _ _ _ _ _ _ _ _ _ _ _ _ _ _ _ _ _ _ _ _ _ _ _ _ _ _ _ _ _ _ _ _ _ _ _ _ _ _ _ _ _ _ _ _ _ _ _ _ _ _ _ _ _ _ _ _ _ _ _ _ _ _ _ _ _ _ _ _ _ _ _ _ _ _ _ _ _ _ _ _ _ _ _ _ _ _ _ _ _ _ _ _ _ _ _ _ _ _ _ _ _ _ _ _ _ _ _ _ _ _ _ _ _ _ _ _ _ _ _ _ _ _ _ _ _ _ _ _ _ _ _ _ _ _ _ _ _ _ _ _ _ _ _ _ _ _ _ _ _ _ _ _ _ _ _ _ _ _ _ _ _ _ _ _ _ _ _ _ _ _ _ _ _ _ _ _ _ _ _ _ ?_
 rintro g9 gc gd gf cU cV cW cX cY cZ d8 d9 da de df dh di dj dk dl dm dn dp dq dr dt du dv w13 ⟨LT,AT,do',dc,rfl,J⟩
 have H13:Hid ((LT=AT.length∧LT≤20000000)∧LSb 24 w13 (Fo w7.heap.size (RS.flatMap xr6) rm) GR (fun j=>mkR6 (j / 20)) AR (.slice ao LR ac)∧LSb 22 w13 (Fo w9.heap.size (RS.flatMap xc6) cm) GC (fun j=>mkL6 (j / 20)) AC (.slice bo LC bc)∧LSb 35 w13 (Fo w11.heap.size (RS.map xt6) tm) GT (fun j=>mkT6 (j / 20)) AT (.slice do' LT dc)):=by
  obtain⟨_,c1,c2,b3,b6⟩:=H11.out
  obtain⟨k1,k2⟩:=J.out
  have k3:Tch (Bx (RS.map xt6)) w11 w13:=k2.t.mono (fun _ _ h=>Bo.bx h)
  have:=k2.len
  exact⟨⟨k1,by omega⟩,c1.farX H7.out.1 H7.out.2.2.1 (by decide) k3,c2.farX H9.out.2.2.1 H9.out.2.2.2.1 (by decide) k3,k2.ls⟩
 have q1:LR≤1000000000:=by have:=H9.out.1.2;omega
 have q2:LC≤1000000000:=by have:=H11.out.1.2;omega
 have q3:LT≤1000000000:=by have:=H13.out.1.2;omega
 have r1:Hid _:=H13.out.2.1.last H9.out.1.1 3 (fun _=>rfl)
 have r2:Hid _:=H13.out.2.2.1.last H11.out.1.1 3 (fun _=>rfl)
 have r3:Hid _:=H13.out.2.2.2.last H13.out.1.1 5 (fun _=>rfl)
 have T13:Hid (Tch (B3 RS) w0 w13):=T11.out.trans' (J.out.2.t.mono (fun _ _ h=>Or.inr (Or.inr (Bo.bx h))))
 clear J H7 H9 H11 H13 HN1 HN2 HN3 HP0 HM T11
 go_wp2_with fail
 refine owned15 w13 LR ac ao q1 r1 _ _ _ _ _ _ _ _ _ _ _ _ _ _ _ _ _ _ _ _ _ _ _ _ _ _ _ _ _ _ _ _ _ _ _ _ _ _ _ _ _ _ _ _ _ _ _ _ _ _ _ _ _ _ _ _ _ _ _ _ _ _ _ _ _ _ _ _ _ _ _ _ _ _ _ _ _ _ _ _ _ _ _ _ _ _ _ _ _ _ _ _ _ _ _ _ _ _ _ _ _ _ _ _ _ _ _ _ _ _ _ _ _ _ _ _ _ _ _ _ _ _ _ _ _ _ _ _ _ _ _ _ _ _ _ _ _ _ _ _ _ _ _ _ _ _ _ _ _ _ _ _ _ _ _ _ _ _ _ _ _ _ _ _ _ _ _ _ _ _ _ _ _ _ _ _ _ _ _ _ _ _ _ _ _ _ _ _ _ _ _ _ _ _ _ _ _ _ _ _ _ _ _ _ _ _ _ _ _ _ _ _ _ _ _ _ _ _ _ _ _ _ _ _ _ _ _ _ _ _ _ _ _ _ _ _ _ _ _ _ _ _ _ _ _ _ _ _ _ _ _ _ _ _ _ _ _ _ _ _ _ _ _ _ _ _ _ _ _ _ _ _ _ _ _ _ _ _ _ _ _ _ _ _ _ _ _ _ _ _ _ _ _ _ _ _ _ _ _ _ _ _ _ _ _ _ _ _ _ _ _ _ _ _ _ _ _ _ _ _ _ _ ?_
 rintro v2 gh gi dw dx dy dz dA dB dD dE dF dG dH dI dJ dK dL dM dN dO dP dQ dR dS dT dU dV dX dY dZ ed ee ef eh ei ej em es eu wx rfl
 go_wp2_with fail
 refine owned17 wx LC bc bo q2 r2 _ _ _ _ _ _ _ _ _ _ _ _ _ _ _ _ _ _ _ _ _ _ _ _ _ _ _ _ _ _ _ _ _ _ _ _ _ _ _ _ _ _ _ _ _ _ _ _ _ _ _ _ _ _ _ _ _ _ _ _ _ _ _ _ _ _ _ _ _ _ _ _ _ _ _ _ _ _ _ _ _ _ _ _ _ _ _ _ _ _ _ _ _ _ _ _ _ _ _ _ _ _ _ _ _ _ _ _ _ _ _ _ _ _ _ _ _ _ _ _ _ _ _ _ _ _ _ _ _ _ _ _ _ _ _ _ _ _ _ _ _ _ _ _ _ _ _ _ _ _ _ _ _ _ _ _ _ _ _ _ _ _ _ _ _ _ _ _ _ _ _ _ _ _ _ _ _ _ _ _ _ _ _ _ _ _ _ _ _ _ _ _ _ _ _ _ _ _ _ _ _ _ _ _ _ _ _ _ _ _ _ _ _ _ _ _ _ _ _ _ _ _ _ _ _ _ _ _ _ _ _ _ _ _ _ _ _ _ _ _ _ _ _ _ _ _ _ _ _ _ _ _ _ _ _ _ _ _ _ _ _ _ _ _ _ _ _ _ _ _ _ _ _ _ _ _ _ _ _ _ _ _ _ _ _ _ _ _ _ _ _ _ _ _ _ _ _ _ _ _ _ _ _ _ _ _ _ _ _ _ _ _ _ _ _ _ _ _ _ _ _ _ ?_
 rintro z2 gj gk ex ey ez eA eB eD eE eF eH eI eJ eK eL eN eO eQ eR eS eT eU eV eW eX eY eZ fd fe wy rfl
 go_wp2_with fail
 refine owned19 wy LT dc do' q3 r3 _ _ _ _ _ _ _ _ _ _ _ _ _ _ _ _ _ _ _ _ _ _ _ _ _ _ _ _ _ _ _ _ _ _ _ _ _ _ _ _ _ _ _ _ _ _ _ _ _ _ _ _ _ _ _ _ _ _ _ _ _ _ _ _ _ _ _ _ _ _ _ _ _ _ _ _ _ _ _ _ _ _ _ _ _ _ _ _ _ _ _ _ _ _ _ _ _ _ _ _ _ _ _ _ _ _ _ _ _ _ _ _ _ _ _ _ _ _ _ _ _ _ _ _ _ _ _ _ _ _ _ _ _ _ _ _ _ _ _ _ _ _ _ _ _ _ _ _ _ _ _ _ _ _ _ _ _ _ _ _ _ _ _ _ _ _ _ _ _ _ _ _ _ _ _ _ _ _ _ _ _ _ _ _ _ _ _ _ _ _ _ _ _ _ _ _ _ _ _ _ _ _ _ _ _ _ _ _ _ _ _ _ _ _ _ _ _ _ _ _ _ _ _ _ _ _ _ _ _ _ _ _ _ _ _ _ _ _ _ _ _ _ _ _ _ _ _ _ _ _ _ _ _ _ _ _ _ _ _ _ _ _ _ _ _ _ _ _ _ _ _ _ _ _ _ _ _ _ _ _ _ _ _ _ _ _ _ _ _ _ _ _ _ _ _ _ _ _ _ _ _ _ _ _ _ _ _ _ _ _ _ _ _ _ _ _ _ _ _ _ _ _ ?_
 rintro y2 gm gq ff fg fh fi fj fk fq fs fv fy fz fA fB fC fD fE fF fG fH fI fJ fK fL fM fN fO fP wz rfl
 go_wp2_with fail
 go_ret
 exact⟨rfl,T13.out⟩
theorem RL.cells {W:World} {b:Nat} {lo:Option Addr} {m lc:Nat} {AS:List ByteArray} {RS:List (Rc×Sk)} (h:RL W b lo m lc AS RS) (hm:0<m): ∃g,lo=some ⟨g,0,none⟩∧g<W.heap.size∧ ∀(i:Nat) (p:Rc×Sk),RS[i]? =some p→ ∀(j:Nat) (u:Value),j<14→(rcs9 p)[j]? =some u→W.cell? ⟨g,i*14+j,none⟩=some u:=by
 obtain⟨g,e,hg,ha⟩:=own_at h.own hm
 refine⟨g,e,hg,fun i p hp j u hj hu=>?_⟩
 obtain⟨hi,ep⟩:=List.getElem?_eq_some_iff.1 hp
 have:=ha (i*14+j) u (by rw[rcl9_get RS i j hi hj,ep];exact hu)
 rwa [Nat.zero_add] at this
theorem RL.z {W:World} {b:Nat} {lo:Option Addr} {m lc:Nat} {AS:List ByteArray} {RS:List (Rc×Sk)} (h:RL W b lo m lc AS RS): ∀p∈RS,Z6 p.1∧p.2.P.map Prod.fst=p.1.tbs:=fun p hp=>by
 obtain⟨i,hi,rfl⟩:=List.getElem_of_mem hp
 obtain⟨S,e,_,hd⟩:=h.rd i _ (List.getElem?_eq_getElem hi)
 exact⟨hd.z,(h.rn i _ (List.getElem?_eq_getElem hi)).eq⟩
theorem pz6 {p:Rc×Sk} (h:Z6 p.1∧p.2.P.map Prod.fst=p.1.tbs):p.2.P.length≤16∧ ∀q∈p.2.P,q.1.cols.length≤8:=by
 refine⟨?_,fun q hq=>h.1.p q.1 ?_⟩
 ·have:=congrArg List.length h.2
  rw[List.length_map] at this
  have:=h.1.t
  omega
 ·rw[←h.2];exact List.mem_map_of_mem hq
theorem RL.owned {W:World} {b:Nat} {lo:Option Addr} {m lc:Nat} {AS:List ByteArray} {RS:List (Rc×Sk)} (h:RL W b lo m lc AS RS) (hm0:0<m) (hm:m≤1000):Calls Tryz.prog 23 #[.slice lo m lc] W fun x w'=>x= .returned (.bool true)∧Tch (B3 RS) W w':=by
 obtain⟨g,rfl,hg,hc⟩:=h.cells hm0
 refine owned_t W g m lc RS hm h.len ⟨hg,fun i p hp=>?_⟩ (fun i p hp=>?_) hm0 ⟨h.q.r,h.q.c,h.q.t⟩ ⟨fun x hx=>?_,fun x hx=>?_,fun x hx=>?_⟩
 ·exact⟨_,_,_,_,_,_,_,_,_,_,_,_,rfl,rfl,rfl,hc i p hp 4 _ (by omega) rfl,hc i p hp 5 _ (by omega) rfl,hc i p hp 11 _ (by omega) rfl,hc i p hp 13 _ (by omega) rfl⟩
 ·obtain⟨hi,ep⟩:=List.getElem?_eq_some_iff.1 hp
  have hz:=pz6 (h.z p (by rw[←ep];exact List.getElem_mem hi))
  refine⟨hz.1,fun j q hq=>?_⟩
  obtain⟨hj,eq⟩:=List.getElem?_eq_some_iff.1 hq
  have hn:=(h.rn i p hp).tbs
  obtain⟨G,e,hG,ha⟩:=own_at hn.own (by omega)
  obtain⟨ko,kc,ev⟩:=row_slice (hn.col j hj)
  rw[eq] at ev
  refine⟨G,ko,kc,e,hG,ev,?_⟩
  have:=ha (j*5+3) q.2 (by rw[tcl_get p.2.P j 3 hj (by omega),eq];rfl)
  rw[Nat.zero_add,ev] at this
  exact this
 ·obtain⟨p,hp,hx⟩:=List.mem_flatMap.1 hx
  have hz:=(h.z p hp).1
  have h1:=hz.o
  have h2:=hz.n
  simp only[xr6,List.mem_cons,List.not_mem_nil,or_false] at hx
  rcases hx with rfl|rfl
  ·show p.1.o.length≤1000000;omega
  ·show p.1.n.length≤1000000;omega
 ·obtain⟨p,hp,hx⟩:=List.mem_flatMap.1 hx
  have hz:=(h.z p hp).1
  have h1:=hz.c
  simp only[xc6,List.mem_cons] at hx
  rcases hx with rfl|hx
  ·show p.1.tb.cols.length≤1000000;omega
  ·obtain⟨q,hq,rfl⟩:=List.mem_map.1 hx
   have:=(pz6 (h.z p hp)).2 q hq
   show q.1.cols.length≤1000000;omega
 ·obtain⟨p,hp,rfl⟩:=List.mem_map.1 hx
  have:=(pz6 (h.z p hp)).1
  show p.2.P.length≤1000000;omega
theorem RL.rw {W:World} {b:Nat} {lo:Option Addr} {m lc:Nat} {AS:List ByteArray} {RS:List (Rc×Sk)} (h:RL W b lo m lc AS RS) {i:Nat} {p:Rc×Sk} (hp:RS[i]? =some p):RW W (fun _=>False) p.1 p.2:=by
 obtain⟨S,e,_,hd⟩:=h.rd i p hp
 exact((h.rn i p hp).rw hd.i.1 hd.i.2).weak (fun _ h=>h.elim)
theorem RL.ge {W:World} {b:Nat} {lo:Option Addr} {m lc:Nat} {AS:List ByteArray} {RS:List (Rc×Sk)} (h:RL W b lo m lc AS RS) {g:Nat} (hg:B3 RS g):b≤g:=by
 have key: ∀p∈RS,RN W b p.1 p.2:=fun p hp=>by
  obtain⟨i,hi,rfl⟩:=List.getElem_of_mem hp
  exact h.rn i _ (List.getElem?_eq_getElem hi)
 rcases hg with⟨i,x,hx,hg⟩|⟨i,x,hx,hg⟩|⟨i,x,hx,hg⟩
 ·obtain⟨p,hp,hx⟩:=List.mem_flatMap.1 (List.mem_of_getElem? hx)
  simp only[xr6,List.mem_cons,List.not_mem_nil,or_false] at hx
  rcases hx with rfl|rfl
  ·exact row_ge (key p hp).o hg
  ·exact row_ge (key p hp).n hg
 ·obtain⟨p,hp,hx⟩:=List.mem_flatMap.1 (List.mem_of_getElem? hx)
  simp only[xc6,List.mem_cons] at hx
  rcases hx with rfl|hx
  ·exact row_ge (key p hp).tb hg
  ·obtain⟨q,hq,rfl⟩:=List.mem_map.1 hx
   obtain⟨j,hj,rfl⟩:=List.getElem_of_mem hq
   exact row_ge ((key p hp).tbs.col j hj) hg
 ·obtain⟨p,hp,rfl⟩:=List.mem_map.1 (List.mem_of_getElem? hx)
  exact row_ge (key p hp).tbs.own hg
theorem dec2 (wM:World) (S O:ByteArray) (Ab b:Nat) (lo:Option Addr) (lc:Nat) (RS:List (Rc×Sk)) (HA:Hid (Ab<wM.heap.size∧ ∀(i:Nat) (T:ByteArray),[S,S,O,S][i]? =some T→wM.cell? ⟨Ab,i,none⟩=some (.string T))) (HZ:Hid (∀T∈[S,S,O,S],T.size≤140737488351232))
  (HL:Hid (RL wM b lo 4 lc [S,S,O,S] RS)) (Q0:Exit→Act→World→Prop)
  (u0 u1 u2 u3 u4 u5 u8 u9 aa ab ae af ah ai aj al am aq au av aw ax ay az aA aB aC aD aF aG aH aI aJ aK aL aM aN aO aP aQ aR aS aT aU aV aW aX aY aZ ba be bf bg bh bi bj bp bq br bu bv bw bz bC bD bE bF bG bH bI bJ bK bL bM bN bO bP bQ bS bT bU bW bX bY:Value)
  (Hexit:Hid (∀(v4 bZ cd ce cf cg ch ci ck cn cq cr ct cw cy cz cA cB cC cE cF cG cH cI cJ cK cL:Value) (wx:World),Hid (Tch (fun _=>False) wM wx)→Q0 (.exit 2) ⟨List.toArray (u0::u1::u2::u3::(v4)::u5::(.slice (some ⟨Ab,0,none⟩) 4 4)::(.slice lo 4 lc)::u8::u9::aa::ab::ae::af::(bZ)::(cd)::(ce)::(cf)::al::am::aq::au::av::aw::ax::ay::az::aA::aB::aC::aD::aF::aG::aH::aI::aJ::aK::aL::aM::aN::aO::aP::aQ::aR::aS::aT::aU::aV::aW::aX::aY::aZ::ba::be::bf::bg::bh::bi::bj::bp::(cg)::(ch)::(ci)::(ck)::(cn)::(cq)::(cr)::(ct)::(cw)::(cy)::(cz)::(cA)::(cB)::(cC)::(cE)::(cF)::(cG)::(cH)::(cI)::(cJ)::(cK)::(cL)::bT::bU::bW::bX::bY::[]),[]⟩ wx)):
  Code.wp Tryz.prog (Code.loop (ldB 1)) Q0 ⟨List.toArray (u0::u1::u2::u3::u4::u5::(.slice (some ⟨Ab,0,none⟩) 4 4)::(.slice lo 4 lc)::u8::u9::aa::ab::ae::af::(.int .i64 0)::ah::ai::aj::al::am::aq::au::av::aw::ax::ay::az::aA::aB::aC::aD::aF::aG::aH::aI::aJ::aK::aL::aM::aN::aO::aP::aQ::aR::aS::aT::aU::aV::aW::aX::aY::aZ::ba::be::bf::bg::bh::bi::bj::bp::bq::br::bu::bv::bw::bz::bC::bD::bE::bF::bG::bH::bI::bJ::bK::bL::bM::bN::bO::bP::bQ::bS::bT::bU::bW::bX::bY::[]),[]⟩ wM:=by
 conv=>arg 2;arg 1;whnf
 go_loopg [14] 4 (fun kx s14 wx=> ∃(i:Nat),s14= .int .i64 i∧4 - i≤kx∧i≤4∧Hid (Tch (fun _=>False) wM wx))
 case atStart=>exact⟨0,rfl,by omega,by omega,Tch.refl _ _⟩
 case round=>
  rename World=>wx
  obtain⟨i,rfl,hkx,him,J⟩:=hrel
  by_cases hi:i<4
  ·have hi':(i:Int)<4:=by omega
   obtain⟨p,hp⟩: ∃p,RS[i]? =some p:=⟨_,List.getElem?_eq_getElem (by have:=HL.out.len;omega)⟩
   obtain⟨r,s⟩:=p
   obtain⟨T,e0,hT,hd0⟩:=HL.out.rd i _ hp
   obtain⟨g,elo,hg,hcl⟩:=HL.out.cells (by omega)
   have HC:Hid (∀W,Tch (fun _=>False) wM W→W.cell? ⟨Ab,i,none⟩=some (.string T)):=fun W t=>(t.cell (p:=⟨Ab,i,none⟩) HA.out.1 (fun e=>e)).trans (HA.out.2 i T hT)
   have HK:Hid (∀W,Tch (fun _=>False) wM W→ ∀(j:Nat) (u:Value),j<14→(rcs9 (r,s))[j]? =some u→W.cell? ⟨g,i*14+j,none⟩=some u):=fun W t j u hj hu=>(t.cell (p:=⟨g,i*14+j,none⟩) hg (fun e=>e)).trans (hcl i _ hp j u hj hu)
   have HR:Hid (RW wM (fun _=>False) r s∧Rd T r e0):=⟨HL.out.rw hp,hd0⟩
   have c0:=HC.out wx J.out
   have q1:=ddecode_r T wx (HZ.out T (List.mem_of_getElem? hT))
   clear hp hT hd0 hcl hg
   subst elo
   go_wp2_with fail
   refine q1.mono ?_
   rintro x w1 ⟨r',s1,e,rfl,hd,hw,t1⟩
   obtain⟨h1,h2⟩:=HR.out.2.uniq hd
   subst h1 h2
   clear q1 c0
   obtain⟨w2,hw2⟩: ∃w2,w2=w1.alloc (.cells #[.int .i64 r.k,.int .i64 r.x,.int .i64 r.p,.int .i64 r.t,.slice s1.oo r.o.length s1.oc,.slice s1.no r.n.length s1.nc,.string r.nm,.int .i64 r.org,.int .i64 r.tb.id,.int .i64 r.tb.ver,.string r.tb.nm,.slice s1.co r.tb.cols.length s1.cc,.int .i64 r.tb.key,.slice s1.to s1.P.length s1.tc] 37):=⟨_,rfl⟩
   obtain⟨B1,hB1⟩: ∃B1,B1=w1.heap.size:=⟨_,rfl⟩
   have t2:Tch (fun _=>False) w1 w2:=by rw[hw2];exact Tch.alloc _ _ _
   have b2:w2.heap[B1]? =some (.cells #[.int .i64 r.k,.int .i64 r.x,.int .i64 r.p,.int .i64 r.t,.slice s1.oo r.o.length s1.oc,.slice s1.no r.n.length s1.nc,.string r.nm,.int .i64 r.org,.int .i64 r.tb.id,.int .i64 r.tb.ver,.string r.tb.nm,.slice s1.co r.tb.cols.length s1.cc,.int .i64 r.tb.key,.slice s1.to s1.P.length s1.tc] 37 (0,0)):=by rw[hw2,hB1];exact heap_new w1 _
   have H2:Hid (RW w2 (fun _=>False) r s1∧Tch (fun _=>False) wM w2∧w2.heap[B1]? =some (.cells #[.int .i64 r.k,.int .i64 r.x,.int .i64 r.p,.int .i64 r.t,.slice s1.oo r.o.length s1.oc,.slice s1.no r.n.length s1.nc,.string r.nm,.int .i64 r.org,.int .i64 r.tb.id,.int .i64 r.tb.ver,.string r.tb.nm,.slice s1.co r.tb.cols.length s1.cc,.int .i64 r.tb.key,.slice s1.to s1.P.length s1.tc] 37 (0,0))):=⟨hw.no t2,(J.out.trans' t1).trans' t2,b2⟩
   have HW2:Hid (w2=w1.alloc (.cells #[.int .i64 r.k,.int .i64 r.x,.int .i64 r.p,.int .i64 r.t,.slice s1.oo r.o.length s1.oc,.slice s1.no r.n.length s1.nc,.string r.nm,.int .i64 r.org,.int .i64 r.tb.id,.int .i64 r.tb.ver,.string r.tb.nm,.slice s1.co r.tb.cols.length s1.cc,.int .i64 r.tb.key,.slice s1.to s1.P.length s1.tc] 37)):=hw2
   have HB1:Hid (B1=w1.heap.size):=hB1
   clear hd hw t1 t2 b2 hw2 hB1
   go_upto_region 17 with fail
   rw[←HW2.out, ←HB1.out]
   clear HW2 HB1 HC
   have z:=HR.out.2.z
   have cS: ∀d os,Calls Tryz.prog 15 #[rV r s,rV r s1] (grow (redrawn w2 d) os) fun e w''=>e= .returned (.bool true)∧ ∃p:Regrown,w''=grow (redrawn w2 p.d) p.os:=regrown_calls (fun W t=>lsameG r s s1 _ _ W (HR.out.1.no (H2.out.2.1.trans' t)) (H2.out.1.no t) (by have:=z.c;omega) (by have:=z.t;omega) (fun t ht=>by have:=z.p t ht;omega))
   obtain⟨y0,y1,y2,y3,y4,y5,y6,y7,y8,y9,y10,y11,y12,y13⟩:=cells9 H2.out.2.2
   have c0:w2.cell? ⟨g,i*14,none⟩=some (.int .i64 r.k):=HK.out w2 H2.out.2.1 0 _ (by omega) rfl
   have c1:w2.cell? ⟨g,i*14+1,none⟩=some (.int .i64 r.x):=HK.out w2 H2.out.2.1 1 _ (by omega) rfl
   have c2:w2.cell? ⟨g,i*14+2,none⟩=some (.int .i64 r.p):=HK.out w2 H2.out.2.1 2 _ (by omega) rfl
   have c3:w2.cell? ⟨g,i*14+3,none⟩=some (.int .i64 r.t):=HK.out w2 H2.out.2.1 3 _ (by omega) rfl
   have c4:w2.cell? ⟨g,i*14+4,none⟩=some (.slice s.oo r.o.length s.oc):=HK.out w2 H2.out.2.1 4 _ (by omega) rfl
   have c5:w2.cell? ⟨g,i*14+5,none⟩=some (.slice s.no r.n.length s.nc):=HK.out w2 H2.out.2.1 5 _ (by omega) rfl
   have c6:w2.cell? ⟨g,i*14+6,none⟩=some (.string r.nm):=HK.out w2 H2.out.2.1 6 _ (by omega) rfl
   have c7:w2.cell? ⟨g,i*14+7,none⟩=some (.int .i64 r.org):=HK.out w2 H2.out.2.1 7 _ (by omega) rfl
   have c8:w2.cell? ⟨g,i*14+8,none⟩=some (.int .i64 r.tb.id):=HK.out w2 H2.out.2.1 8 _ (by omega) rfl
   have c9:w2.cell? ⟨g,i*14+9,none⟩=some (.int .i64 r.tb.ver):=HK.out w2 H2.out.2.1 9 _ (by omega) rfl
   have c10:w2.cell? ⟨g,i*14+10,none⟩=some (.string r.tb.nm):=HK.out w2 H2.out.2.1 10 _ (by omega) rfl
   have c11:w2.cell? ⟨g,i*14+11,none⟩=some (.slice s.co r.tb.cols.length s.cc):=HK.out w2 H2.out.2.1 11 _ (by omega) rfl
   have c12:w2.cell? ⟨g,i*14+12,none⟩=some (.int .i64 r.tb.key):=HK.out w2 H2.out.2.1 12 _ (by omega) rfl
   have c13:w2.cell? ⟨g,i*14+13,none⟩=some (.slice s.to s.P.length s.tc):=HK.out w2 H2.out.2.1 13 _ (by omega) rfl
   have k0:=cell_regrown y0
   have l0:=cell_regrown c0
   have k1:=cell_regrown y1
   have l1:=cell_regrown c1
   have k2:=cell_regrown y2
   have l2:=cell_regrown c2
   have k3:=cell_regrown y3
   have l3:=cell_regrown c3
   have k4:=cell_regrown y4
   have l4:=cell_regrown c4
   have k5:=cell_regrown y5
   have l5:=cell_regrown c5
   have k6:=cell_regrown y6
   have l6:=cell_regrown c6
   have k7:=cell_regrown y7
   have l7:=cell_regrown c7
   have k8:=cell_regrown y8
   have l8:=cell_regrown c8
   have k9:=cell_regrown y9
   have l9:=cell_regrown c9
   have k10:=cell_regrown y10
   have l10:=cell_regrown c10
   have k11:=cell_regrown y11
   have l11:=cell_regrown c11
   have k12:=cell_regrown y12
   have l12:=cell_regrown c12
   have k13:=cell_regrown y13
   have l13:=cell_regrown c13
   have HT2:Hid (Tch (fun _=>False) wM w2):=H2.out.2.1
   clear z HK HR H2
   refine wp_region_quiet_below (by kernel_rfl) (by kernel_rfl) ?_
   repeat (quiet_step ((go_at_call 15;exact cS _ _)))
   refine wpQuiet_nil ?_
   rintro w4 ⟨p',rfl⟩
   have HT4:Hid (Tch (fun _=>False) wM (grow (redrawn w2 p'.d) p'.os)):=HT2.out.trans' (Tch.regrown w2 p'.d p'.os)
   obtain⟨W4,hW4⟩: ∃W4,W4=grow (redrawn w2 p'.d) p'.os:=⟨_,rfl⟩
   rw[←hW4] at HT4 ⊢
   clear hW4 y0 y1 y2 y3 y4 y5 y6 y7 y8 y9 y10 y11 y12 y13 c0 c1 c2 c3 c4 c5 c6 c7 c8 c9 c10 c11 c12 c13 k0 k1 k2 k3 k4 k5 k6 k7 k8 k9 k10 k11 k12 k13 l0 l1 l2 l3 l4 l5 l6 l7 l8 l9 l10 l11 l12 l13 cS HT2
   go_wp2_with fail
   go_roundg (4 - (i+1))
   case measure=>omega
   case rel=>exact⟨i+1,by first|rfl|(congr 1;omega),by omega,by omega,HT4⟩
  ·have hi': ¬(i:Int)<4:=by omega
   have e1:i=4:=by omega
   subst e1
   go_wp2_with fail
   exact Hexit.out _ _ _ _ _ _ _ _ _ _ _ _ _ _ _ _ _ _ _ _ _ _ _ _ _ _ _ _ J
end Go.Proofs.YtaiadknglhemaaaGreatDoor.C
