import Derived.Test.YtaiadknglhemaaaGreatDoorOX4
import Derived.Deep.LoopGhost
import Derived.Deep.DeepCutAuto
import Derived.Deep.CutRange
import Derived.Test.YtaiadknglhemaaaGreatDoorDX0
set_option maxHeartbeats 8000000
set_option maxRecDepth 1000000
namespace Go.Proofs.YtaiadknglhemaaaGreatDoor.C
open Go.RowKit Go Go.Sort
noncomputable def ldB (k:Nat):Code:=(Tryz.f5.body.elim [] oloops).getD k .skip
theorem cells9 {W:World} {B:Nat} {r:Rc} {s:Sk} (h:W.heap[B]? =some (.cells #[.int .i64 r.k,.int .i64 r.x,.int .i64 r.p,.int .i64 r.t,.slice s.oo r.o.length s.oc,.slice s.no r.n.length s.nc,.string r.nm,.int .i64 r.org,.int .i64 r.tb.id,.int .i64 r.tb.ver,.string r.tb.nm,.slice s.co r.tb.cols.length s.cc,.int .i64 r.tb.key,.slice s.to s.P.length s.tc] 37 (0,0))):W.cell? ⟨B,0,none⟩=some (.int .i64 r.k)∧W.cell? ⟨B,1,none⟩=some (.int .i64 r.x)∧W.cell? ⟨B,2,none⟩=some (.int .i64 r.p)∧W.cell? ⟨B,3,none⟩=some (.int .i64 r.t)∧W.cell? ⟨B,4,none⟩=some (.slice s.oo r.o.length s.oc)∧W.cell? ⟨B,5,none⟩=some (.slice s.no r.n.length s.nc)∧W.cell? ⟨B,6,none⟩=some (.string r.nm)∧W.cell? ⟨B,7,none⟩=some (.int .i64 r.org)∧W.cell? ⟨B,8,none⟩=some (.int .i64 r.tb.id)∧W.cell? ⟨B,9,none⟩=some (.int .i64 r.tb.ver)∧W.cell? ⟨B,10,none⟩=some (.string r.tb.nm)∧W.cell? ⟨B,11,none⟩=some (.slice s.co r.tb.cols.length s.cc)∧W.cell? ⟨B,12,none⟩=some (.int .i64 r.tb.key)∧W.cell? ⟨B,13,none⟩=some (.slice s.to s.P.length s.tc):=
 ⟨blk_cell h 0,blk_cell h 1,blk_cell h 2,blk_cell h 3,blk_cell h 4,blk_cell h 5,blk_cell h 6,blk_cell h 7,blk_cell h 8,blk_cell h 9,blk_cell h 10,blk_cell h 11,blk_cell h 12,blk_cell h 13⟩
theorem dec1 (wL:World) (S O:ByteArray) (Ab:Nat) (HA:Hid (Ab<wL.heap.size∧ ∀(i:Nat) (T:ByteArray),[S,S,O,S][i]? =some T→wL.cell? ⟨Ab,i,none⟩=some (.string T))) (HZ:Hid (∀T∈[S,S,O,S],T.size≤140737488351232))
  (HG:Hid (∀W,Tch (fun _=>False) wL W→HE W)) (Q0:Exit→Act→World→Prop)
  (u0 u1 u2 u3 u4 u5 u9 aa ab ae af ah ai aj al am aq au av aw ax ay az aA aB aC aD aF aG aH aI aJ aK aL aM aN aO aP aQ aR aS aT aU aV aW aX aY aZ ba be bf bg bh bi bj bp bq br bu bv bw bz bC bD bE bF bG bH bI bJ bK bL bM bN bO bP bQ bS bT bU bW bX bY bZ:Value)
  (Hexit:Hid (∀(v4 v7 v8 v9 cd ce cf cg ch ci ck cn cq cr ct cw cy cz cA cB cC cE cF cG cH cI cJ cK cL cM cN cP cQ cR cT cU cV cW cX cY cZ d8 d9 da:Value) (wx:World),(∃(lo:Option Addr) (lc:Nat),v7= .slice lo 4 lc∧Hid (∃RS,RL wx wL.heap.size lo 4 lc [S,S,O,S] RS∧Tch (fun _=>False) wL wx))→Q0 (.exit 0) ⟨List.toArray (u0::u1::u2::u3::(v4)::u5::(.slice (some ⟨Ab,0,none⟩) 4 4)::(v7)::(v8)::(v9)::(cd)::(ce)::(cf)::(cg)::ah::ai::aj::al::am::aq::au::av::aw::ax::(ch)::(ci)::(ck)::(cn)::(cq)::(cr)::(ct)::(cw)::(cy)::(cz)::(cA)::(cB)::(cC)::(cE)::(cF)::(cG)::(cH)::(cI)::(cJ)::(cK)::(cL)::(cM)::(cN)::(cP)::(cQ)::(cR)::(cT)::(cU)::(cV)::(cW)::(cX)::(cY)::(cZ)::(d8)::(d9)::(da)::br::bu::bv::bw::bz::bC::bD::bE::bF::bG::bH::bI::bJ::bK::bL::bM::bN::bO::bP::bQ::bS::bT::bU::bW::bX::bY::bZ::[]),[]⟩ wx)):
  Code.wp Tryz.prog (Code.loop (ldB 0)) Q0 ⟨List.toArray (u0::u1::u2::u3::u4::u5::(.slice (some ⟨Ab,0,none⟩) 4 4)::(.slice none 0 0)::(.int .i64 0)::u9::aa::ab::ae::af::ah::ai::aj::al::am::aq::au::av::aw::ax::ay::az::aA::aB::aC::aD::aF::aG::aH::aI::aJ::aK::aL::aM::aN::aO::aP::aQ::aR::aS::aT::aU::aV::aW::aX::aY::aZ::ba::be::bf::bg::bh::bi::bj::bp::bq::br::bu::bv::bw::bz::bC::bD::bE::bF::bG::bH::bI::bJ::bK::bL::bM::bN::bO::bP::bQ::bS::bT::bU::bW::bX::bY::bZ::[]),[]⟩ wL:=by
 conv=>arg 2;arg 1;whnf
 go_loopg [7,8] 4 (fun kx s7 s8 wx=> ∃(i:Nat) (lo:Option Addr) (lc:Nat),s7= .slice lo i lc∧s8= .int .i64 i∧4 - i≤kx∧i≤4∧Hid (∃RS,RL wx wL.heap.size lo i lc [S,S,O,S] RS∧Tch (fun _=>False) wL wx))
 case atStart=>exact⟨0,none,0,rfl,rfl,by omega,by omega,⟨[],RL.nil _ _ _,Tch.refl _ _⟩⟩
 case round=>
  rename World=>wx
  obtain⟨i,lo,lc,rfl,rfl,hkx,him,J⟩:=hrel
  by_cases hi:i<4
  ·have hi':(i:Int)<4:=by omega
   obtain⟨T,hT⟩: ∃T,[S,S,O,S][i]? =some T:=⟨_,List.getElem?_eq_getElem (by simpa using hi)⟩
   obtain⟨RS,hR,ht⟩:=J.out
   have HC:Hid (∀W,Tch (fun _=>False) wx W→W.cell? ⟨Ab,i,none⟩=some (.string T)):=fun W t=>((ht.trans' t).cell (p:=⟨Ab,i,none⟩) HA.out.1 (fun e=>e)).trans (HA.out.2 i T hT)
   have c0:=HC.out wx (Tch.refl _ _)
   have hz:=HZ.out T (List.mem_of_getElem? hT)
   have q1:=ddecode_r T wx hz
   have HJ:Hid (RL wx wL.heap.size lo i lc [S,S,O,S] RS∧Tch (fun _=>False) wL wx∧[S,S,O,S][i]? =some T∧T.size≤140737488351232):=⟨hR,ht,hT,hz⟩
   clear J hR ht hT hz
   go_wp2_with fail
   refine q1.mono ?_
   rintro x w1 ⟨r,s1,e,rfl,hd,hw,t1⟩
   clear q1 c0
   obtain⟨w2,hw2⟩: ∃w2,w2=w1.alloc (.cells #[.int .i64 r.k,.int .i64 r.x,.int .i64 r.p,.int .i64 r.t,.slice s1.oo r.o.length s1.oc,.slice s1.no r.n.length s1.nc,.string r.nm,.int .i64 r.org,.int .i64 r.tb.id,.int .i64 r.tb.ver,.string r.tb.nm,.slice s1.co r.tb.cols.length s1.cc,.int .i64 r.tb.key,.slice s1.to s1.P.length s1.tc] 37):=⟨_,rfl⟩
   obtain⟨B1,hB1⟩: ∃B1,B1=w1.heap.size:=⟨_,rfl⟩
   have t2:Tch (fun _=>False) w1 w2:=by rw[hw2];exact Tch.alloc _ _ _
   have b2:w2.heap[B1]? =some (.cells #[.int .i64 r.k,.int .i64 r.x,.int .i64 r.p,.int .i64 r.t,.slice s1.oo r.o.length s1.oc,.slice s1.no r.n.length s1.nc,.string r.nm,.int .i64 r.org,.int .i64 r.tb.id,.int .i64 r.tb.ver,.string r.tb.nm,.slice s1.co r.tb.cols.length s1.cc,.int .i64 r.tb.key,.slice s1.to s1.P.length s1.tc] 37 (0,0)):=by rw[hw2,hB1];exact heap_new w1 _
   have H2:Hid (Rd T r e∧RW w2 (fun _=>False) r s1∧Tch (fun _=>False) wx w2∧w2.heap[B1]? =some (.cells #[.int .i64 r.k,.int .i64 r.x,.int .i64 r.p,.int .i64 r.t,.slice s1.oo r.o.length s1.oc,.slice s1.no r.n.length s1.nc,.string r.nm,.int .i64 r.org,.int .i64 r.tb.id,.int .i64 r.tb.ver,.string r.tb.nm,.slice s1.co r.tb.cols.length s1.cc,.int .i64 r.tb.key,.slice s1.to s1.P.length s1.tc] 37 (0,0))):=⟨hd,hw.no t2,t1.trans' t2,b2⟩
   have HW2:Hid (w2=w1.alloc (.cells #[.int .i64 r.k,.int .i64 r.x,.int .i64 r.p,.int .i64 r.t,.slice s1.oo r.o.length s1.oc,.slice s1.no r.n.length s1.nc,.string r.nm,.int .i64 r.org,.int .i64 r.tb.id,.int .i64 r.tb.ver,.string r.tb.nm,.slice s1.co r.tb.cols.length s1.cc,.int .i64 r.tb.key,.slice s1.to s1.P.length s1.tc] 37)):=hw2
   have HB1:Hid (B1=w1.heap.size):=hB1
   clear hd hw t1 t2 b2 hw2 hB1
   go_upto_region 8 with fail
   rw[←HW2.out, ←HB1.out]
   clear HW2 HB1
   have c0:=HC.out w2 H2.out.2.2.1
   have q2:=decode_r T w2 (by have:=HJ.out.2.2.2;omega) (HG.out w2 (HJ.out.2.1.trans' H2.out.2.2.1))
   go_wp2_with fail
   refine q2.mono ?_
   rintro x w3 ⟨r',s2,e',rfl,hd,hn,hc,t3⟩
   obtain⟨h1,h2⟩:=H2.out.1.uniq hd
   subst h1 h2
   clear q2 c0
   obtain⟨w4,hw4⟩: ∃w4,w4=w3.alloc (.cells #[.int .i64 r.k,.int .i64 r.x,.int .i64 r.p,.int .i64 r.t,.slice s2.oo r.o.length s2.oc,.slice s2.no r.n.length s2.nc,.string r.nm,.int .i64 r.org,.int .i64 r.tb.id,.int .i64 r.tb.ver,.string r.tb.nm,.slice s2.co r.tb.cols.length s2.cc,.int .i64 r.tb.key,.slice s2.to s2.P.length s2.tc] 37):=⟨_,rfl⟩
   obtain⟨B2,hB2⟩: ∃B2,B2=w3.heap.size:=⟨_,rfl⟩
   have t4:Tch (fun _=>False) w3 w4:=by rw[hw4];exact Tch.alloc _ _ _
   have b4:w4.heap[B2]? =some (.cells #[.int .i64 r.k,.int .i64 r.x,.int .i64 r.p,.int .i64 r.t,.slice s2.oo r.o.length s2.oc,.slice s2.no r.n.length s2.nc,.string r.nm,.int .i64 r.org,.int .i64 r.tb.id,.int .i64 r.tb.ver,.string r.tb.nm,.slice s2.co r.tb.cols.length s2.cc,.int .i64 r.tb.key,.slice s2.to s2.P.length s2.tc] 37 (0,0)):=by rw[hw4,hB2];exact heap_new w3 _
   have H4:Hid (RN w3 w2.heap.size r s2∧(s2.co=none∨s2.P=[])∧Tch (fun _=>False) w2 w3∧Tch (fun _=>False) w3 w4∧w4.heap[B2]? =some (.cells #[.int .i64 r.k,.int .i64 r.x,.int .i64 r.p,.int .i64 r.t,.slice s2.oo r.o.length s2.oc,.slice s2.no r.n.length s2.nc,.string r.nm,.int .i64 r.org,.int .i64 r.tb.id,.int .i64 r.tb.ver,.string r.tb.nm,.slice s2.co r.tb.cols.length s2.cc,.int .i64 r.tb.key,.slice s2.to s2.P.length s2.tc] 37 (0,0))):=⟨hn,hc,t3,t4,b4⟩
   have HW4:Hid (w4=w3.alloc (.cells #[.int .i64 r.k,.int .i64 r.x,.int .i64 r.p,.int .i64 r.t,.slice s2.oo r.o.length s2.oc,.slice s2.no r.n.length s2.nc,.string r.nm,.int .i64 r.org,.int .i64 r.tb.id,.int .i64 r.tb.ver,.string r.tb.nm,.slice s2.co r.tb.cols.length s2.cc,.int .i64 r.tb.key,.slice s2.to s2.P.length s2.tc] 37)):=hw4
   have HB2:Hid (B2=w3.heap.size):=hB2
   clear hd hn hc t3 t4 b4 hw4 hB2
   go_upto_region 9 with fail
   rw[←HW4.out, ←HB2.out]
   clear HW4 HB2
   obtain⟨g1,g2,g3,g4⟩:=H2.out
   obtain⟨k1,k2,k3,k4,k5⟩:=H4.out
   have z:=g1.z
   have q3:=lsameG r s2 s1 _ _ w4 ((k1.rw g1.i.1 g1.i.2).no k4) (g2.no (k3.trans' k4)) (by have:=z.c;omega) (by have:=z.t;omega) (fun t ht=>by have:=z.p t ht;omega)
   obtain⟨y0,y1,y2,y3,y4,y5,y6,y7,y8,y9,y10,y11,y12,y13⟩:=cells9 (k5)
   obtain⟨x0,x1,x2,x3,x4,x5,x6,x7,x8,x9,x10,x11,x12,x13⟩:=cells9 (((k3.trans' k4).block B1 (blk_lt g4) (fun h=>h)).trans g4)
   clear g1 g2 g3 g4 k1 k2 k3 k4 k5 z
   go_wp2_with fail
   refine q3.mono ?_
   rintro x w5 ⟨rfl,t5⟩
   clear q3 y0 y1 y2 y3 y4 y5 y6 y7 y8 y9 y10 y11 y12 y13 x0 x1 x2 x3 x4 x5 x6 x7 x8 x9 x10 x11 x12 x13
   have H5:Hid (Tch (fun _=>False) w4 w5):=t5
   clear t5
   go_upto_region 12 with fail
   obtain⟨v',w7,hrun,lo',lc',rfl,hR',t7⟩:=HJ.out.1.push (W1:=w3) (W2:=w5.alloc (.cells #[.int .i64 r.k,.int .i64 r.x,.int .i64 r.p,.int .i64 r.t,.slice s2.oo r.o.length s2.oc,.slice s2.no r.n.length s2.nc,.string r.nm,.int .i64 r.org,.int .i64 r.tb.id,.int .i64 r.tb.ver,.string r.tb.nm,.slice s2.co r.tb.cols.length s2.cc,.int .i64 r.tb.key,.slice s2.to s2.P.length s2.tc] 37)) HJ.out.2.1.size (by omega) (H2.out.2.2.1.trans' H4.out.2.2.1) (H4.out.1.low H2.out.2.2.1.size) H4.out.2.1 HJ.out.2.2.1 H2.out.1 ((H4.out.2.2.2.1.trans' H5.out).trans' (Tch.alloc _ _ _)) w5.heap.size (heap_new w5 _)
   have HR:Hid ((Builtin.append_ #[40,40] 40 #[.slice lo i lc,.slice (some ⟨w5.heap.size,0,none⟩) 1 1]).run Tryz.prog (w5.alloc (.cells #[.int .i64 r.k,.int .i64 r.x,.int .i64 r.p,.int .i64 r.t,.slice s2.oo r.o.length s2.oc,.slice s2.no r.n.length s2.nc,.string r.nm,.int .i64 r.org,.int .i64 r.tb.id,.int .i64 r.tb.ver,.string r.tb.nm,.slice s2.co r.tb.cols.length s2.cc,.int .i64 r.tb.key,.slice s2.to s2.P.length s2.tc] 37))= .ok (.slice lo' (i+1) lc') w7):=hrun
   have H7:Hid (∃RS,RL w7 wL.heap.size lo' (i+1) lc' [S,S,O,S] RS∧Tch (fun _=>False) wL w7):=by
    refine⟨_,hR',?_⟩
    have t8:Tch (fun _=>False) wL (w5.alloc (.cells #[.int .i64 r.k,.int .i64 r.x,.int .i64 r.p,.int .i64 r.t,.slice s2.oo r.o.length s2.oc,.slice s2.no r.n.length s2.nc,.string r.nm,.int .i64 r.org,.int .i64 r.tb.id,.int .i64 r.tb.ver,.string r.tb.nm,.slice s2.co r.tb.cols.length s2.cc,.int .i64 r.tb.key,.slice s2.to s2.P.length s2.tc] 37)):=(((HJ.out.2.1.trans' H2.out.2.2.1).trans' H4.out.2.2.1).trans' (H4.out.2.2.2.1.trans' H5.out)).trans' (Tch.alloc _ _ _)
    exact t8.trans t7 (fun g hg e=>by have:=row_ge HJ.out.1.own e;omega)
   obtain⟨y0,y1,y2,y3,y4,y5,y6,y7,y8,y9,y10,y11,y12,y13⟩:=cells9 ((H5.out.block B2 (blk_lt H4.out.2.2.2.2) (fun h=>h)).trans H4.out.2.2.2.2)
   clear hrun hR' t7
   go_upto_region 6 with(at_builtin;refine wpList_app9 _ rfl _ _ 40 rfl rfl _ _ rfl rfl HR.out ?_)
   clear HR y0 y1 y2 y3 y4 y5 y6 y7 y8 y9 y10 y11 y12 y13
   go_wp2_with fail
   go_roundg (4 - (i+1))
   case measure=>omega
   case rel=>exact⟨i+1,lo',lc',rfl,by first|rfl|(congr 1;omega),by omega,by omega,H7⟩
  ·have hi': ¬(i:Int)<4:=by omega
   have e1:i=4:=by omega
   subst e1
   go_wp2_with fail
   exact Hexit.out _ _ _ _ _ _ _ _ _ _ _ _ _ _ _ _ _ _ _ _ _ _ _ _ _ _ _ _ _ _ _ _ _ _ _ _ _ _ _ _ _ _ _ _ _ ⟨lo,lc,rfl,J⟩
theorem owned3 (wr:World) (ho:Option Addr) (m hc:Nat) (X:List (Value×Nat)) (hm:m≤1000000) (Hn:Hid (∀x∈X,x.2≤1000000)) (HJ:Hid (LX wr 58 3 mkR6 X 0∧HX wr 24 ho m hc X∧Tch (fun g=> ∃(i:Nat) (x:Value×Nat),X[i]? =some x∧x.1.ownBlock=some g) wr wr)) (Q0:Exit→Act→World→Prop)
  (u0 u1 u2 u4 u5 u6 u7 u9 gc gd gf gh gi gj gk gm gq gr gu gx gy gA gB gC gD gE gF gG gH gI gJ gK gL gM gN gO gP gQ gR gS gT gU gV gW gX gY gZ hH hU hZ i6 i7 i8 ia ib ic ie ig ii ij ik il im io ip iq ir iu iw ix iy iz iA iB iC iD iF iG iH iI iJ iK iL iM iN iO iP iQ iR iS iT iU iV iW iX iY iZ j5 aa ab ae af ah ai aj al am aq au av aw ax ay az aA aB aC aD aF aG aH aI aJ aK aL aM aN aO aP aQ aR aS aT aU aV aW aX aY aZ ba be bf bg bh bi bj bp bq br bu bv bw bz bC bD bE bF bG bH bI bJ bK bL bM bN bO bP bQ bS bT bU bW bX bY bZ cd ce cf cg ch ci ck cn cq cr ct cw cy cz cA cB cC cE cF cG cH cI cJ cK cL cM cN cP cQ cR cT cU cV cW cX cY cZ d8 d9 da de df dh di dj dk dl dm dn dp dq dr dt du dv dw dx dy dz dA dB dD dE dF dG dH dI dJ dK dL dM dN dO dP dQ dR dS dT dU dV dX dY dZ ed ee ef eh ei ej em es eu ex ey ez eA eB eD eE eF eH eI eJ eK eL eN eO eQ eR eS eT eU eV eW eX eY eZ fd fe ff fg fh fi fj fk fq fs fv fy fz fA fB fC fD fE fF fG fH fI fJ fK fL fM fN fO fP:Value)
  (Hexit:Hid (∀(v8 v9 j6 j7 j8 j9 ja jb jc jd je jf fQ fR fS fT fU fV fW fX fY fZ g7 g8 g9:Value) (wx:World),Hid (LX wx 58 3 mkR6 X m∧HX wx 24 ho m hc X∧Tch (fun g=> ∃(i:Nat) (x:Value×Nat),X[i]? =some x∧x.1.ownBlock=some g) wr wx)→Q0 (.exit 4) ⟨List.toArray (u0::u1::u2::(.slice ho m hc)::u4::u5::u6::u7::(v8)::(v9)::gc::gd::gf::gh::gi::gj::gk::gm::gq::gr::gu::gx::gy::gA::gB::gC::gD::gE::gF::gG::gH::gI::gJ::gK::gL::gM::gN::gO::gP::gQ::gR::gS::gT::gU::gV::gW::gX::gY::gZ::hH::hU::hZ::i6::i7::i8::ia::ib::ic::ie::ig::ii::ij::ik::il::im::io::ip::iq::ir::iu::iw::ix::iy::iz::iA::iB::iC::iD::iF::iG::iH::iI::iJ::iK::iL::iM::iN::iO::iP::iQ::(j6)::(j7)::(j8)::(j9)::(ja)::(jb)::(jc)::(jd)::(je)::(jf)::(fQ)::(fR)::(fS)::(fT)::(fU)::(fV)::(fW)::(fX)::(fY)::(fZ)::(g7)::(g8)::(g9)::ax::ay::az::aA::aB::aC::aD::aF::aG::aH::aI::aJ::aK::aL::aM::aN::aO::aP::aQ::aR::aS::aT::aU::aV::aW::aX::aY::aZ::ba::be::bf::bg::bh::bi::bj::bp::bq::br::bu::bv::bw::bz::bC::bD::bE::bF::bG::bH::bI::bJ::bK::bL::bM::bN::bO::bP::bQ::bS::bT::bU::bW::bX::bY::bZ::cd::ce::cf::cg::ch::ci::ck::cn::cq::cr::ct::cw::cy::cz::cA::cB::cC::cE::cF::cG::cH::cI::cJ::cK::cL::cM::cN::cP::cQ::cR::cT::cU::cV::cW::cX::cY::cZ::d8::d9::da::de::df::dh::di::dj::dk::dl::dm::dn::dp::dq::dr::dt::du::dv::dw::dx::dy::dz::dA::dB::dD::dE::dF::dG::dH::dI::dJ::dK::dL::dM::dN::dO::dP::dQ::dR::dS::dT::dU::dV::dX::dY::dZ::ed::ee::ef::eh::ei::ej::em::es::eu::ex::ey::ez::eA::eB::eD::eE::eF::eH::eI::eJ::eK::eL::eN::eO::eQ::eR::eS::eT::eU::eV::eW::eX::eY::eZ::fd::fe::ff::fg::fh::fi::fj::fk::fq::fs::fv::fy::fz::fA::fB::fC::fD::fE::fF::fG::fH::fI::fJ::fK::fL::fM::fN::fO::fP::[]),[]⟩ wx)):
  Code.wp Tryz.prog (Code.loop (owB 2)) Q0 ⟨List.toArray (u0::u1::u2::(.slice ho m hc)::u4::u5::u6::u7::(.int .i64 0)::u9::gc::gd::gf::gh::gi::gj::gk::gm::gq::gr::gu::gx::gy::gA::gB::gC::gD::gE::gF::gG::gH::gI::gJ::gK::gL::gM::gN::gO::gP::gQ::gR::gS::gT::gU::gV::gW::gX::gY::gZ::hH::hU::hZ::i6::i7::i8::ia::ib::ic::ie::ig::ii::ij::ik::il::im::io::ip::iq::ir::iu::iw::ix::iy::iz::iA::iB::iC::iD::iF::iG::iH::iI::iJ::iK::iL::iM::iN::iO::iP::iQ::iR::iS::iT::iU::iV::iW::iX::iY::iZ::j5::aa::ab::ae::af::ah::ai::aj::al::am::aq::au::av::aw::ax::ay::az::aA::aB::aC::aD::aF::aG::aH::aI::aJ::aK::aL::aM::aN::aO::aP::aQ::aR::aS::aT::aU::aV::aW::aX::aY::aZ::ba::be::bf::bg::bh::bi::bj::bp::bq::br::bu::bv::bw::bz::bC::bD::bE::bF::bG::bH::bI::bJ::bK::bL::bM::bN::bO::bP::bQ::bS::bT::bU::bW::bX::bY::bZ::cd::ce::cf::cg::ch::ci::ck::cn::cq::cr::ct::cw::cy::cz::cA::cB::cC::cE::cF::cG::cH::cI::cJ::cK::cL::cM::cN::cP::cQ::cR::cT::cU::cV::cW::cX::cY::cZ::d8::d9::da::de::df::dh::di::dj::dk::dl::dm::dn::dp::dq::dr::dt::du::dv::dw::dx::dy::dz::dA::dB::dD::dE::dF::dG::dH::dI::dJ::dK::dL::dM::dN::dO::dP::dQ::dR::dS::dT::dU::dV::dX::dY::dZ::ed::ee::ef::eh::ei::ej::em::es::eu::ex::ey::ez::eA::eB::eD::eE::eF::eH::eI::eJ::eK::eL::eN::eO::eQ::eR::eS::eT::eU::eV::eW::eX::eY::eZ::fd::fe::ff::fg::fh::fi::fj::fk::fq::fs::fv::fy::fz::fA::fB::fC::fD::fE::fF::fG::fH::fI::fJ::fK::fL::fM::fN::fO::fP::[]),[]⟩ wr:=by
 conv=>arg 2;arg 1;whnf
 go_loopg [8,9] m (fun kx s8 s9 wx=> ∃i:Nat,s8= .int .i64 i∧m - i≤kx∧i≤m∧Hid (LX wx 58 3 mkR6 X i∧HX wx 24 ho m hc X∧Tch (fun g=> ∃(i:Nat) (x:Value×Nat),X[i]? =some x∧x.1.ownBlock=some g) wr wx))
 case atStart=>exact⟨0,rfl,by omega,by omega,HJ⟩
 case round=>
  rename World=>wx
  obtain⟨i,rfl,hkx,him,J⟩:=hrel
  by_cases hi:i<m
  ·have hi':(i:Int)<(m:Int):=by omega
   obtain⟨x,hx⟩: ∃x,X[i]? =some x:=⟨_,List.getElem?_eq_getElem (by have:=J.out.2.1.1;omega)⟩
   obtain⟨v,n⟩:=x
   obtain⟨xs,hown⟩:=J.out.1.own i _ hx
   obtain⟨vo,vc,hv⟩:=row_slice hown
   simp only at hv
   subst hv
   obtain⟨G,rfl,hG⟩:=J.out.2.1.get hx
   simp only at hG
   have hn9:n≤1000000:=Hn.out _ (List.mem_of_getElem? hx)
   have HX0:Hid (X[i]? =some (.slice vo n vc,n)):=hx
   have HI:Hid (MCz 58 3 wx (.slice vo n vc) n (mkR6 i) 0∧Tch (fun g=>(Value.slice vo n vc).ownBlock=some g) wx wx):=⟨MCz.of hown,Tch.refl _ _⟩
   have HG:Hid (wx.cell? ⟨G,i,none⟩=some (.slice vo n vc)):=hG
   have hw5:IntKind.i64.wrap (-5 - (i:Int))= -5 - (i:Int):=by rw[IntKind.wrap_i64];omega
   clear hx hown hG
   go_wp2_with fail
   go_loopg [9] n (fun kx s9 wy=> ∃j:Nat,s9= .int .i64 j∧n - j≤kx∧j≤n∧Hid (MCz 58 3 wy (.slice vo n vc) n (mkR6 i) j∧Tch (fun g=>(Value.slice vo n vc).ownBlock=some g) wx wy))
   case atStart=>exact⟨0,rfl,by omega,by omega,HI⟩
   case round=>
    rename World=>wy
    obtain⟨j,rfl,hjx,hjn,K⟩:=hrel
    have hGy:wy.cell? ⟨G,i,none⟩=some (.slice vo n vc):=by
     obtain⟨cu,hb⟩:=own_ty9 J.out.2.1.2 (g:=G) rfl
     exact(K.out.2.cell (p:=⟨G,i,none⟩) (blk_lt hb) (J.out.1.ty (by decide) HX0.out G cu hb)).trans HG.out
    by_cases hj:j<n
    ·have hj':(j:Int)<(n:Int):=by omega
     obtain⟨g,c,hvv,⟨y0,hy0⟩,⟨y1,hy1⟩,⟨y2,hy2⟩,hfz,K2,tS⟩:=K.out.1.step3 hj
     simp only[Value.slice.injEq,true_and] at hvv
     obtain⟨rfl,rfl⟩:=hvv
     obtain⟨w5,hw5'⟩: ∃w5,w5=(((wy.setCell ⟨g,j*3,none⟩ (.int .i64 (-5))).setCell ⟨g,j*3+1,none⟩ (.int .i64 (i:Int))).setCell ⟨g,j*3+2,none⟩ (.string ⟨#[]⟩)):=⟨_,rfl⟩
     rw[←hw5'] at K2 tS
     have HK5:Hid (MCz 58 3 w5 (.slice (some ⟨g,0,none⟩) n vc) n (mkR6 i) (j+1)∧Tch (fun k=>(Value.slice (some ⟨g,0,none⟩) n vc).ownBlock=some k) wx w5):=⟨K2,K.out.2.trans' tS⟩
     have HW5:Hid (w5=_):=hw5'
     clear K2 tS hw5' K
     go_upto_region 19 with(fail)
     rw[←HW5.out]
     clear hGy hfz hy0 hy1 hy2
     go_wp2_with fail
     go_roundg (n - (j+1))
     case measure=>omega
     case rel=>exact⟨j+1,by first|rfl|(congr 1;omega),by omega,by omega,HK5⟩
    ·have hj': ¬(j:Int)<(n:Int):=by omega
     have e1:j=n:=by omega
     have HJ2:Hid (LX wy 58 3 mkR6 X (i+1)∧HX wy 24 (some ⟨G,0,none⟩) m hc X∧Tch (fun g=> ∃(i:Nat) (x:Value×Nat),X[i]? =some x∧x.1.ownBlock=some g) wr wy):=by
      have k1:=K.out.1
      rw[e1] at k1
      exact⟨J.out.1.next HX0.out K.out.2 k1 rfl,J.out.2.1.tch K.out.2 (J.out.1.ty (by decide) HX0.out),J.out.2.2.trans K.out.2 (fun g _ e=>⟨i,_,HX0.out,e⟩)⟩
     clear K
     go_wp2_with fail
     go_roundg (m - (i+1))
     case measure=>omega
     case rel=>exact⟨i+1,by first|rfl|(congr 1;omega),by omega,by omega,HJ2⟩
  ·have hi': ¬(i:Int)<(m:Int):=by omega
   have e1:i=m:=by omega
   have HF:Hid (LX wx 58 3 mkR6 X m∧HX wx 24 ho m hc X∧Tch (fun g=> ∃(i:Nat) (x:Value×Nat),X[i]? =some x∧x.1.ownBlock=some g) wr wx):=by have h:=J.out;rw[e1] at h;exact h
   clear J
   go_wp2_with fail
   exact Hexit.out _ _ _ _ _ _ _ _ _ _ _ _ _ _ _ _ _ _ _ _ _ _ _ _ _ _ HF
theorem owned5 (wr:World) (ho:Option Addr) (m hc:Nat) (X:List (Value×Nat)) (hm:m≤1000000) (Hn:Hid (∀x∈X,x.2≤1000000)) (HJ:Hid (LX wr 43 3 mkL6 X 0∧HX wr 22 ho m hc X∧Tch (fun g=> ∃(i:Nat) (x:Value×Nat),X[i]? =some x∧x.1.ownBlock=some g) wr wr)) (Q0:Exit→Act→World→Prop)
  (u0 u1 u2 u3 u5 u6 u7 u8 u9 gx gy gA gB gC gD gE gF gG gH gI gJ gK gL gM gN gO gP gQ gR gS gT gU gV gW gX gY gZ hH hU hZ i6 i7 i8 ia ib ic ie ig ii ij ik il im io ip iq ir iu iw ix iy iz iA iB iC iD iF iG iH iI iJ iK iL iM iN iO iP iQ iR iS iT iU iV iW iX iY iZ j5 j6 j7 j8 j9 ja jb jc jd je jf aa ab ae af ah ai aj al am aq au av aw ax ay az aA aB aC aD aF aG aH aI aJ aK aL aM aN aO aP aQ aR aS aT aU aV aW aX aY aZ ba be bf bg bh bi bj bp bq br bu bv bw bz bC bD bE bF bG bH bI bJ bK bL bM bN bO bP bQ bS bT bU bW bX bY bZ cd ce cf cg ch ci ck cn cq cr ct cw cy cz cA cB cC cE cF cG cH cI cJ cK cL cM cN cP cQ cR cT cU cV cW cX cY cZ d8 d9 da de df dh di dj dk dl dm dn dp dq dr dt du dv dw dx dy dz dA dB dD dE dF dG dH dI dJ dK dL dM dN dO dP dQ dR dS dT dU dV dX dY dZ ed ee ef eh ei ej em es eu ex ey ez eA eB eD eE eF eH eI eJ eK eL eN eO eQ eR eS eT eU eV eW eX eY eZ fd fe ff fg fh fi fj fk fq fs fv fy fz fA fB fC fD fE fF fG fH fI fJ fK fL fM fN fO fP:Value)
  (Hexit:Hid (∀(jg jh fQ fR fS fT fU fV fW fX fY fZ g7 g8 g9 gc gd gf gh gi gj gk gm gq gr gu:Value) (wx:World),Hid (LX wx 43 3 mkL6 X m∧HX wx 22 ho m hc X∧Tch (fun g=> ∃(i:Nat) (x:Value×Nat),X[i]? =some x∧x.1.ownBlock=some g) wr wx)→Q0 (.exit 8) ⟨List.toArray (u0::u1::u2::u3::(.slice ho m hc)::u5::u6::u7::u8::u9::(jg)::(jh)::gy::gA::gB::gC::gD::gE::gF::gG::gH::gI::gJ::gK::gL::gM::gN::gO::gP::gQ::gR::gS::gT::gU::gV::gW::gX::gY::gZ::hH::hU::hZ::i6::i7::i8::ia::ib::ic::ie::ig::ii::ij::ik::il::im::io::ip::iq::ir::iu::iw::ix::iy::iz::iA::iB::iC::iD::iF::iG::iH::iI::iJ::iK::iL::iM::iN::iO::iP::iQ::iR::iS::iT::iU::iV::iW::iX::iY::iZ::j5::j6::j7::j8::j9::ja::jb::jc::jd::je::jf::aa::ab::ae::af::ah::ai::aj::al::am::aq::au::av::aw::(fQ)::(fR)::(fS)::(fT)::(fU)::(fV)::(fW)::(fX)::(fY)::(fZ)::(g7)::(g8)::(g9)::(gc)::(gd)::(gf)::(gh)::(gi)::(gj)::(gk)::(gm)::(gq)::(gr)::(gu)::aW::aX::aY::aZ::ba::be::bf::bg::bh::bi::bj::bp::bq::br::bu::bv::bw::bz::bC::bD::bE::bF::bG::bH::bI::bJ::bK::bL::bM::bN::bO::bP::bQ::bS::bT::bU::bW::bX::bY::bZ::cd::ce::cf::cg::ch::ci::ck::cn::cq::cr::ct::cw::cy::cz::cA::cB::cC::cE::cF::cG::cH::cI::cJ::cK::cL::cM::cN::cP::cQ::cR::cT::cU::cV::cW::cX::cY::cZ::d8::d9::da::de::df::dh::di::dj::dk::dl::dm::dn::dp::dq::dr::dt::du::dv::dw::dx::dy::dz::dA::dB::dD::dE::dF::dG::dH::dI::dJ::dK::dL::dM::dN::dO::dP::dQ::dR::dS::dT::dU::dV::dX::dY::dZ::ed::ee::ef::eh::ei::ej::em::es::eu::ex::ey::ez::eA::eB::eD::eE::eF::eH::eI::eJ::eK::eL::eN::eO::eQ::eR::eS::eT::eU::eV::eW::eX::eY::eZ::fd::fe::ff::fg::fh::fi::fj::fk::fq::fs::fv::fy::fz::fA::fB::fC::fD::fE::fF::fG::fH::fI::fJ::fK::fL::fM::fN::fO::fP::[]),[]⟩ wx)):
  Code.wp Tryz.prog (Code.loop (owB 4)) Q0 ⟨List.toArray (u0::u1::u2::u3::(.slice ho m hc)::u5::u6::u7::u8::u9::(.int .i64 0)::gx::gy::gA::gB::gC::gD::gE::gF::gG::gH::gI::gJ::gK::gL::gM::gN::gO::gP::gQ::gR::gS::gT::gU::gV::gW::gX::gY::gZ::hH::hU::hZ::i6::i7::i8::ia::ib::ic::ie::ig::ii::ij::ik::il::im::io::ip::iq::ir::iu::iw::ix::iy::iz::iA::iB::iC::iD::iF::iG::iH::iI::iJ::iK::iL::iM::iN::iO::iP::iQ::iR::iS::iT::iU::iV::iW::iX::iY::iZ::j5::j6::j7::j8::j9::ja::jb::jc::jd::je::jf::aa::ab::ae::af::ah::ai::aj::al::am::aq::au::av::aw::ax::ay::az::aA::aB::aC::aD::aF::aG::aH::aI::aJ::aK::aL::aM::aN::aO::aP::aQ::aR::aS::aT::aU::aV::aW::aX::aY::aZ::ba::be::bf::bg::bh::bi::bj::bp::bq::br::bu::bv::bw::bz::bC::bD::bE::bF::bG::bH::bI::bJ::bK::bL::bM::bN::bO::bP::bQ::bS::bT::bU::bW::bX::bY::bZ::cd::ce::cf::cg::ch::ci::ck::cn::cq::cr::ct::cw::cy::cz::cA::cB::cC::cE::cF::cG::cH::cI::cJ::cK::cL::cM::cN::cP::cQ::cR::cT::cU::cV::cW::cX::cY::cZ::d8::d9::da::de::df::dh::di::dj::dk::dl::dm::dn::dp::dq::dr::dt::du::dv::dw::dx::dy::dz::dA::dB::dD::dE::dF::dG::dH::dI::dJ::dK::dL::dM::dN::dO::dP::dQ::dR::dS::dT::dU::dV::dX::dY::dZ::ed::ee::ef::eh::ei::ej::em::es::eu::ex::ey::ez::eA::eB::eD::eE::eF::eH::eI::eJ::eK::eL::eN::eO::eQ::eR::eS::eT::eU::eV::eW::eX::eY::eZ::fd::fe::ff::fg::fh::fi::fj::fk::fq::fs::fv::fy::fz::fA::fB::fC::fD::fE::fF::fG::fH::fI::fJ::fK::fL::fM::fN::fO::fP::[]),[]⟩ wr:=by
 conv=>arg 2;arg 1;whnf
 go_loopg [10,11] m (fun kx s10 s11 wx=> ∃i:Nat,s10= .int .i64 i∧m - i≤kx∧i≤m∧Hid (LX wx 43 3 mkL6 X i∧HX wx 22 ho m hc X∧Tch (fun g=> ∃(i:Nat) (x:Value×Nat),X[i]? =some x∧x.1.ownBlock=some g) wr wx))
 case atStart=>exact⟨0,rfl,by omega,by omega,HJ⟩
 case round=>
  rename World=>wx
  obtain⟨i,rfl,hkx,him,J⟩:=hrel
  by_cases hi:i<m
  ·have hi':(i:Int)<(m:Int):=by omega
   obtain⟨x,hx⟩: ∃x,X[i]? =some x:=⟨_,List.getElem?_eq_getElem (by have:=J.out.2.1.1;omega)⟩
   obtain⟨v,n⟩:=x
   obtain⟨xs,hown⟩:=J.out.1.own i _ hx
   obtain⟨vo,vc,hv⟩:=row_slice hown
   simp only at hv
   subst hv
   obtain⟨G,rfl,hG⟩:=J.out.2.1.get hx
   simp only at hG
   have hn9:n≤1000000:=Hn.out _ (List.mem_of_getElem? hx)
   have HX0:Hid (X[i]? =some (.slice vo n vc,n)):=hx
   have HI:Hid (MCz 43 3 wx (.slice vo n vc) n (mkL6 i) 0∧Tch (fun g=>(Value.slice vo n vc).ownBlock=some g) wx wx):=⟨MCz.of hown,Tch.refl _ _⟩
   have HG:Hid (wx.cell? ⟨G,i,none⟩=some (.slice vo n vc)):=hG
   have hw5:IntKind.i64.wrap (-5 - (i:Int))= -5 - (i:Int):=by rw[IntKind.wrap_i64];omega
   clear hx hown hG
   go_wp2_with fail
   go_loopg [11] n (fun kx s11 wy=> ∃j:Nat,s11= .int .i64 j∧n - j≤kx∧j≤n∧Hid (MCz 43 3 wy (.slice vo n vc) n (mkL6 i) j∧Tch (fun g=>(Value.slice vo n vc).ownBlock=some g) wx wy))
   case atStart=>exact⟨0,rfl,by omega,by omega,HI⟩
   case round=>
    rename World=>wy
    obtain⟨j,rfl,hjx,hjn,K⟩:=hrel
    have hGy:wy.cell? ⟨G,i,none⟩=some (.slice vo n vc):=by
     obtain⟨cu,hb⟩:=own_ty9 J.out.2.1.2 (g:=G) rfl
     exact(K.out.2.cell (p:=⟨G,i,none⟩) (blk_lt hb) (J.out.1.ty (by decide) HX0.out G cu hb)).trans HG.out
    by_cases hj:j<n
    ·have hj':(j:Int)<(n:Int):=by omega
     obtain⟨g,c,hvv,⟨y0,hy0⟩,⟨y1,hy1⟩,⟨y2,hy2⟩,hfz,K2,tS⟩:=K.out.1.step3 hj
     simp only[Value.slice.injEq,true_and] at hvv
     obtain⟨rfl,rfl⟩:=hvv
     obtain⟨w5,hw5'⟩: ∃w5,w5=(((wy.setCell ⟨g,j*3,none⟩ (.string ⟨#[]⟩)).setCell ⟨g,j*3+1,none⟩ (.int .i64 (-5 - (i:Int)))).setCell ⟨g,j*3+2,none⟩ (.bool false)):=⟨_,rfl⟩
     rw[←hw5'] at K2 tS
     have HK5:Hid (MCz 43 3 w5 (.slice (some ⟨g,0,none⟩) n vc) n (mkL6 i) (j+1)∧Tch (fun k=>(Value.slice (some ⟨g,0,none⟩) n vc).ownBlock=some k) wx w5):=⟨K2,K.out.2.trans' tS⟩
     have HW5:Hid (w5=_):=hw5'
     clear K2 tS hw5' K
     go_upto_region 26 with(fail)
     rw[←HW5.out]
     clear hGy hfz hy0 hy1 hy2
     go_wp2_with fail
     go_roundg (n - (j+1))
     case measure=>omega
     case rel=>exact⟨j+1,by first|rfl|(congr 1;omega),by omega,by omega,HK5⟩
    ·have hj': ¬(j:Int)<(n:Int):=by omega
     have e1:j=n:=by omega
     have HJ2:Hid (LX wy 43 3 mkL6 X (i+1)∧HX wy 22 (some ⟨G,0,none⟩) m hc X∧Tch (fun g=> ∃(i:Nat) (x:Value×Nat),X[i]? =some x∧x.1.ownBlock=some g) wr wy):=by
      have k1:=K.out.1
      rw[e1] at k1
      exact⟨J.out.1.next HX0.out K.out.2 k1 rfl,J.out.2.1.tch K.out.2 (J.out.1.ty (by decide) HX0.out),J.out.2.2.trans K.out.2 (fun g _ e=>⟨i,_,HX0.out,e⟩)⟩
     clear K
     go_wp2_with fail
     go_roundg (m - (i+1))
     case measure=>omega
     case rel=>exact⟨i+1,by first|rfl|(congr 1;omega),by omega,by omega,HJ2⟩
  ·have hi': ¬(i:Int)<(m:Int):=by omega
   have e1:i=m:=by omega
   have HF:Hid (LX wx 43 3 mkL6 X m∧HX wx 22 ho m hc X∧Tch (fun g=> ∃(i:Nat) (x:Value×Nat),X[i]? =some x∧x.1.ownBlock=some g) wr wx):=by have h:=J.out;rw[e1] at h;exact h
   clear J
   go_wp2_with fail
   exact Hexit.out _ _ _ _ _ _ _ _ _ _ _ _ _ _ _ _ _ _ _ _ _ _ _ _ _ _ _ HF
end Go.Proofs.YtaiadknglhemaaaGreatDoor.C
