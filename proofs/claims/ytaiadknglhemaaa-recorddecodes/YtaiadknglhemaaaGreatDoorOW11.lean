import Derived.Test.YtaiadknglhemaaaGreatDoorDX0
import Derived.Test.YtaiadknglhemaaaGreatDoorRV3
set_option maxHeartbeats 8000000
set_option maxRecDepth 1000000
namespace Go.Proofs.YtaiadknglhemaaaGreatDoor.C
open Go.RowKit Go Go.Sort
theorem owned7 (wr:World) (ho:Option Addr) (m hc:Nat) (X:List (Value×Nat)) (hm:m≤1000000) (Hn:Hid (∀x∈X,x.2≤1000000)) (HJ:Hid (LX wr 29 5 mkT6 X 0∧HX wr 35 ho m hc X∧Tch (fun g=> ∃(i:Nat) (x:Value×Nat),X[i]? =some x∧x.1.ownBlock=some g) wr wr)) (Q0:Exit→Act→World→Prop)
  (u0 u1 u2 u3 u4 u6 u7 u8 u9 gx gy gA gB gC gD gE gF gG gH gI gJ gK gL gM gN gO gP gQ gR gS gT gU gV gW gX gY gZ hH hU hZ i6 i7 i8 ia ib ic ie ig ii ij ik il im io ip iq ir iu iw ix iy iz iA iB iC iD iF iG iH iI iJ iK iL iM iN iO iP iQ iR iS iT iU iV iW iX iY iZ j5 j6 j7 j8 j9 ja jb jc jd je jf aa ab ae af ah ai aj al am aq au av aw ax ay az aA aB aC aD aF aG aH aI aJ aK aL aM aN aO aP aQ aR aS aT aU aV aW aX aY aZ ba be bf bg bh bi bj bp bq br bu bv bw bz bC bD bE bF bG bH bI bJ bK bL bM bN bO bP bQ bS bT bU bW bX bY bZ cd ce cf cg ch ci ck cn cq cr ct cw cy cz cA cB cC cE cF cG cH cI cJ cK cL cM cN cP cQ cR cT cU cV cW cX cY cZ d8 d9 da de df dh di dj dk dl dm dn dp dq dr dt du dv dw dx dy dz dA dB dD dE dF dG dH dI dJ dK dL dM dN dO dP dQ dR dS dT dU dV dX dY dZ ed ee ef eh ei ej em es eu ex ey ez eA eB eD eE eF eH eI eJ eK eL eN eO eQ eR eS eT eU eV eW eX eY eZ fd fe ff fg fh fi fj fk fq fs fv fy fz fA fB fC fD fE fF fG fH fI fJ fK fL fM fN fO fP:Value)
  (Hexit:Hid (∀(jg jh fQ fR fS fT fU fV fW fX fY fZ g7 g8 g9 gc gd gf gh gi gj gk gm gq gr gu:Value) (wx:World),Hid (LX wx 29 5 mkT6 X m∧HX wx 35 ho m hc X∧Tch (fun g=> ∃(i:Nat) (x:Value×Nat),X[i]? =some x∧x.1.ownBlock=some g) wr wx)→Q0 (.exit 12) ⟨List.toArray (u0::u1::u2::u3::u4::(.slice ho m hc)::u6::u7::u8::u9::gx::gy::(jg)::(jh)::gB::gC::gD::gE::gF::gG::gH::gI::gJ::gK::gL::gM::gN::gO::gP::gQ::gR::gS::gT::gU::gV::gW::gX::gY::gZ::hH::hU::hZ::i6::i7::i8::ia::ib::ic::ie::ig::ii::ij::ik::il::im::io::ip::iq::ir::iu::iw::ix::iy::iz::iA::iB::iC::iD::iF::iG::iH::iI::iJ::iK::iL::iM::iN::iO::iP::iQ::iR::iS::iT::iU::iV::iW::iX::iY::iZ::j5::j6::j7::j8::j9::ja::jb::jc::jd::je::jf::aa::ab::ae::af::ah::ai::aj::al::am::aq::au::av::aw::ax::ay::az::aA::aB::aC::aD::aF::aG::aH::aI::aJ::aK::aL::aM::aN::aO::aP::aQ::aR::aS::aT::aU::aV::(fQ)::(fR)::(fS)::(fT)::(fU)::(fV)::(fW)::(fX)::(fY)::(fZ)::(g7)::(g8)::(g9)::(gc)::(gd)::(gf)::(gh)::(gi)::(gj)::(gk)::(gm)::(gq)::(gr)::(gu)::bI::bJ::bK::bL::bM::bN::bO::bP::bQ::bS::bT::bU::bW::bX::bY::bZ::cd::ce::cf::cg::ch::ci::ck::cn::cq::cr::ct::cw::cy::cz::cA::cB::cC::cE::cF::cG::cH::cI::cJ::cK::cL::cM::cN::cP::cQ::cR::cT::cU::cV::cW::cX::cY::cZ::d8::d9::da::de::df::dh::di::dj::dk::dl::dm::dn::dp::dq::dr::dt::du::dv::dw::dx::dy::dz::dA::dB::dD::dE::dF::dG::dH::dI::dJ::dK::dL::dM::dN::dO::dP::dQ::dR::dS::dT::dU::dV::dX::dY::dZ::ed::ee::ef::eh::ei::ej::em::es::eu::ex::ey::ez::eA::eB::eD::eE::eF::eH::eI::eJ::eK::eL::eN::eO::eQ::eR::eS::eT::eU::eV::eW::eX::eY::eZ::fd::fe::ff::fg::fh::fi::fj::fk::fq::fs::fv::fy::fz::fA::fB::fC::fD::fE::fF::fG::fH::fI::fJ::fK::fL::fM::fN::fO::fP::[]),[]⟩ wx)):
  Code.wp Tryz.prog (Code.loop (owB 6)) Q0 ⟨List.toArray (u0::u1::u2::u3::u4::(.slice ho m hc)::u6::u7::u8::u9::gx::gy::(.int .i64 0)::gA::gB::gC::gD::gE::gF::gG::gH::gI::gJ::gK::gL::gM::gN::gO::gP::gQ::gR::gS::gT::gU::gV::gW::gX::gY::gZ::hH::hU::hZ::i6::i7::i8::ia::ib::ic::ie::ig::ii::ij::ik::il::im::io::ip::iq::ir::iu::iw::ix::iy::iz::iA::iB::iC::iD::iF::iG::iH::iI::iJ::iK::iL::iM::iN::iO::iP::iQ::iR::iS::iT::iU::iV::iW::iX::iY::iZ::j5::j6::j7::j8::j9::ja::jb::jc::jd::je::jf::aa::ab::ae::af::ah::ai::aj::al::am::aq::au::av::aw::ax::ay::az::aA::aB::aC::aD::aF::aG::aH::aI::aJ::aK::aL::aM::aN::aO::aP::aQ::aR::aS::aT::aU::aV::aW::aX::aY::aZ::ba::be::bf::bg::bh::bi::bj::bp::bq::br::bu::bv::bw::bz::bC::bD::bE::bF::bG::bH::bI::bJ::bK::bL::bM::bN::bO::bP::bQ::bS::bT::bU::bW::bX::bY::bZ::cd::ce::cf::cg::ch::ci::ck::cn::cq::cr::ct::cw::cy::cz::cA::cB::cC::cE::cF::cG::cH::cI::cJ::cK::cL::cM::cN::cP::cQ::cR::cT::cU::cV::cW::cX::cY::cZ::d8::d9::da::de::df::dh::di::dj::dk::dl::dm::dn::dp::dq::dr::dt::du::dv::dw::dx::dy::dz::dA::dB::dD::dE::dF::dG::dH::dI::dJ::dK::dL::dM::dN::dO::dP::dQ::dR::dS::dT::dU::dV::dX::dY::dZ::ed::ee::ef::eh::ei::ej::em::es::eu::ex::ey::ez::eA::eB::eD::eE::eF::eH::eI::eJ::eK::eL::eN::eO::eQ::eR::eS::eT::eU::eV::eW::eX::eY::eZ::fd::fe::ff::fg::fh::fi::fj::fk::fq::fs::fv::fy::fz::fA::fB::fC::fD::fE::fF::fG::fH::fI::fJ::fK::fL::fM::fN::fO::fP::[]),[]⟩ wr:=by
 conv=>arg 2;arg 1;whnf
 go_loopg [12,13] m (fun kx s12 s13 wx=> ∃i:Nat,s12= .int .i64 i∧m - i≤kx∧i≤m∧Hid (LX wx 29 5 mkT6 X i∧HX wx 35 ho m hc X∧Tch (fun g=> ∃(i:Nat) (x:Value×Nat),X[i]? =some x∧x.1.ownBlock=some g) wr wx))
 case atStart=>exact⟨0,rfl,by omega,by omega,HJ⟩
 case round=>
  rename World=>wx
  obtain⟨i,rfl,hkx,him,J⟩:=hrel
  by_cases hi:i<m
  ·have hi':(i:Int)<(m:Int):=by omega
   obtain⟨x,hx⟩: ∃x,X[i]? =some x:=⟨_,List.getElem?_eq_getElem (by have:=J.out.2.1.1;omega)⟩
   obtain⟨v,n⟩:=x
   obtain⟨xs,hown⟩:=J.out.1.own i _ hx
   obtain⟨vo,vc,hv⟩:=row_slice hown
   simp only at hv
   subst hv
   obtain⟨G,rfl,hG⟩:=J.out.2.1.get hx
   simp only at hG
   have hn9:n≤1000000:=Hn.out _ (List.mem_of_getElem? hx)
   have HX0:Hid (X[i]? =some (.slice vo n vc,n)):=hx
   have HI:Hid (MCz 29 5 wx (.slice vo n vc) n (mkT6 i) 0∧Tch (fun g=>(Value.slice vo n vc).ownBlock=some g) wx wx):=⟨MCz.of hown,Tch.refl _ _⟩
   have HG:Hid (wx.cell? ⟨G,i,none⟩=some (.slice vo n vc)):=hG
   have hw5:IntKind.i64.wrap (-5 - (i:Int))= -5 - (i:Int):=by rw[IntKind.wrap_i64];omega
   clear hx hown hG
   go_wp2_with fail
   go_loopg [13] n (fun kx s13 wy=> ∃j:Nat,s13= .int .i64 j∧n - j≤kx∧j≤n∧Hid (MCz 29 5 wy (.slice vo n vc) n (mkT6 i) j∧Tch (fun g=>(Value.slice vo n vc).ownBlock=some g) wx wy))
   case atStart=>exact⟨0,rfl,by omega,by omega,HI⟩
   case round=>
    rename World=>wy
    obtain⟨j,rfl,hjx,hjn,K⟩:=hrel
    have hGy:wy.cell? ⟨G,i,none⟩=some (.slice vo n vc):=by
     obtain⟨cu,hb⟩:=own_ty9 J.out.2.1.2 (g:=G) rfl
     exact(K.out.2.cell (p:=⟨G,i,none⟩) (blk_lt hb) (J.out.1.ty (by decide) HX0.out G cu hb)).trans HG.out
    by_cases hj:j<n
    ·have hj':(j:Int)<(n:Int):=by omega
     obtain⟨g,c,hvv,⟨y0,hy0⟩,⟨y1,hy1⟩,⟨y2,hy2⟩,⟨y3,hy3⟩,⟨y4,hy4⟩,hfz,K2,tS⟩:=K.out.1.step5 hj
     simp only[Value.slice.injEq,true_and] at hvv
     obtain⟨rfl,rfl⟩:=hvv
     obtain⟨w5,hw5'⟩: ∃w5,w5=(((((wy.setCell ⟨g,j*5,none⟩ (.int .i64 (-5 - (i:Int)))).setCell ⟨g,j*5+1,none⟩ (.int .i64 0)).setCell ⟨g,j*5+2,none⟩ (.string ⟨#[]⟩)).setCell ⟨g,j*5+3,none⟩ (.slice none 0 0)).setCell ⟨g,j*5+4,none⟩ (.int .i64 0)):=⟨_,rfl⟩
     rw[←hw5'] at K2 tS
     have HK5:Hid (MCz 29 5 w5 (.slice (some ⟨g,0,none⟩) n vc) n (mkT6 i) (j+1)∧Tch (fun k=>(Value.slice (some ⟨g,0,none⟩) n vc).ownBlock=some k) wx w5):=⟨K2,K.out.2.trans' tS⟩
     have HW5:Hid (w5=_):=hw5'
     clear K2 tS hw5' K
     go_upto_region 33 with(fail)
     rw[←HW5.out]
     clear hGy hfz hy0 hy1 hy2 hy3 hy4
     go_wp2_with fail
     go_roundg (n - (j+1))
     case measure=>omega
     case rel=>exact⟨j+1,by first|rfl|(congr 1;omega),by omega,by omega,HK5⟩
    ·have hj': ¬(j:Int)<(n:Int):=by omega
     have e1:j=n:=by omega
     have HJ2:Hid (LX wy 29 5 mkT6 X (i+1)∧HX wy 35 (some ⟨G,0,none⟩) m hc X∧Tch (fun g=> ∃(i:Nat) (x:Value×Nat),X[i]? =some x∧x.1.ownBlock=some g) wr wy):=by
      have k1:=K.out.1
      rw[e1] at k1
      exact⟨J.out.1.next HX0.out K.out.2 k1 rfl,J.out.2.1.tch K.out.2 (J.out.1.ty (by decide) HX0.out),J.out.2.2.trans K.out.2 (fun g _ e=>⟨i,_,HX0.out,e⟩)⟩
     clear K
     go_wp2_with fail
     go_roundg (m - (i+1))
     case measure=>omega
     case rel=>exact⟨i+1,by first|rfl|(congr 1;omega),by omega,by omega,HJ2⟩
  ·have hi': ¬(i:Int)<(m:Int):=by omega
   have e1:i=m:=by omega
   have HF:Hid (LX wx 29 5 mkT6 X m∧HX wx 35 ho m hc X∧Tch (fun g=> ∃(i:Nat) (x:Value×Nat),X[i]? =some x∧x.1.ownBlock=some g) wr wx):=by have h:=J.out;rw[e1] at h;exact h
   clear J
   go_wp2_with fail
   exact Hexit.out _ _ _ _ _ _ _ _ _ _ _ _ _ _ _ _ _ _ _ _ _ _ _ _ _ _ _ HF
theorem owned9 (wz:World) (G m hc:Nat) (X:List (Value×Nat)) (hm:m≤1000000) (Hn:Hid (∀x∈X,x.2≤1000000)) (HJ:Hid (0=([]:List Value).length∧GOx 24 58 3 mkR6 wz wz X G m hc 0 [] (.slice none 0 0))) (Q0:Exit→Act→World→Prop)
  (u0 u1 u2 u4 u5 u6 u7 u8 u9 gu gx gy gA gB gC gD gE gF gG gH gI gJ gK gL gM gN gO gP gQ gR gS gT gU gV gW gX gY gZ hH hU hZ i6 i7 i8 ia ib ic ie ig ii ij ik il im io ip iq ir iu iw ix iy iz iA iB iC iD iF iG iH iI iJ iK iL iM iN iO iP iQ iR iS iT iU iV iW iX iY iZ j5 j6 j7 j8 j9 ja jb jc jd aa ab ae af ah ai aj al am aq au av aw ax ay az aA aB aC aD aF aG aH aI aJ aK aL aM aN aO aP aQ aR aS aT aU aV aW aX aY aZ ba be bf bg bh bi bj bp bq br bu bv bw bz bC bD bE bF bG bH bI bJ bK bL bM bN bO bP bQ bS bT bU bW bX bY bZ cd ce cf cg ch ci ck cn cq cr ct cw cy cz cA cB cC cE cF cG cH cI cJ cK cL cM cN cP cQ cR cT cU cV cW cX cY cZ d8 d9 da de df dh di dj dk dl dm dn dp dq dr dt du dv dw dx dy dz dA dB dD dE dF dG dH dI dJ dK dL dM dN dO dP dQ dR dS dT dU dV dX dY dZ ed ee ef eh ei ej em es eu ex ey ez eA eB eD eE eF eH eI eJ eK eL eN eO eQ eR eS eT eU eV eW eX eY eZ fd fe ff fg fh fi fj fk fq fs fv fy fz fA fB fC fD fE fF fG fH fI fJ fK fL fM fN fO fP:Value)
  (Hexit:Hid (∀(je jf jg jh fQ fR fS fT fU fV fW fX fY fZ g7 g8 g9 gc gd gf gh gi gj gk gm gq gr:Value) (wx:World),(∃(L:Nat) (A:List Value) (ro:Option Addr) (rc:Nat),je= .slice ro L rc∧Hid (L=A.length∧GOx 24 58 3 mkR6 wz wx X G m hc m A (.slice ro L rc)))→Q0 (.exit 16) ⟨List.toArray (u0::u1::u2::(.slice (some ⟨G,0,none⟩) m hc)::u4::u5::u6::u7::u8::u9::gu::gx::gy::gA::(je)::(jf)::(jg)::(jh)::gD::gE::gF::gG::gH::gI::gJ::gK::gL::gM::gN::gO::gP::gQ::gR::gS::gT::gU::gV::gW::gX::gY::gZ::hH::hU::hZ::i6::i7::i8::ia::ib::ic::ie::ig::ii::ij::ik::il::im::io::ip::iq::ir::iu::iw::ix::iy::iz::iA::iB::iC::iD::iF::iG::iH::iI::iJ::iK::iL::iM::iN::iO::iP::iQ::iR::iS::iT::iU::iV::iW::iX::iY::iZ::j5::j6::j7::j8::j9::ja::jb::jc::jd::aa::ab::ae::af::ah::ai::aj::al::am::aq::au::av::aw::ax::ay::az::aA::aB::aC::aD::aF::aG::aH::aI::aJ::aK::aL::aM::aN::aO::aP::aQ::aR::aS::aT::aU::aV::aW::aX::aY::aZ::ba::be::bf::bg::bh::bi::bj::bp::bq::br::bu::bv::bw::bz::bC::bD::bE::bF::bG::bH::(fQ)::(fR)::(fS)::(fT)::(fU)::(fV)::(fW)::(fX)::(fY)::(fZ)::(g7)::(g8)::(g9)::(gc)::(gd)::(gf)::(gh)::(gi)::(gj)::(gk)::(gm)::(gq)::(gr)::cn::cq::cr::ct::cw::cy::cz::cA::cB::cC::cE::cF::cG::cH::cI::cJ::cK::cL::cM::cN::cP::cQ::cR::cT::cU::cV::cW::cX::cY::cZ::d8::d9::da::de::df::dh::di::dj::dk::dl::dm::dn::dp::dq::dr::dt::du::dv::dw::dx::dy::dz::dA::dB::dD::dE::dF::dG::dH::dI::dJ::dK::dL::dM::dN::dO::dP::dQ::dR::dS::dT::dU::dV::dX::dY::dZ::ed::ee::ef::eh::ei::ej::em::es::eu::ex::ey::ez::eA::eB::eD::eE::eF::eH::eI::eJ::eK::eL::eN::eO::eQ::eR::eS::eT::eU::eV::eW::eX::eY::eZ::fd::fe::ff::fg::fh::fi::fj::fk::fq::fs::fv::fy::fz::fA::fB::fC::fD::fE::fF::fG::fH::fI::fJ::fK::fL::fM::fN::fO::fP::[]),[]⟩ wx)):
  Code.wp Tryz.prog (Code.loop (owB 8)) Q0 ⟨List.toArray (u0::u1::u2::(.slice (some ⟨G,0,none⟩) m hc)::u4::u5::u6::u7::u8::u9::gu::gx::gy::gA::(.slice none 0 0)::(.int .i64 0)::gB::gC::gD::gE::gF::gG::gH::gI::gJ::gK::gL::gM::gN::gO::gP::gQ::gR::gS::gT::gU::gV::gW::gX::gY::gZ::hH::hU::hZ::i6::i7::i8::ia::ib::ic::ie::ig::ii::ij::ik::il::im::io::ip::iq::ir::iu::iw::ix::iy::iz::iA::iB::iC::iD::iF::iG::iH::iI::iJ::iK::iL::iM::iN::iO::iP::iQ::iR::iS::iT::iU::iV::iW::iX::iY::iZ::j5::j6::j7::j8::j9::ja::jb::jc::jd::aa::ab::ae::af::ah::ai::aj::al::am::aq::au::av::aw::ax::ay::az::aA::aB::aC::aD::aF::aG::aH::aI::aJ::aK::aL::aM::aN::aO::aP::aQ::aR::aS::aT::aU::aV::aW::aX::aY::aZ::ba::be::bf::bg::bh::bi::bj::bp::bq::br::bu::bv::bw::bz::bC::bD::bE::bF::bG::bH::bI::bJ::bK::bL::bM::bN::bO::bP::bQ::bS::bT::bU::bW::bX::bY::bZ::cd::ce::cf::cg::ch::ci::ck::cn::cq::cr::ct::cw::cy::cz::cA::cB::cC::cE::cF::cG::cH::cI::cJ::cK::cL::cM::cN::cP::cQ::cR::cT::cU::cV::cW::cX::cY::cZ::d8::d9::da::de::df::dh::di::dj::dk::dl::dm::dn::dp::dq::dr::dt::du::dv::dw::dx::dy::dz::dA::dB::dD::dE::dF::dG::dH::dI::dJ::dK::dL::dM::dN::dO::dP::dQ::dR::dS::dT::dU::dV::dX::dY::dZ::ed::ee::ef::eh::ei::ej::em::es::eu::ex::ey::ez::eA::eB::eD::eE::eF::eH::eI::eJ::eK::eL::eN::eO::eQ::eR::eS::eT::eU::eV::eW::eX::eY::eZ::fd::fe::ff::fg::fh::fi::fj::fk::fq::fs::fv::fy::fz::fA::fB::fC::fD::fE::fF::fG::fH::fI::fJ::fK::fL::fM::fN::fO::fP::[]),[]⟩ wz:=by
 conv=>arg 2;arg 1;whnf
 go_loopg [14,15,16,17] m (fun kx s14 s15 s16 s17 wx=> ∃(i L:Nat) (A:List Value) (ro:Option Addr) (rc:Nat),s14= .slice ro L rc∧s15= .int .i64 i∧m - i≤kx∧i≤m∧Hid (L=A.length∧GOx 24 58 3 mkR6 wz wx X G m hc i A (.slice ro L rc)))
 case atStart=>exact⟨0,0,[],none,0,rfl,rfl,by omega,by omega,HJ⟩
 case round=>
  rename World=>wx
  obtain⟨i,L,A,ro,rc,rfl,rfl,hkx,him,J⟩:=hrel
  by_cases hi:i<m
  ·have hi':(i:Int)<(m:Int):=by omega
   obtain⟨x,hx⟩: ∃x,X[i]? =some x:=⟨_,List.getElem?_eq_getElem (by have:=J.out.2.hx.1;omega)⟩
   obtain⟨v,n⟩:=x
   have hown:=J.out.2.rest i _ (Nat.le_refl _) hx
   obtain⟨vo,vc,hv⟩:=row_slice hown
   simp only at hv
   subst hv
   obtain⟨G',hG',hGc⟩:=J.out.2.hx.get hx
   have eG:G=G':=by simpa using hG'
   subst eG
   simp only at hGc
   have hn9:n≤1000000:=Hn.out _ (List.mem_of_getElem? hx)
   have HI:Hid (L=A.length∧GIx 24 58 3 mkR6 wz wx X G m hc i 0 0 n A (.slice ro L rc) (.slice vo n vc)):=⟨J.out.1,J.out.2.enter hx rfl⟩
   have hw5:IntKind.i64.wrap (-5 - (i:Int))= -5 - (i:Int):=by rw[IntKind.wrap_i64];omega
   clear hx hown J hG'
   go_wp2_with fail
   clear hGc
   go_loopg [14,16,17] 20 (fun kx s14 s16 s17 wy=> ∃(k L N:Nat) (A:List Value) (ro:Option Addr) (rc:Nat) (xo:Option Addr) (xc:Nat),s14= .slice ro L rc∧s16= .slice xo N xc∧s17= .int .i64 k∧20 - k≤kx∧k≤20∧Hid (L=A.length∧N=n+k∧GIx 24 58 3 mkR6 wz wy X G m hc i k k n A (.slice ro L rc) (.slice xo N xc)))
   case atStart=>exact⟨0,L,n,A,ro,rc,vo,vc,rfl,rfl,rfl,by omega,by omega,(⟨HI.out.1,rfl,HI.out.2⟩:L=A.length∧n=n+0∧GIx 24 58 3 mkR6 wz wx X G m hc i 0 0 n A (.slice ro L rc) (.slice vo n vc))⟩
   case round=>
    rename World=>wy
    obtain⟨k,L1,N1,A1,ro1,rc1,xo1,xc1,rfl,rfl,rfl,hkk,hk20,K⟩:=hrel
    by_cases hk:k<20
    ·have hk':(k:Int)<20:=by omega
     obtain⟨ro2,rc2,w1,hr1,K1⟩:=K.out.2.2.one 104 Tryz.underlying104 (by kernel_rfl) rfl hk (by omega) hn9 (by omega)
     rw[←K.out.1] at hr1 K1
     obtain⟨xo2,xc2,w2,hr2,K2⟩:=K1.two 24 Tryz.underlying24 info_val rfl (by decide) (by decide) (fun u hu=>by
      simp only[mkR6,List.mem_cons,List.not_mem_nil,or_false] at hu
      rcases hu with rfl|rfl|rfl<;>rfl) (fun _=>rfl) hk hn9
     have hr1':(Builtin.append_ #[104,104] 104 #[.slice ro1 L1 rc1,.slice (some ⟨wy.heap.size,0,none⟩) 1 1]).run Tryz.prog (wy.alloc (.cells #[.slice xo1 N1 xc1] 24))= .ok (.slice ro2 (L1+1) rc2) w1:=hr1
     have hr2':(Builtin.append_ #[24,24] 24 #[.slice xo1 N1 xc1,.slice (some ⟨w1.heap.size,0,none⟩) 1 1]).run Tryz.prog (w1.alloc (.cells #[.int .i64 (-5),.int .i64 (i:Int),.string ⟨#[]⟩] 58))= .ok (.slice xo2 (n+k+1) xc2) w2:=hr2
     have HK2:Hid (L1+1=(A1++[Value.slice xo1 N1 xc1]).length∧n+k+1=n+(k+1)∧GIx 24 58 3 mkR6 wz w2 X G m hc i (k+1) (k+1) n (A1++[.slice xo1 N1 xc1]) (.slice ro2 (L1+1) rc2) (.slice xo2 (n+k+1) xc2)):=⟨by rw[List.length_append, ←K.out.1];rfl,by omega,K2⟩
     have HR1:Hid _:=hr1'
     have HR2:Hid _:=hr2'
     clear hr1 hr2 hr1' hr2' K1 K2 K HI
     go_upto_region 44 with(at_builtin;refine wpList_app9 _ rfl _ _ 104 rfl rfl _ _ rfl rfl HR1.out ?_)
     go_upto_region 42 with(at_builtin;refine wpList_app9 _ rfl _ _ 24 rfl rfl _ _ rfl rfl HR2.out ?_)
     go_wp2_with fail
     go_roundg (20 - (k+1))
     case measure=>omega
     case rel=>exact⟨k+1,_,_,_,_,_,_,_,rfl,rfl,by first|rfl|(congr 1;omega),by omega,by omega,HK2⟩
    ·have hk': ¬(k:Int)<20:=by omega
     have e1:k=20:=by omega
     have HJ2:Hid (L1=A1.length∧GOx 24 58 3 mkR6 wz wy X G m hc (i+1) A1 (.slice ro1 L1 rc1)):=by
      have k1:=K.out.2.2
      rw[e1] at k1
      exact⟨K.out.1,k1.leave⟩
     clear K HI
     go_wp2_with fail
     go_roundg (m - (i+1))
     case measure=>omega
     case rel=>exact⟨i+1,_,_,_,_,rfl,by first|rfl|(congr 1;omega),by omega,by omega,HJ2⟩
  ·have hi': ¬(i:Int)<(m:Int):=by omega
   have e1:i=m:=by omega
   have HF:Hid (L=A.length∧GOx 24 58 3 mkR6 wz wx X G m hc m A (.slice ro L rc)):=by have h:=J.out;rw[e1] at h;exact h
   clear J
   go_wp2_with fail
   exact Hexit.out _ _ _ _ _ _ _ _ _ _ _ _ _ _ _ _ _ _ _ _ _ _ _ _ _ _ _ _ ⟨L,A,ro,rc,rfl,HF⟩
theorem owned11 (wz:World) (G m hc:Nat) (X:List (Value×Nat)) (hm:m≤1000000) (Hn:Hid (∀x∈X,x.2≤1000000)) (HJ:Hid (0=([]:List Value).length∧GOx 22 43 3 mkL6 wz wz X G m hc 0 [] (.slice none 0 0))) (Q0:Exit→Act→World→Prop)
  (u0 u1 u2 u3 u5 u6 u7 u8 u9 gx gy gA gB gC gD gE gF gG gH gI gJ gK gL gM gN gO gP gQ gR gS gT gU gV gW gX gY gZ hH hU hZ i6 i7 i8 ia ib ic ie ig ii ij ik il im io ip iq ir iu iw ix iy iz iA iB iC iD iF iG iH iI iJ iK iL iM iN iO iP iQ iR iS iT iU iV iW iX iY iZ j5 j6 j7 j8 j9 ja jb jc jd je aa ab ae af ah ai aj al am aq au av aw ax ay az aA aB aC aD aF aG aH aI aJ aK aL aM aN aO aP aQ aR aS aT aU aV aW aX aY aZ ba be bf bg bh bi bj bp bq br bu bv bw bz bC bD bE bF bG bH bI bJ bK bL bM bN bO bP bQ bS bT bU bW bX bY bZ cd ce cf cg ch ci ck cn cq cr ct cw cy cz cA cB cC cE cF cG cH cI cJ cK cL cM cN cP cQ cR cT cU cV cW cX cY cZ d8 d9 da de df dh di dj dk dl dm dn dp dq dr dt du dv dw dx dy dz dA dB dD dE dF dG dH dI dJ dK dL dM dN dO dP dQ dR dS dT dU dV dX dY dZ ed ee ef eh ei ej em es eu ex ey ez eA eB eD eE eF eH eI eJ eK eL eN eO eQ eR eS eT eU eV eW eX eY eZ fd fe ff fg fh fi fj fk fq fs fv fy fz fA fB fC fD fE fF fG fH fI fJ fK fL fM fN fO fP:Value)
  (Hexit:Hid (∀(jf jg jh ji fQ fR fS fT fU fV fW fX fY fZ g7 g8 g9 gc gd gf gh gi gj gk gm gq gr gu:Value) (wx:World),(∃(L:Nat) (A:List Value) (ro:Option Addr) (rc:Nat),jf= .slice ro L rc∧Hid (L=A.length∧GOx 22 43 3 mkL6 wz wx X G m hc m A (.slice ro L rc)))→Q0 (.exit 20) ⟨List.toArray (u0::u1::u2::u3::(.slice (some ⟨G,0,none⟩) m hc)::u5::u6::u7::u8::u9::gx::gy::gA::gB::gC::gD::gE::gF::(jf)::(jg)::(jh)::(ji)::gI::gJ::gK::gL::gM::gN::gO::gP::gQ::gR::gS::gT::gU::gV::gW::gX::gY::gZ::hH::hU::hZ::i6::i7::i8::ia::ib::ic::ie::ig::ii::ij::ik::il::im::io::ip::iq::ir::iu::iw::ix::iy::iz::iA::iB::iC::iD::iF::iG::iH::iI::iJ::iK::iL::iM::iN::iO::iP::iQ::iR::iS::iT::iU::iV::iW::iX::iY::iZ::j5::j6::j7::j8::j9::ja::jb::jc::jd::je::aa::ab::ae::af::ah::ai::aj::al::am::aq::au::av::aw::ax::ay::az::aA::aB::aC::aD::aF::aG::aH::aI::aJ::aK::aL::aM::aN::aO::aP::aQ::aR::aS::aT::aU::aV::aW::aX::aY::aZ::ba::be::bf::bg::bh::bi::bj::bp::bq::br::bu::bv::bw::bz::bC::bD::bE::bF::bG::bH::bI::bJ::bK::bL::bM::bN::bO::bP::bQ::bS::bT::bU::bW::bX::bY::bZ::cd::ce::cf::cg::ch::ci::ck::(fQ)::(fR)::(fS)::(fT)::(fU)::(fV)::(fW)::(fX)::(fY)::(fZ)::(g7)::(g8)::(g9)::(gc)::(gd)::(gf)::(gh)::(gi)::(gj)::(gk)::(gm)::(gq)::(gr)::(gu)::cU::cV::cW::cX::cY::cZ::d8::d9::da::de::df::dh::di::dj::dk::dl::dm::dn::dp::dq::dr::dt::du::dv::dw::dx::dy::dz::dA::dB::dD::dE::dF::dG::dH::dI::dJ::dK::dL::dM::dN::dO::dP::dQ::dR::dS::dT::dU::dV::dX::dY::dZ::ed::ee::ef::eh::ei::ej::em::es::eu::ex::ey::ez::eA::eB::eD::eE::eF::eH::eI::eJ::eK::eL::eN::eO::eQ::eR::eS::eT::eU::eV::eW::eX::eY::eZ::fd::fe::ff::fg::fh::fi::fj::fk::fq::fs::fv::fy::fz::fA::fB::fC::fD::fE::fF::fG::fH::fI::fJ::fK::fL::fM::fN::fO::fP::[]),[]⟩ wx)):
  Code.wp Tryz.prog (Code.loop (owB 10)) Q0 ⟨List.toArray (u0::u1::u2::u3::(.slice (some ⟨G,0,none⟩) m hc)::u5::u6::u7::u8::u9::gx::gy::gA::gB::gC::gD::gE::gF::(.slice none 0 0)::(.int .i64 0)::gG::gH::gI::gJ::gK::gL::gM::gN::gO::gP::gQ::gR::gS::gT::gU::gV::gW::gX::gY::gZ::hH::hU::hZ::i6::i7::i8::ia::ib::ic::ie::ig::ii::ij::ik::il::im::io::ip::iq::ir::iu::iw::ix::iy::iz::iA::iB::iC::iD::iF::iG::iH::iI::iJ::iK::iL::iM::iN::iO::iP::iQ::iR::iS::iT::iU::iV::iW::iX::iY::iZ::j5::j6::j7::j8::j9::ja::jb::jc::jd::je::aa::ab::ae::af::ah::ai::aj::al::am::aq::au::av::aw::ax::ay::az::aA::aB::aC::aD::aF::aG::aH::aI::aJ::aK::aL::aM::aN::aO::aP::aQ::aR::aS::aT::aU::aV::aW::aX::aY::aZ::ba::be::bf::bg::bh::bi::bj::bp::bq::br::bu::bv::bw::bz::bC::bD::bE::bF::bG::bH::bI::bJ::bK::bL::bM::bN::bO::bP::bQ::bS::bT::bU::bW::bX::bY::bZ::cd::ce::cf::cg::ch::ci::ck::cn::cq::cr::ct::cw::cy::cz::cA::cB::cC::cE::cF::cG::cH::cI::cJ::cK::cL::cM::cN::cP::cQ::cR::cT::cU::cV::cW::cX::cY::cZ::d8::d9::da::de::df::dh::di::dj::dk::dl::dm::dn::dp::dq::dr::dt::du::dv::dw::dx::dy::dz::dA::dB::dD::dE::dF::dG::dH::dI::dJ::dK::dL::dM::dN::dO::dP::dQ::dR::dS::dT::dU::dV::dX::dY::dZ::ed::ee::ef::eh::ei::ej::em::es::eu::ex::ey::ez::eA::eB::eD::eE::eF::eH::eI::eJ::eK::eL::eN::eO::eQ::eR::eS::eT::eU::eV::eW::eX::eY::eZ::fd::fe::ff::fg::fh::fi::fj::fk::fq::fs::fv::fy::fz::fA::fB::fC::fD::fE::fF::fG::fH::fI::fJ::fK::fL::fM::fN::fO::fP::[]),[]⟩ wz:=by
 conv=>arg 2;arg 1;whnf
 go_loopg [18,19,20,21] m (fun kx s18 s19 s20 s21 wx=> ∃(i L:Nat) (A:List Value) (ro:Option Addr) (rc:Nat),s18= .slice ro L rc∧s19= .int .i64 i∧m - i≤kx∧i≤m∧Hid (L=A.length∧GOx 22 43 3 mkL6 wz wx X G m hc i A (.slice ro L rc)))
 case atStart=>exact⟨0,0,[],none,0,rfl,rfl,by omega,by omega,HJ⟩
 case round=>
  rename World=>wx
  obtain⟨i,L,A,ro,rc,rfl,rfl,hkx,him,J⟩:=hrel
  by_cases hi:i<m
  ·have hi':(i:Int)<(m:Int):=by omega
   obtain⟨x,hx⟩: ∃x,X[i]? =some x:=⟨_,List.getElem?_eq_getElem (by have:=J.out.2.hx.1;omega)⟩
   obtain⟨v,n⟩:=x
   have hown:=J.out.2.rest i _ (Nat.le_refl _) hx
   obtain⟨vo,vc,hv⟩:=row_slice hown
   simp only at hv
   subst hv
   obtain⟨G',hG',hGc⟩:=J.out.2.hx.get hx
   have eG:G=G':=by simpa using hG'
   subst eG
   simp only at hGc
   have hn9:n≤1000000:=Hn.out _ (List.mem_of_getElem? hx)
   have HI:Hid (L=A.length∧GIx 22 43 3 mkL6 wz wx X G m hc i 0 0 n A (.slice ro L rc) (.slice vo n vc)):=⟨J.out.1,J.out.2.enter hx rfl⟩
   have hw5:IntKind.i64.wrap (-5 - (i:Int))= -5 - (i:Int):=by rw[IntKind.wrap_i64];omega
   clear hx hown J hG'
   go_wp2_with fail
   clear hGc
   go_loopg [18,20,21] 20 (fun kx s18 s20 s21 wy=> ∃(k L N:Nat) (A:List Value) (ro:Option Addr) (rc:Nat) (xo:Option Addr) (xc:Nat),s18= .slice ro L rc∧s20= .slice xo N xc∧s21= .int .i64 k∧20 - k≤kx∧k≤20∧Hid (L=A.length∧N=n+k∧GIx 22 43 3 mkL6 wz wy X G m hc i k k n A (.slice ro L rc) (.slice xo N xc)))
   case atStart=>exact⟨0,L,n,A,ro,rc,vo,vc,rfl,rfl,rfl,by omega,by omega,(⟨HI.out.1,rfl,HI.out.2⟩:L=A.length∧n=n+0∧GIx 22 43 3 mkL6 wz wx X G m hc i 0 0 n A (.slice ro L rc) (.slice vo n vc))⟩
   case round=>
    rename World=>wy
    obtain⟨k,L1,N1,A1,ro1,rc1,xo1,xc1,rfl,rfl,rfl,hkk,hk20,K⟩:=hrel
    by_cases hk:k<20
    ·have hk':(k:Int)<20:=by omega
     obtain⟨ro2,rc2,w1,hr1,K1⟩:=K.out.2.2.one 105 Tryz.underlying105 (by kernel_rfl) rfl hk (by omega) hn9 (by omega)
     rw[←K.out.1] at hr1 K1
     obtain⟨xo2,xc2,w2,hr2,K2⟩:=K1.two 22 Tryz.underlying22 info_col rfl (by decide) (by decide) (fun u hu=>by
      simp only[mkL6,List.mem_cons,List.not_mem_nil,or_false] at hu
      rcases hu with rfl|rfl|rfl<;>rfl) (fun _=>rfl) hk hn9
     have hr1':(Builtin.append_ #[105,105] 105 #[.slice ro1 L1 rc1,.slice (some ⟨wy.heap.size,0,none⟩) 1 1]).run Tryz.prog (wy.alloc (.cells #[.slice xo1 N1 xc1] 22))= .ok (.slice ro2 (L1+1) rc2) w1:=hr1
     have hr2':(Builtin.append_ #[22,22] 22 #[.slice xo1 N1 xc1,.slice (some ⟨w1.heap.size,0,none⟩) 1 1]).run Tryz.prog (w1.alloc (.cells #[.string ⟨#[]⟩,.int .i64 (-5 - (i:Int)),.bool false] 43))= .ok (.slice xo2 (n+k+1) xc2) w2:=hr2
     have HK2:Hid (L1+1=(A1++[Value.slice xo1 N1 xc1]).length∧n+k+1=n+(k+1)∧GIx 22 43 3 mkL6 wz w2 X G m hc i (k+1) (k+1) n (A1++[.slice xo1 N1 xc1]) (.slice ro2 (L1+1) rc2) (.slice xo2 (n+k+1) xc2)):=⟨by rw[List.length_append, ←K.out.1];rfl,by omega,K2⟩
     have HR1:Hid _:=hr1'
     have HR2:Hid _:=hr2'
     clear hr1 hr2 hr1' hr2' K1 K2 K HI
     go_upto_region 54 with(at_builtin;refine wpList_app9 _ rfl _ _ 105 rfl rfl _ _ rfl rfl HR1.out ?_)
     go_upto_region 52 with(at_builtin;refine wpList_app9 _ rfl _ _ 22 rfl rfl _ _ rfl rfl HR2.out ?_)
     go_wp2_with fail
     go_roundg (20 - (k+1))
     case measure=>omega
     case rel=>exact⟨k+1,_,_,_,_,_,_,_,rfl,rfl,by first|rfl|(congr 1;omega),by omega,by omega,HK2⟩
    ·have hk': ¬(k:Int)<20:=by omega
     have e1:k=20:=by omega
     have HJ2:Hid (L1=A1.length∧GOx 22 43 3 mkL6 wz wy X G m hc (i+1) A1 (.slice ro1 L1 rc1)):=by
      have k1:=K.out.2.2
      rw[e1] at k1
      exact⟨K.out.1,k1.leave⟩
     clear K HI
     go_wp2_with fail
     go_roundg (m - (i+1))
     case measure=>omega
     case rel=>exact⟨i+1,_,_,_,_,rfl,by first|rfl|(congr 1;omega),by omega,by omega,HJ2⟩
  ·have hi': ¬(i:Int)<(m:Int):=by omega
   have e1:i=m:=by omega
   have HF:Hid (L=A.length∧GOx 22 43 3 mkL6 wz wx X G m hc m A (.slice ro L rc)):=by have h:=J.out;rw[e1] at h;exact h
   clear J
   go_wp2_with fail
   exact Hexit.out _ _ _ _ _ _ _ _ _ _ _ _ _ _ _ _ _ _ _ _ _ _ _ _ _ _ _ _ _ ⟨L,A,ro,rc,rfl,HF⟩
end Go.Proofs.YtaiadknglhemaaaGreatDoor.C
