import Derived.Test.YtaiadknglhemaaaGreatDoorRV3
set_option maxHeartbeats 8000000
set_option maxRecDepth 1000000
namespace Go.Proofs.YtaiadknglhemaaaGreatDoor.C
open Go.RowKit Go Go.Sort
theorem owned13 (wz:World) (G m hc:Nat) (X:List (Value×Nat)) (hm:m≤1000000) (Hn:Hid (∀x∈X,x.2≤1000000)) (HJ:Hid (0=([]:List Value).length∧GOx 35 29 5 mkT6 wz wz X G m hc 0 [] (.slice none 0 0))) (Q0:Exit→Act→World→Prop)
  (u0 u1 u2 u3 u4 u6 u7 u8 u9 gx gy gA gB gC gD gE gF gG gH gI gJ gK gL gM gN gO gP gQ gR gS gT gU gV gW gX gY gZ hH hU hZ i6 i7 i8 ia ib ic ie ig ii ij ik il im io ip iq ir iu iw ix iy iz iA iB iC iD iF iG iH iI iJ iK iL iM iN iO iP iQ iR iS iT iU iV iW iX iY iZ j5 j6 j7 j8 j9 ja jb jc jd je aa ab ae af ah ai aj al am aq au av aw ax ay az aA aB aC aD aF aG aH aI aJ aK aL aM aN aO aP aQ aR aS aT aU aV aW aX aY aZ ba be bf bg bh bi bj bp bq br bu bv bw bz bC bD bE bF bG bH bI bJ bK bL bM bN bO bP bQ bS bT bU bW bX bY bZ cd ce cf cg ch ci ck cn cq cr ct cw cy cz cA cB cC cE cF cG cH cI cJ cK cL cM cN cP cQ cR cT cU cV cW cX cY cZ d8 d9 da de df dh di dj dk dl dm dn dp dq dr dt du dv dw dx dy dz dA dB dD dE dF dG dH dI dJ dK dL dM dN dO dP dQ dR dS dT dU dV dX dY dZ ed ee ef eh ei ej em es eu ex ey ez eA eB eD eE eF eH eI eJ eK eL eN eO eQ eR eS eT eU eV eW eX eY eZ fd fe ff fg fh fi fj fk fq fs fv fy fz fA fB fC fD fE fF fG fH fI fJ fK fL fM fN fO fP:Value)
  (Hexit:Hid (∀(jf jg jh ji fQ fR fS fT fU fV fW fX fY fZ g7 g8 g9 gc gd gf gh gi gj gk gm gq gr gu:Value) (wx:World),(∃(L:Nat) (A:List Value) (ro:Option Addr) (rc:Nat),jf= .slice ro L rc∧Hid (L=A.length∧GOx 35 29 5 mkT6 wz wx X G m hc m A (.slice ro L rc)))→Q0 (.exit 24) ⟨List.toArray (u0::u1::u2::u3::u4::(.slice (some ⟨G,0,none⟩) m hc)::u6::u7::u8::u9::gx::gy::gA::gB::gC::gD::gE::gF::gG::gH::gI::gJ::(jf)::(jg)::(jh)::(ji)::gM::gN::gO::gP::gQ::gR::gS::gT::gU::gV::gW::gX::gY::gZ::hH::hU::hZ::i6::i7::i8::ia::ib::ic::ie::ig::ii::ij::ik::il::im::io::ip::iq::ir::iu::iw::ix::iy::iz::iA::iB::iC::iD::iF::iG::iH::iI::iJ::iK::iL::iM::iN::iO::iP::iQ::iR::iS::iT::iU::iV::iW::iX::iY::iZ::j5::j6::j7::j8::j9::ja::jb::jc::jd::je::aa::ab::ae::af::ah::ai::aj::al::am::aq::au::av::aw::ax::ay::az::aA::aB::aC::aD::aF::aG::aH::aI::aJ::aK::aL::aM::aN::aO::aP::aQ::aR::aS::aT::aU::aV::aW::aX::aY::aZ::ba::be::bf::bg::bh::bi::bj::bp::bq::br::bu::bv::bw::bz::bC::bD::bE::bF::bG::bH::bI::bJ::bK::bL::bM::bN::bO::bP::bQ::bS::bT::bU::bW::bX::bY::bZ::cd::ce::cf::cg::ch::ci::ck::cn::cq::cr::ct::cw::cy::cz::cA::cB::cC::cE::cF::cG::cH::cI::cJ::cK::cL::cM::cN::cP::cQ::cR::cT::(fQ)::(fR)::(fS)::(fT)::(fU)::(fV)::(fW)::(fX)::(fY)::(fZ)::(g7)::(g8)::(g9)::(gc)::(gd)::(gf)::(gh)::(gi)::(gj)::(gk)::(gm)::(gq)::(gr)::(gu)::dw::dx::dy::dz::dA::dB::dD::dE::dF::dG::dH::dI::dJ::dK::dL::dM::dN::dO::dP::dQ::dR::dS::dT::dU::dV::dX::dY::dZ::ed::ee::ef::eh::ei::ej::em::es::eu::ex::ey::ez::eA::eB::eD::eE::eF::eH::eI::eJ::eK::eL::eN::eO::eQ::eR::eS::eT::eU::eV::eW::eX::eY::eZ::fd::fe::ff::fg::fh::fi::fj::fk::fq::fs::fv::fy::fz::fA::fB::fC::fD::fE::fF::fG::fH::fI::fJ::fK::fL::fM::fN::fO::fP::[]),[]⟩ wx)):
  Code.wp Tryz.prog (Code.loop (owB 12)) Q0 ⟨List.toArray (u0::u1::u2::u3::u4::(.slice (some ⟨G,0,none⟩) m hc)::u6::u7::u8::u9::gx::gy::gA::gB::gC::gD::gE::gF::gG::gH::gI::gJ::(.slice none 0 0)::(.int .i64 0)::gK::gL::gM::gN::gO::gP::gQ::gR::gS::gT::gU::gV::gW::gX::gY::gZ::hH::hU::hZ::i6::i7::i8::ia::ib::ic::ie::ig::ii::ij::ik::il::im::io::ip::iq::ir::iu::iw::ix::iy::iz::iA::iB::iC::iD::iF::iG::iH::iI::iJ::iK::iL::iM::iN::iO::iP::iQ::iR::iS::iT::iU::iV::iW::iX::iY::iZ::j5::j6::j7::j8::j9::ja::jb::jc::jd::je::aa::ab::ae::af::ah::ai::aj::al::am::aq::au::av::aw::ax::ay::az::aA::aB::aC::aD::aF::aG::aH::aI::aJ::aK::aL::aM::aN::aO::aP::aQ::aR::aS::aT::aU::aV::aW::aX::aY::aZ::ba::be::bf::bg::bh::bi::bj::bp::bq::br::bu::bv::bw::bz::bC::bD::bE::bF::bG::bH::bI::bJ::bK::bL::bM::bN::bO::bP::bQ::bS::bT::bU::bW::bX::bY::bZ::cd::ce::cf::cg::ch::ci::ck::cn::cq::cr::ct::cw::cy::cz::cA::cB::cC::cE::cF::cG::cH::cI::cJ::cK::cL::cM::cN::cP::cQ::cR::cT::cU::cV::cW::cX::cY::cZ::d8::d9::da::de::df::dh::di::dj::dk::dl::dm::dn::dp::dq::dr::dt::du::dv::dw::dx::dy::dz::dA::dB::dD::dE::dF::dG::dH::dI::dJ::dK::dL::dM::dN::dO::dP::dQ::dR::dS::dT::dU::dV::dX::dY::dZ::ed::ee::ef::eh::ei::ej::em::es::eu::ex::ey::ez::eA::eB::eD::eE::eF::eH::eI::eJ::eK::eL::eN::eO::eQ::eR::eS::eT::eU::eV::eW::eX::eY::eZ::fd::fe::ff::fg::fh::fi::fj::fk::fq::fs::fv::fy::fz::fA::fB::fC::fD::fE::fF::fG::fH::fI::fJ::fK::fL::fM::fN::fO::fP::[]),[]⟩ wz:=by
 conv=>arg 2;arg 1;whnf
 go_loopg [22,23,24,25] m (fun kx s22 s23 s24 s25 wx=> ∃(i L:Nat) (A:List Value) (ro:Option Addr) (rc:Nat),s22= .slice ro L rc∧s23= .int .i64 i∧m - i≤kx∧i≤m∧Hid (L=A.length∧GOx 35 29 5 mkT6 wz wx X G m hc i A (.slice ro L rc)))
 case atStart=>exact⟨0,0,[],none,0,rfl,rfl,by omega,by omega,HJ⟩
 case round=>
  rename World=>wx
  obtain⟨i,L,A,ro,rc,rfl,rfl,hkx,him,J⟩:=hrel
  by_cases hi:i<m
  ·have hi':(i:Int)<(m:Int):=by omega
   obtain⟨x,hx⟩: ∃x,X[i]? =some x:=⟨_,List.getElem?_eq_getElem (by have:=J.out.2.hx.1;omega)⟩
   obtain⟨v,n⟩:=x
   have hown:=J.out.2.rest i _ (Nat.le_refl _) hx
   obtain⟨vo,vc,hv⟩:=row_slice hown
   simp only at hv
   subst hv
   obtain⟨G',hG',hGc⟩:=J.out.2.hx.get hx
   have eG:G=G':=by simpa using hG'
   subst eG
   simp only at hGc
   have hn9:n≤1000000:=Hn.out _ (List.mem_of_getElem? hx)
   have HI:Hid (L=A.length∧GIx 35 29 5 mkT6 wz wx X G m hc i 0 0 n A (.slice ro L rc) (.slice vo n vc)):=⟨J.out.1,J.out.2.enter hx rfl⟩
   have hw5:IntKind.i64.wrap (-5 - (i:Int))= -5 - (i:Int):=by rw[IntKind.wrap_i64];omega
   clear hx hown J hG'
   go_wp2_with fail
   clear hGc
   go_loopg [22,24,25] 20 (fun kx s22 s24 s25 wy=> ∃(k L N:Nat) (A:List Value) (ro:Option Addr) (rc:Nat) (xo:Option Addr) (xc:Nat),s22= .slice ro L rc∧s24= .slice xo N xc∧s25= .int .i64 k∧20 - k≤kx∧k≤20∧Hid (L=A.length∧N=n+k∧GIx 35 29 5 mkT6 wz wy X G m hc i k k n A (.slice ro L rc) (.slice xo N xc)))
   case atStart=>exact⟨0,L,n,A,ro,rc,vo,vc,rfl,rfl,rfl,by omega,by omega,(⟨HI.out.1,rfl,HI.out.2⟩:L=A.length∧n=n+0∧GIx 35 29 5 mkT6 wz wx X G m hc i 0 0 n A (.slice ro L rc) (.slice vo n vc))⟩
   case round=>
    rename World=>wy
    obtain⟨k,L1,N1,A1,ro1,rc1,xo1,xc1,rfl,rfl,rfl,hkk,hk20,K⟩:=hrel
    by_cases hk:k<20
    ·have hk':(k:Int)<20:=by omega
     obtain⟨ro2,rc2,w1,hr1,K1⟩:=K.out.2.2.one 106 Tryz.underlying106 (by kernel_rfl) rfl hk (by omega) hn9 (by omega)
     rw[←K.out.1] at hr1 K1
     obtain⟨xo2,xc2,w2,hr2,K2⟩:=K1.two 35 Tryz.underlying35 info_tbl rfl (by decide) (by decide) (fun u hu=>by
      simp only[mkT6,List.mem_cons,List.not_mem_nil,or_false] at hu
      rcases hu with rfl|rfl|rfl|rfl|rfl<;>rfl) (fun _=>rfl) hk hn9
     have hr1':(Builtin.append_ #[106,106] 106 #[.slice ro1 L1 rc1,.slice (some ⟨wy.heap.size,0,none⟩) 1 1]).run Tryz.prog (wy.alloc (.cells #[.slice xo1 N1 xc1] 35))= .ok (.slice ro2 (L1+1) rc2) w1:=hr1
     have hr2':(Builtin.append_ #[35,35] 35 #[.slice xo1 N1 xc1,.slice (some ⟨w1.heap.size,0,none⟩) 1 1]).run Tryz.prog (w1.alloc (.cells #[.int .i64 (-5 - (i:Int)),.int .i64 0,.string ⟨#[]⟩,.slice none 0 0,.int .i64 0] 29))= .ok (.slice xo2 (n+k+1) xc2) w2:=hr2
     have HK2:Hid (L1+1=(A1++[Value.slice xo1 N1 xc1]).length∧n+k+1=n+(k+1)∧GIx 35 29 5 mkT6 wz w2 X G m hc i (k+1) (k+1) n (A1++[.slice xo1 N1 xc1]) (.slice ro2 (L1+1) rc2) (.slice xo2 (n+k+1) xc2)):=⟨by rw[List.length_append, ←K.out.1];rfl,by omega,K2⟩
     have HR1:Hid _:=hr1'
     have HR2:Hid _:=hr2'
     clear hr1 hr2 hr1' hr2' K1 K2 K HI
     go_upto_region 64 with(at_builtin;refine wpList_app9 _ rfl _ _ 106 rfl rfl _ _ rfl rfl HR1.out ?_)
     go_upto_region 62 with(at_builtin;refine wpList_app9 _ rfl _ _ 35 rfl rfl _ _ rfl rfl HR2.out ?_)
     go_wp2_with fail
     go_roundg (20 - (k+1))
     case measure=>omega
     case rel=>exact⟨k+1,_,_,_,_,_,_,_,rfl,rfl,by first|rfl|(congr 1;omega),by omega,by omega,HK2⟩
    ·have hk': ¬(k:Int)<20:=by omega
     have e1:k=20:=by omega
     have HJ2:Hid (L1=A1.length∧GOx 35 29 5 mkT6 wz wy X G m hc (i+1) A1 (.slice ro1 L1 rc1)):=by
      have k1:=K.out.2.2
      rw[e1] at k1
      exact⟨K.out.1,k1.leave⟩
     clear K HI
     go_wp2_with fail
     go_roundg (m - (i+1))
     case measure=>omega
     case rel=>exact⟨i+1,_,_,_,_,rfl,by first|rfl|(congr 1;omega),by omega,by omega,HJ2⟩
  ·have hi': ¬(i:Int)<(m:Int):=by omega
   have e1:i=m:=by omega
   have HF:Hid (L=A.length∧GOx 35 29 5 mkT6 wz wx X G m hc m A (.slice ro L rc)):=by have h:=J.out;rw[e1] at h;exact h
   clear J
   go_wp2_with fail
   exact Hexit.out _ _ _ _ _ _ _ _ _ _ _ _ _ _ _ _ _ _ _ _ _ _ _ _ _ _ _ _ _ ⟨L,A,ro,rc,rfl,HF⟩
theorem owned15 (wr:World) (L rc:Nat) (ro:Option Addr) (hL:L≤1000000000) (HR:Hid (∀j,j<L→ ∃G xo m xc,ro=some ⟨G,0,none⟩∧wr.cell? ⟨G,j,none⟩=some (.slice xo m xc)∧m≤1099511627776∧ ∀q,q<m→ ∃g,xo=some ⟨g,0,none⟩∧ ∀i u,(mkR6 (j / 20))[i]? =some u→wr.cell? ⟨g,q*3+i,none⟩=some u)) (Q0:Exit→Act→World→Prop)
  (u0 u1 u2 u3 u4 u5 u6 u7 u8 u9 gL gM gN gO gP gQ gR gS gT gU gV gW gX gY gZ hH hU hZ i6 i7 i8 ia ib ic ie ig ii ij ik il im io ip iq ir iu iw ix iy iz iA iB iC iD iF iG iH iI iJ iK iL iM iN iO iP iQ iR iS iT iU iV iW iX iY iZ j5 j6 j7 j8 j9 ja jb jc jd je jf jg jh ji jj jk jl jm jn jo jp jq jr aa ab ae af ah ai aj al am aq au av aw ax ay az aA aB aC aD aF aG aH aI aJ aK aL aM aN aO aP aQ aR aS aT aU aV aW aX aY aZ ba be bf bg bh bi bj bp bq br bu bv bw bz bC bD bE bF bG bH bI bJ bK bL bM bN bO bP bQ bS bT bU bW bX bY bZ cd ce cf cg ch ci ck cn cq cr ct cw cy cz cA cB cC cE cF cG cH cI cJ cK cL cM cN cP cQ cR cT cU cV cW cX cY cZ d8 d9 da de df dh di dj dk dl dm dn dp dq dr dt du dv dw dx dy dz dA dB dD dE dF dG dH dI dJ dK dL dM dN dO dP dQ dR dS dT dU dV dX dY dZ ed ee ef eh ei ej em es eu ex ey ez eA eB eD eE eF eH eI eJ eK eL eN eO eQ eR eS eT eU eV eW eX eY eZ fd fe ff fg fh fi fj fk fq fs fv fy fz fA fB fC fD fE fF fG fH fI fJ fK fL fM fN fO fP:Value)
  (Hexit:Hid (∀(v2 js jt fQ fR fS fT fU fV fW fX fY fZ g7 g8 g9 gc gd gf gh gi gj gk gm gq gr gu gx gy gA gB gC gD gE gF gG gH gI gJ gK:Value) (wx:World),wx=wr→Q0 (.exit 28) ⟨List.toArray (u0::u1::(v2)::u3::u4::u5::u6::u7::u8::u9::gL::gM::gN::gO::(.slice ro L rc)::gP::gQ::gR::gS::gT::gU::gV::gW::gX::gY::gZ::(js)::(jt)::hU::hZ::i6::i7::i8::ia::ib::ic::ie::ig::ii::ij::ik::il::im::io::ip::iq::ir::iu::iw::ix::iy::iz::iA::iB::iC::iD::iF::iG::iH::iI::iJ::iK::iL::iM::iN::iO::iP::iQ::iR::iS::iT::iU::iV::iW::iX::iY::iZ::j5::j6::j7::j8::j9::ja::jb::jc::jd::je::jf::jg::jh::ji::jj::jk::jl::jm::jn::jo::jp::jq::jr::aa::ab::ae::af::ah::ai::aj::al::am::aq::au::av::aw::ax::ay::az::aA::aB::aC::aD::aF::aG::aH::aI::aJ::aK::aL::aM::aN::aO::aP::aQ::aR::aS::aT::aU::aV::aW::aX::aY::aZ::ba::be::bf::bg::bh::bi::bj::bp::bq::br::bu::bv::bw::bz::bC::bD::bE::bF::bG::bH::bI::bJ::bK::bL::bM::bN::bO::bP::bQ::bS::bT::bU::bW::bX::bY::bZ::cd::ce::cf::cg::ch::ci::ck::cn::cq::cr::ct::cw::cy::cz::cA::cB::cC::cE::cF::cG::cH::cI::cJ::cK::cL::cM::cN::cP::cQ::cR::cT::cU::cV::cW::cX::cY::cZ::d8::d9::da::de::df::dh::di::dj::dk::dl::dm::dn::dp::dq::dr::dt::du::dv::(fQ)::(fR)::(fS)::(fT)::(fU)::(fV)::(fW)::(fX)::(fY)::(fZ)::(g7)::(g8)::(g9)::(gc)::(gd)::(gf)::(gh)::(gi)::(gj)::(gk)::(gm)::(gq)::(gr)::(gu)::(gx)::(gy)::(gA)::(gB)::(gC)::(gD)::(gE)::(gF)::(gG)::(gH)::(gI)::(gJ)::(gK)::ex::ey::ez::eA::eB::eD::eE::eF::eH::eI::eJ::eK::eL::eN::eO::eQ::eR::eS::eT::eU::eV::eW::eX::eY::eZ::fd::fe::ff::fg::fh::fi::fj::fk::fq::fs::fv::fy::fz::fA::fB::fC::fD::fE::fF::fG::fH::fI::fJ::fK::fL::fM::fN::fO::fP::[]),[]⟩ wx)):
  Code.wp Tryz.prog (Code.loop (owB 14)) Q0 ⟨List.toArray (u0::u1::u2::u3::u4::u5::u6::u7::u8::u9::gL::gM::gN::gO::(.slice ro L rc)::gP::gQ::gR::gS::gT::gU::gV::gW::gX::gY::gZ::(.int .i64 0)::hH::hU::hZ::i6::i7::i8::ia::ib::ic::ie::ig::ii::ij::ik::il::im::io::ip::iq::ir::iu::iw::ix::iy::iz::iA::iB::iC::iD::iF::iG::iH::iI::iJ::iK::iL::iM::iN::iO::iP::iQ::iR::iS::iT::iU::iV::iW::iX::iY::iZ::j5::j6::j7::j8::j9::ja::jb::jc::jd::je::jf::jg::jh::ji::jj::jk::jl::jm::jn::jo::jp::jq::jr::aa::ab::ae::af::ah::ai::aj::al::am::aq::au::av::aw::ax::ay::az::aA::aB::aC::aD::aF::aG::aH::aI::aJ::aK::aL::aM::aN::aO::aP::aQ::aR::aS::aT::aU::aV::aW::aX::aY::aZ::ba::be::bf::bg::bh::bi::bj::bp::bq::br::bu::bv::bw::bz::bC::bD::bE::bF::bG::bH::bI::bJ::bK::bL::bM::bN::bO::bP::bQ::bS::bT::bU::bW::bX::bY::bZ::cd::ce::cf::cg::ch::ci::ck::cn::cq::cr::ct::cw::cy::cz::cA::cB::cC::cE::cF::cG::cH::cI::cJ::cK::cL::cM::cN::cP::cQ::cR::cT::cU::cV::cW::cX::cY::cZ::d8::d9::da::de::df::dh::di::dj::dk::dl::dm::dn::dp::dq::dr::dt::du::dv::dw::dx::dy::dz::dA::dB::dD::dE::dF::dG::dH::dI::dJ::dK::dL::dM::dN::dO::dP::dQ::dR::dS::dT::dU::dV::dX::dY::dZ::ed::ee::ef::eh::ei::ej::em::es::eu::ex::ey::ez::eA::eB::eD::eE::eF::eH::eI::eJ::eK::eL::eN::eO::eQ::eR::eS::eT::eU::eV::eW::eX::eY::eZ::fd::fe::ff::fg::fh::fi::fj::fk::fq::fs::fv::fy::fz::fA::fB::fC::fD::fE::fF::fG::fH::fI::fJ::fK::fL::fM::fN::fO::fP::[]),[]⟩ wr:=by
 conv=>arg 2;arg 1;whnf
 go_loopg [26,27] L (fun kx s26 s27 wx=> ∃i:Nat,s26= .int .i64 i∧L - i≤kx∧i≤L∧wx=wr)
 case atStart=>exact⟨0,rfl,by omega,by omega,rfl⟩
 case round=>
  rename World=>wx
  obtain⟨i,rfl,hkx,hil,hw⟩:=hrel
  subst hw
  by_cases hi:i<L
  ·have hi':(i:Int)<(L:Int):=by omega
   obtain⟨G,xo,n,xc,rfl,cj,hn,HQ⟩:=HR.out i hi
   have KQ:Hid _:=HQ
   have HM:Hid (((i / 20:Nat):Int)=(i:Int) / 20):=by show _=_;omega
   have hb20:0≤(i:Int) / 20∧(i:Int) / 20≤1000000000:=by omega
   clear HQ
   go_wp2_with fail
   go_loopg [27] n (fun kx s27 wy=> ∃j:Nat,s27= .int .i64 j∧n - j≤kx∧j≤n∧wy=wx)
   case atStart=>exact⟨0,rfl,by omega,by omega,rfl⟩
   case round=>
    rename World=>wy
    obtain⟨j,rfl,hjx,hjn,hw⟩:=hrel
    subst hw
    by_cases hj:j<n
    ·have hj':(j:Int)<(n:Int):=by omega
     obtain⟨g,rfl,hgc⟩:=KQ.out j hj
     have hM:=HM.out
     have g0:wy.cell? ⟨g,j*3,none⟩=_:=hgc 0 _ rfl
     have g1:wy.cell? ⟨g,j*3+1,none⟩=_:=hgc 1 _ rfl
     rw[hM] at g1
     clear hgc hM
     go_wp2_with fail
     go_roundg (n - (j+1))
     case measure=>omega
     case rel=>exact⟨j+1,by first|rfl|(congr 1;omega),by omega,by omega,by first|rfl|trivial⟩
    ·have hj': ¬(j:Int)<(n:Int):=by omega
     go_wp2_with fail
     go_roundg (L - (i+1))
     case measure=>omega
     case rel=>exact⟨i+1,by first|rfl|(congr 1;omega),by omega,by omega,by first|rfl|trivial⟩
  ·have hi': ¬(i:Int)<(L:Int):=by omega
   go_wp2_with fail
   exact Hexit.out _ _ _ _ _ _ _ _ _ _ _ _ _ _ _ _ _ _ _ _ _ _ _ _ _ _ _ _ _ _ _ _ _ _ _ _ _ _ _ _ _ rfl
theorem owned17 (wr:World) (L rc:Nat) (ro:Option Addr) (hL:L≤1000000000) (HR:Hid (∀j,j<L→ ∃G xo m xc,ro=some ⟨G,0,none⟩∧wr.cell? ⟨G,j,none⟩=some (.slice xo m xc)∧m≤1099511627776∧ ∀q,q<m→ ∃g,xo=some ⟨g,0,none⟩∧ ∀i u,(mkL6 (j / 20))[i]? =some u→wr.cell? ⟨g,q*3+i,none⟩=some u)) (Q0:Exit→Act→World→Prop)
  (u0 u1 u2 u3 u4 u5 u6 u7 u8 u9 gB gC gD gE gF gG gH gI gJ gK gL gM gN gO gP gQ gR gS gT gU gV gW gX gY gZ hH hU hZ i6 i7 i8 ia ib ic ie ig ii ij ik il im io ip iq ir iu iw ix iy iz iA iB iC iD iF iG iH iI iJ iK iL iM iN iO iP iQ iR iS iT iU iV iW iX iY iZ j5 j6 j7 j8 j9 ja jb jc jd je jf jg jh aa ab ae af ah ai aj al am aq au av aw ax ay az aA aB aC aD aF aG aH aI aJ aK aL aM aN aO aP aQ aR aS aT aU aV aW aX aY aZ ba be bf bg bh bi bj bp bq br bu bv bw bz bC bD bE bF bG bH bI bJ bK bL bM bN bO bP bQ bS bT bU bW bX bY bZ cd ce cf cg ch ci ck cn cq cr ct cw cy cz cA cB cC cE cF cG cH cI cJ cK cL cM cN cP cQ cR cT cU cV cW cX cY cZ d8 d9 da de df dh di dj dk dl dm dn dp dq dr dt du dv dw dx dy dz dA dB dD dE dF dG dH dI dJ dK dL dM dN dO dP dQ dR dS dT dU dV dX dY dZ ed ee ef eh ei ej em es eu ex ey ez eA eB eD eE eF eH eI eJ eK eL eN eO eQ eR eS eT eU eV eW eX eY eZ fd fe ff fg fh fi fj fk fq fs fv fy fz fA fB fC fD fE fF fG fH fI fJ fK fL fM fN fO fP:Value)
  (Hexit:Hid (∀(v2 ji jj fQ fR fS fT fU fV fW fX fY fZ g7 g8 g9 gc gd gf gh gi gj gk gm gq gr gu gx gy gA:Value) (wx:World),wx=wr→Q0 (.exit 32) ⟨List.toArray (u0::u1::(v2)::u3::u4::u5::u6::u7::u8::u9::gB::gC::gD::gE::gF::gG::gH::gI::(.slice ro L rc)::gJ::gK::gL::gM::gN::gO::gP::gQ::gR::(ji)::(jj)::gT::gU::gV::gW::gX::gY::gZ::hH::hU::hZ::i6::i7::i8::ia::ib::ic::ie::ig::ii::ij::ik::il::im::io::ip::iq::ir::iu::iw::ix::iy::iz::iA::iB::iC::iD::iF::iG::iH::iI::iJ::iK::iL::iM::iN::iO::iP::iQ::iR::iS::iT::iU::iV::iW::iX::iY::iZ::j5::j6::j7::j8::j9::ja::jb::jc::jd::je::jf::jg::jh::aa::ab::ae::af::ah::ai::aj::al::am::aq::au::av::aw::ax::ay::az::aA::aB::aC::aD::aF::aG::aH::aI::aJ::aK::aL::aM::aN::aO::aP::aQ::aR::aS::aT::aU::aV::aW::aX::aY::aZ::ba::be::bf::bg::bh::bi::bj::bp::bq::br::bu::bv::bw::bz::bC::bD::bE::bF::bG::bH::bI::bJ::bK::bL::bM::bN::bO::bP::bQ::bS::bT::bU::bW::bX::bY::bZ::cd::ce::cf::cg::ch::ci::ck::cn::cq::cr::ct::cw::cy::cz::cA::cB::cC::cE::cF::cG::cH::cI::cJ::cK::cL::cM::cN::cP::cQ::cR::cT::cU::cV::cW::cX::cY::cZ::d8::d9::da::de::df::dh::di::dj::dk::dl::dm::dn::dp::dq::dr::dt::du::dv::dw::dx::dy::dz::dA::dB::dD::dE::dF::dG::dH::dI::dJ::dK::dL::dM::dN::dO::dP::dQ::dR::dS::dT::dU::dV::dX::dY::dZ::ed::ee::ef::eh::ei::ej::em::es::eu::(fQ)::(fR)::(fS)::(fT)::(fU)::(fV)::(fW)::(fX)::(fY)::(fZ)::(g7)::(g8)::(g9)::(gc)::(gd)::(gf)::(gh)::(gi)::(gj)::(gk)::(gm)::(gq)::(gr)::(gu)::(gx)::(gy)::(gA)::ff::fg::fh::fi::fj::fk::fq::fs::fv::fy::fz::fA::fB::fC::fD::fE::fF::fG::fH::fI::fJ::fK::fL::fM::fN::fO::fP::[]),[]⟩ wx)):
  Code.wp Tryz.prog (Code.loop (owB 16)) Q0 ⟨List.toArray (u0::u1::u2::u3::u4::u5::u6::u7::u8::u9::gB::gC::gD::gE::gF::gG::gH::gI::(.slice ro L rc)::gJ::gK::gL::gM::gN::gO::gP::gQ::gR::(.int .i64 0)::gS::gT::gU::gV::gW::gX::gY::gZ::hH::hU::hZ::i6::i7::i8::ia::ib::ic::ie::ig::ii::ij::ik::il::im::io::ip::iq::ir::iu::iw::ix::iy::iz::iA::iB::iC::iD::iF::iG::iH::iI::iJ::iK::iL::iM::iN::iO::iP::iQ::iR::iS::iT::iU::iV::iW::iX::iY::iZ::j5::j6::j7::j8::j9::ja::jb::jc::jd::je::jf::jg::jh::aa::ab::ae::af::ah::ai::aj::al::am::aq::au::av::aw::ax::ay::az::aA::aB::aC::aD::aF::aG::aH::aI::aJ::aK::aL::aM::aN::aO::aP::aQ::aR::aS::aT::aU::aV::aW::aX::aY::aZ::ba::be::bf::bg::bh::bi::bj::bp::bq::br::bu::bv::bw::bz::bC::bD::bE::bF::bG::bH::bI::bJ::bK::bL::bM::bN::bO::bP::bQ::bS::bT::bU::bW::bX::bY::bZ::cd::ce::cf::cg::ch::ci::ck::cn::cq::cr::ct::cw::cy::cz::cA::cB::cC::cE::cF::cG::cH::cI::cJ::cK::cL::cM::cN::cP::cQ::cR::cT::cU::cV::cW::cX::cY::cZ::d8::d9::da::de::df::dh::di::dj::dk::dl::dm::dn::dp::dq::dr::dt::du::dv::dw::dx::dy::dz::dA::dB::dD::dE::dF::dG::dH::dI::dJ::dK::dL::dM::dN::dO::dP::dQ::dR::dS::dT::dU::dV::dX::dY::dZ::ed::ee::ef::eh::ei::ej::em::es::eu::ex::ey::ez::eA::eB::eD::eE::eF::eH::eI::eJ::eK::eL::eN::eO::eQ::eR::eS::eT::eU::eV::eW::eX::eY::eZ::fd::fe::ff::fg::fh::fi::fj::fk::fq::fs::fv::fy::fz::fA::fB::fC::fD::fE::fF::fG::fH::fI::fJ::fK::fL::fM::fN::fO::fP::[]),[]⟩ wr:=by
 conv=>arg 2;arg 1;whnf
 go_loopg [28,29] L (fun kx s28 s29 wx=> ∃i:Nat,s28= .int .i64 i∧L - i≤kx∧i≤L∧wx=wr)
 case atStart=>exact⟨0,rfl,by omega,by omega,rfl⟩
 case round=>
  rename World=>wx
  obtain⟨i,rfl,hkx,hil,hw⟩:=hrel
  subst hw
  by_cases hi:i<L
  ·have hi':(i:Int)<(L:Int):=by omega
   obtain⟨G,xo,n,xc,rfl,cj,hn,HQ⟩:=HR.out i hi
   have KQ:Hid _:=HQ
   have HM:Hid (((i / 20:Nat):Int)=(i:Int) / 20):=by show _=_;omega
   have hb20:0≤(i:Int) / 20∧(i:Int) / 20≤1000000000:=by omega
   clear HQ
   go_wp2_with fail
   go_loopg [29] n (fun kx s29 wy=> ∃j:Nat,s29= .int .i64 j∧n - j≤kx∧j≤n∧wy=wx)
   case atStart=>exact⟨0,rfl,by omega,by omega,rfl⟩
   case round=>
    rename World=>wy
    obtain⟨j,rfl,hjx,hjn,hw⟩:=hrel
    subst hw
    by_cases hj:j<n
    ·have hj':(j:Int)<(n:Int):=by omega
     obtain⟨g,rfl,hgc⟩:=KQ.out j hj
     have hM:=HM.out
     have g1:wy.cell? ⟨g,j*3+1,none⟩=_:=hgc 1 _ rfl
     rw[hM] at g1
     clear hgc hM
     have hw5:IntKind.i64.wrap (-5 - (i:Int) / 20)= -5 - (i:Int) / 20:=by rw[IntKind.wrap_i64];omega
     go_wp2_with fail
     go_roundg (n - (j+1))
     case measure=>omega
     case rel=>exact⟨j+1,by first|rfl|(congr 1;omega),by omega,by omega,by first|rfl|trivial⟩
    ·have hj': ¬(j:Int)<(n:Int):=by omega
     go_wp2_with fail
     go_roundg (L - (i+1))
     case measure=>omega
     case rel=>exact⟨i+1,by first|rfl|(congr 1;omega),by omega,by omega,by first|rfl|trivial⟩
  ·have hi': ¬(i:Int)<(L:Int):=by omega
   go_wp2_with fail
   exact Hexit.out _ _ _ _ _ _ _ _ _ _ _ _ _ _ _ _ _ _ _ _ _ _ _ _ _ _ _ _ _ _ _ rfl
theorem owned19 (wr:World) (L rc:Nat) (ro:Option Addr) (hL:L≤1000000000) (HR:Hid (∀j,j<L→ ∃G xo m xc,ro=some ⟨G,0,none⟩∧wr.cell? ⟨G,j,none⟩=some (.slice xo m xc)∧m≤1099511627776∧ ∀q,q<m→ ∃g,xo=some ⟨g,0,none⟩∧ ∀i u,(mkT6 (j / 20))[i]? =some u→wr.cell? ⟨g,q*5+i,none⟩=some u)) (Q0:Exit→Act→World→Prop)
  (u0 u1 u2 u3 u4 u5 u6 u7 u8 u9 gB gC gD gE gF gG gH gI gJ gK gL gM gN gO gP gQ gR gS gT gU gV gW gX gY gZ hH hU hZ i6 i7 i8 ia ib ic ie ig ii ij ik il im io ip iq ir iu iw ix iy iz iA iB iC iD iF iG iH iI iJ iK iL iM iN iO iP iQ iR iS iT iU iV iW iX iY iZ j5 j6 j7 j8 j9 ja jb jc jd je jf jg jh aa ab ae af ah ai aj al am aq au av aw ax ay az aA aB aC aD aF aG aH aI aJ aK aL aM aN aO aP aQ aR aS aT aU aV aW aX aY aZ ba be bf bg bh bi bj bp bq br bu bv bw bz bC bD bE bF bG bH bI bJ bK bL bM bN bO bP bQ bS bT bU bW bX bY bZ cd ce cf cg ch ci ck cn cq cr ct cw cy cz cA cB cC cE cF cG cH cI cJ cK cL cM cN cP cQ cR cT cU cV cW cX cY cZ d8 d9 da de df dh di dj dk dl dm dn dp dq dr dt du dv dw dx dy dz dA dB dD dE dF dG dH dI dJ dK dL dM dN dO dP dQ dR dS dT dU dV dX dY dZ ed ee ef eh ei ej em es eu ex ey ez eA eB eD eE eF eH eI eJ eK eL eN eO eQ eR eS eT eU eV eW eX eY eZ fd fe ff fg fh fi fj fk fq fs fv fy fz fA fB fC fD fE fF fG fH fI fJ fK fL fM fN fO fP:Value)
  (Hexit:Hid (∀(v2 ji jj fQ fR fS fT fU fV fW fX fY fZ g7 g8 g9 gc gd gf gh gi gj gk gm gq gr gu gx gy gA:Value) (wx:World),wx=wr→Q0 (.exit 36) ⟨List.toArray (u0::u1::(v2)::u3::u4::u5::u6::u7::u8::u9::gB::gC::gD::gE::gF::gG::gH::gI::gJ::gK::gL::gM::(.slice ro L rc)::gN::gO::gP::gQ::gR::gS::gT::(ji)::(jj)::gV::gW::gX::gY::gZ::hH::hU::hZ::i6::i7::i8::ia::ib::ic::ie::ig::ii::ij::ik::il::im::io::ip::iq::ir::iu::iw::ix::iy::iz::iA::iB::iC::iD::iF::iG::iH::iI::iJ::iK::iL::iM::iN::iO::iP::iQ::iR::iS::iT::iU::iV::iW::iX::iY::iZ::j5::j6::j7::j8::j9::ja::jb::jc::jd::je::jf::jg::jh::aa::ab::ae::af::ah::ai::aj::al::am::aq::au::av::aw::ax::ay::az::aA::aB::aC::aD::aF::aG::aH::aI::aJ::aK::aL::aM::aN::aO::aP::aQ::aR::aS::aT::aU::aV::aW::aX::aY::aZ::ba::be::bf::bg::bh::bi::bj::bp::bq::br::bu::bv::bw::bz::bC::bD::bE::bF::bG::bH::bI::bJ::bK::bL::bM::bN::bO::bP::bQ::bS::bT::bU::bW::bX::bY::bZ::cd::ce::cf::cg::ch::ci::ck::cn::cq::cr::ct::cw::cy::cz::cA::cB::cC::cE::cF::cG::cH::cI::cJ::cK::cL::cM::cN::cP::cQ::cR::cT::cU::cV::cW::cX::cY::cZ::d8::d9::da::de::df::dh::di::dj::dk::dl::dm::dn::dp::dq::dr::dt::du::dv::dw::dx::dy::dz::dA::dB::dD::dE::dF::dG::dH::dI::dJ::dK::dL::dM::dN::dO::dP::dQ::dR::dS::dT::dU::dV::dX::dY::dZ::ed::ee::ef::eh::ei::ej::em::es::eu::ex::ey::ez::eA::eB::eD::eE::eF::eH::eI::eJ::eK::eL::eN::eO::eQ::eR::eS::eT::eU::eV::eW::eX::eY::eZ::fd::fe::(fQ)::(fR)::(fS)::(fT)::(fU)::(fV)::(fW)::(fX)::(fY)::(fZ)::(g7)::(g8)::(g9)::(gc)::(gd)::(gf)::(gh)::(gi)::(gj)::(gk)::(gm)::(gq)::(gr)::(gu)::(gx)::(gy)::(gA)::[]),[]⟩ wx)):
  Code.wp Tryz.prog (Code.loop (owB 18)) Q0 ⟨List.toArray (u0::u1::u2::u3::u4::u5::u6::u7::u8::u9::gB::gC::gD::gE::gF::gG::gH::gI::gJ::gK::gL::gM::(.slice ro L rc)::gN::gO::gP::gQ::gR::gS::gT::(.int .i64 0)::gU::gV::gW::gX::gY::gZ::hH::hU::hZ::i6::i7::i8::ia::ib::ic::ie::ig::ii::ij::ik::il::im::io::ip::iq::ir::iu::iw::ix::iy::iz::iA::iB::iC::iD::iF::iG::iH::iI::iJ::iK::iL::iM::iN::iO::iP::iQ::iR::iS::iT::iU::iV::iW::iX::iY::iZ::j5::j6::j7::j8::j9::ja::jb::jc::jd::je::jf::jg::jh::aa::ab::ae::af::ah::ai::aj::al::am::aq::au::av::aw::ax::ay::az::aA::aB::aC::aD::aF::aG::aH::aI::aJ::aK::aL::aM::aN::aO::aP::aQ::aR::aS::aT::aU::aV::aW::aX::aY::aZ::ba::be::bf::bg::bh::bi::bj::bp::bq::br::bu::bv::bw::bz::bC::bD::bE::bF::bG::bH::bI::bJ::bK::bL::bM::bN::bO::bP::bQ::bS::bT::bU::bW::bX::bY::bZ::cd::ce::cf::cg::ch::ci::ck::cn::cq::cr::ct::cw::cy::cz::cA::cB::cC::cE::cF::cG::cH::cI::cJ::cK::cL::cM::cN::cP::cQ::cR::cT::cU::cV::cW::cX::cY::cZ::d8::d9::da::de::df::dh::di::dj::dk::dl::dm::dn::dp::dq::dr::dt::du::dv::dw::dx::dy::dz::dA::dB::dD::dE::dF::dG::dH::dI::dJ::dK::dL::dM::dN::dO::dP::dQ::dR::dS::dT::dU::dV::dX::dY::dZ::ed::ee::ef::eh::ei::ej::em::es::eu::ex::ey::ez::eA::eB::eD::eE::eF::eH::eI::eJ::eK::eL::eN::eO::eQ::eR::eS::eT::eU::eV::eW::eX::eY::eZ::fd::fe::ff::fg::fh::fi::fj::fk::fq::fs::fv::fy::fz::fA::fB::fC::fD::fE::fF::fG::fH::fI::fJ::fK::fL::fM::fN::fO::fP::[]),[]⟩ wr:=by
 conv=>arg 2;arg 1;whnf
 go_loopg [30,31] L (fun kx s30 s31 wx=> ∃i:Nat,s30= .int .i64 i∧L - i≤kx∧i≤L∧wx=wr)
 case atStart=>exact⟨0,rfl,by omega,by omega,rfl⟩
 case round=>
  rename World=>wx
  obtain⟨i,rfl,hkx,hil,hw⟩:=hrel
  subst hw
  by_cases hi:i<L
  ·have hi':(i:Int)<(L:Int):=by omega
   obtain⟨G,xo,n,xc,rfl,cj,hn,HQ⟩:=HR.out i hi
   have KQ:Hid _:=HQ
   have HM:Hid (((i / 20:Nat):Int)=(i:Int) / 20):=by show _=_;omega
   have hb20:0≤(i:Int) / 20∧(i:Int) / 20≤1000000000:=by omega
   clear HQ
   go_wp2_with fail
   go_loopg [31] n (fun kx s31 wy=> ∃j:Nat,s31= .int .i64 j∧n - j≤kx∧j≤n∧wy=wx)
   case atStart=>exact⟨0,rfl,by omega,by omega,rfl⟩
   case round=>
    rename World=>wy
    obtain⟨j,rfl,hjx,hjn,hw⟩:=hrel
    subst hw
    by_cases hj:j<n
    ·have hj':(j:Int)<(n:Int):=by omega
     obtain⟨g,rfl,hgc⟩:=KQ.out j hj
     have hM:=HM.out
     have g0:wy.cell? ⟨g,j*5,none⟩=_:=hgc 0 _ rfl
     rw[hM] at g0
     clear hgc hM
     have hw5:IntKind.i64.wrap (-5 - (i:Int) / 20)= -5 - (i:Int) / 20:=by rw[IntKind.wrap_i64];omega
     go_wp2_with fail
     go_roundg (n - (j+1))
     case measure=>omega
     case rel=>exact⟨j+1,by first|rfl|(congr 1;omega),by omega,by omega,by first|rfl|trivial⟩
    ·have hj': ¬(j:Int)<(n:Int):=by omega
     go_wp2_with fail
     go_roundg (L - (i+1))
     case measure=>omega
     case rel=>exact⟨i+1,by first|rfl|(congr 1;omega),by omega,by omega,by first|rfl|trivial⟩
  ·have hi': ¬(i:Int)<(L:Int):=by omega
   go_wp2_with fail
   exact Hexit.out _ _ _ _ _ _ _ _ _ _ _ _ _ _ _ _ _ _ _ _ _ _ _ _ _ _ _ _ _ _ _ rfl
end Go.Proofs.YtaiadknglhemaaaGreatDoor.C
