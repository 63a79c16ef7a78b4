import Derived.Test.YtaiadknglhemaaaGreatDoorDR0
import Derived.Test.YtaiadknglhemaaaGreatDoorVRDec
import Derived.Test.YtaiadknglhemaaaGreatDoorCName
import Derived.Test.YtaiadknglhemaaaGreatDoorKeeps
import Derived.Test.YtaiadknglhemaaaGreatDoorCCat
set_option maxHeartbeats 8000000
set_option maxRecDepth 100000
namespace Go.Proofs.YtaiadknglhemaaaGreatDoor.C
open Go.RowKit
theorem rdig6 (n:Int) (hn: -9223372036854775808≤n∧n≤9223372036854775807) (w:World):Calls Tryz.prog 78 #[.int .i64 n] w fun x w'=>x= .returned (.string (bB (dgI n)))∧Tch (fun _=>False) w w':=by
 have HCV:=cv_any
 have HCV:Hid _:=HCV
 go_enter Tryz.func78,Tryz.ntmps78
 go_wp2_with fail
 go_loopw [3,0] (fun s i wr=> ∃(S:ByteArray) (m:Int),s= .string S∧i= .int .i64 m∧S.size≤9∧Hid ((0≤n→0≤m∧Dg n.toNat S m.toNat)∧(n<0→m=n∧S=⟨#[]⟩))∧Hid (-9223372036854775808≤m∧m≤9223372036854775807)∧Tch (fun _=>False) w wr) (fun _ i _=>(intOf i).toNat)
 case atStart=>exact⟨⟨#[]⟩,n,rfl,rfl,Nat.zero_le _,⟨fun h=>⟨h,Dg.start (by omega)⟩,fun _=>⟨rfl,rfl⟩⟩,hn,Tch.refl _ _⟩
 case round=>
  obtain⟨S,m,rfl,rfl,hS,HD,HM,hT⟩:=hrel
  have hm:=HM.out
  by_cases hlt:127<m
  ·have h0:0≤n:=by
    refine Classical.byContradiction fun h=>?_
    have:=(HD.out.2 (by omega)).1
    omega
   have hd:=(HD.out.1 h0).2.more (by omega)
   have hcv:=cv_byte (128+m.toNat % 128) (by omega) wr
   rw[show((128+m.toNat % 128:Nat):Int)=128+m % 128 by omega] at hcv
   rw[show UInt8.ofNat (128+m.toNat % 128)=UInt8.ofNat (m.toNat % 128+128) by rw[Nat.add_comm]] at hcv
   have HF:Hid (Dg n.toNat (S++⟨#[UInt8.ofNat (m.toNat % 128+128)]⟩) (m.toNat / 128)):=hd
   obtain⟨q,hq⟩: ∃q:Nat,q=m.toNat / 128:=⟨_,rfl⟩
   have e3:m.tdiv 128=(q:Int):=by
    rw[hq,Int.tdiv_eq_ediv_of_nonneg (by omega)];omega
   have e4:IntKind.i64.wrap (m.tdiv 128)=(q:Int):=by rw[e3];exact wrap_of (by omega) (by omega)
   have e5:wrap64 (m.tdiv 128)=(q:Int):=by rw[e3];unfold wrap64;omega
   rw[←hq] at HF
   obtain⟨bb,hbb⟩: ∃bb,bb=UInt8.ofNat (m.toNat % 128+128):=⟨_,rfl⟩
   rw[←hbb] at HF hcv
   have HQ:Hid (q=m.toNat / 128):=hq
   have H0:Hid (0≤n):=h0
   clear hd h0 hm hq e3 hbb
   go_wp2_with fail
   go_roundw
   case rel=>
    have h3:=HQ.out
    have h4:=HF.out.sz
    have hm:=HM.out
    refine⟨_,_,rfl,rfl,h4,⟨fun _=>⟨by omega,?_⟩,fun h=>absurd H0.out (by omega)⟩,by show _∧_;omega,hT.allocR _⟩
    rw[Int.toNat_natCast]
    exact HF.out
   case measure=>
    have h3:=HQ.out
    simp only[intOf,Int.toNat_natCast]
    omega
  ·have hcv:=HCV.out m wr
   have HB:Hid (S++⟨#[UInt8.ofNat (m % 256).toNat]⟩=bB (dgI n)):=by
    show _=_
    apply bB_of
    unfold dgI
    split
    ·rename_i h
     obtain⟨h1,h2⟩:=HD.out.1 h
     have:=h2.done (by omega)
     rw[show(m % 256).toNat=m.toNat by omega]
     exact this
    ·obtain⟨h1,h2⟩:=HD.out.2 (by omega)
     rw[h1,h2];rfl
   clear hm
   go_wp2_with fail
   go_ret
   exact⟨by rw[←HB.out];rfl,hT.allocR _⟩
theorem rtext_ok (s:ByteArray) (hs:s.size≤140737488351232) (w:World):Calls Tryz.prog 81 #[.string s] w fun x w'=>x= .returned (.string (bB (textL s)))∧Tch (fun _=>False) w w':=by
 have q:=rdig6 (s.size:Int) (by omega) w
 obtain⟨b,hb⟩: ∃b,b=bB (dgI (s.size:Int)):=⟨_,rfl⟩
 have hz:b.size≤10:=by rw[hb,size_bB];exact dgI_len _
 have HB:Hid (b++s=bB (textL s)):=by
  show _=_
  apply bB_of
  rw[bl_app,hb,bl_bB,dgI_pos (by omega),textL_bl,Int.toNat_natCast]
 rw[←hb] at q
 clear hb
 go_enter Tryz.func81,Tryz.ntmps81
 go_wp2_with fail
 refine q.mono ?_
 rintro x w1 ⟨rfl,t1⟩
 clear q
 go_wp2_with fail
 go_ret
 exact⟨by rw[←HB.out];rfl,t1⟩
theorem rdig_ok (n:Int) (h0:0≤n) (hn:n≤9223372036854775807) (w:World):Calls Tryz.prog 78 #[.int .i64 n] w fun x w'=>x= .returned (.string (bB (dg n.toNat)))∧Tch (fun _=>False) w w':=by
 have:=rdig6 n (by omega) w
 rw[dgI_pos h0] at this
 exact this
theorem rnum_ok (n:Int) (h0:0≤n) (h1:n≤255) (w:World):Calls Tryz.prog 45 #[.int .i64 n] w fun x w'=>x= .returned (.string (bB (bytesL [n])))∧Tch (fun _=>False) w w':=
 (rnumber6 n h0 h1 w).mono fun _ _ ⟨⟨_,h1,h2⟩,t⟩=>⟨by rw[h1,bB_of h2],t⟩
def hasB (wd:ByteArray) (c:Nat):Bool:=(bl wd).any (fun x=>x.toNat==c)
theorem has6 (wd:ByteArray) (hw:wd.size≤100) (c:Nat) (_hc:c<256) (w:World):Calls Tryz.prog 75 #[.string wd,.int .u8 (c:Int)] w fun x w'=>x= .returned (.bool (hasB wd c))∧w'=w:=by
 obtain⟨d,hd⟩: ∃d,d=hasB wd c:=⟨_,rfl⟩
 have HD:Hid (d=hasB wd c):=hd
 rw[←hd]
 clear hd
 go_enter Tryz.func75,Tryz.ntmps75
 go_wp2_with fail
 go_loopw [5] (fun i wr=> ∃k:Nat,i= .int .i64 k∧k≤wd.size∧wr=w∧Hid (∀j (h:j<wd.size),j<k→wd[j].toNat≠c)) (fun i _=>wd.size - (intOf i).toNat)
 case atStart=>exact⟨0,rfl,by omega,rfl,fun _ _ h=>by omega⟩
 case round=>
  obtain⟨k,rfl,hk,rfl,hall⟩:=hrel
  by_cases hlt:k<wd.size
  ·have hlt':(k:Int)<wd.size:=by omega
   by_cases he:wd[k].toNat=c
   ·have he':((wd[k].toNat:Nat):Int)=(c:Int):=by omega
    have HR:Hid (d=true):=by
     show d=true
     rw[HD.out]
     unfold hasB
     rw[List.any_eq_true]
     exact⟨wd[k],Array.getElem_mem_toList _,by simpa using he⟩
    clear he
    go_wp2_with fail
    go_ret
    exact⟨by rw[HR.out];rfl,rfl⟩
   ·have he': ¬((wd[k].toNat:Nat):Int)=(c:Int):=by omega
    have HN:Hid (∀j (h:j<wd.size),j<k+1→wd[j].toNat≠c):=fun j hj hjk=>by
     rcases Nat.lt_or_ge j k with h1|h1
     ·exact hall.out j hj h1
     ·obtain rfl:j=k:=by omega
      exact he
    clear he
    go_wp2_with fail
    go_roundw
    case rel=>exact⟨k+1,by go_num,by omega,by first|rfl|trivial,HN⟩
    case measure=>simp[intOf];omega
  ·have hlt': ¬(k:Int)<wd.size:=by omega
   have HR:Hid (d=false):=by
    show d=false
    rw[HD.out]
    unfold hasB
    rw[List.any_eq_false]
    intro x hx
    obtain⟨j,hj,rfl⟩:=List.getElem_of_mem hx
    rw[bl_size] at hj
    have:=hall.out j hj (by omega)
    rw[show(bl wd)[j]=wd[j] from rfl]
    simpa using this
   go_wp2_with fail
   go_ret
   exact⟨by rw[HR.out];rfl,rfl⟩
def bareT (t:Tbl):Prop:=t.id=0∧t.ver=0∧t.nm.size=0∧t.cols.length=0∧t.key=0
theorem bare_eq {t:Tbl} :bareT t ↔ t=tb0:=by
 constructor
 ·rintro⟨h1,h2,h3,h4,h5⟩
  obtain⟨id,ver,nm,cols,key⟩:=t
  simp only at h1 h2 h3 h4 h5
  subst h1 h2 h5
  obtain rfl:=List.length_eq_zero_iff.1 h4
  obtain rfl:=emp_eq h3
  rfl
 ·rintro rfl
  exact⟨rfl,rfl,rfl,rfl,rfl⟩
theorem bare6 (t:Tbl) (ao:Option Addr) (c:Nat) (w:World):Calls Tryz.prog 76 #[tA t.id t.ver t.nm (.slice ao t.cols.length c) t.key] w fun x w'=>EqT (t=tb0) w x w':=by
 have HB:Hid (t=tb0 ↔ bareT t):=bare_eq.symm
 unfold bareT at HB
 obtain⟨n,hn⟩: ∃n,n=t.cols.length:=⟨_,rfl⟩
 rw[←hn] at HB ⊢
 obtain⟨z,hz⟩: ∃z,z=t.nm.size:=⟨_,rfl⟩
 rw[←hz] at HB
 clear hn
 by_cases h3:t.nm.size=0
 ·have e3:=emp_eq h3
  rw[e3]
  have HS:Hid (z=0):=hz.trans h3
  clear h3 e3 hz
  go_enter Tryz.func76,Tryz.ntmps76
  go_wp2
  all_goals
   go_ret
   refine⟨_,rfl,?_,Tch.alloc _ _ _⟩
   rw[HB.out]
   have:=HS.out
   first|omega|(simp;omega)|(simp;done)
 ·have h3':=nonempty_of_size (r:=t.nm) (by omega)
  have HS:Hid (¬z=0):=fun e=>h3 (hz.symm.trans e)
  clear h3 hz
  go_enter Tryz.func76,Tryz.ntmps76
  go_wp2
  all_goals
   go_ret
   refine⟨_,rfl,?_,Tch.alloc _ _ _⟩
   rw[HB.out]
   have:=HS.out
   first|omega|(simp;omega)|(simp;done)
theorem encR_le {vs:List Val} (h:(encR vs).2=0):vs.length≤8:=by
 unfold encR at h
 split at h
 ·simp at h
 ·omega
theorem rencode_row (vs:List Val) (ao:Option Addr) (c:Nat) (w:World) (h:SL w ao (vcl vs)) (hi: ∀v∈vs,v.i64) (hl:vs.length≤9223372036854775807):
  Calls Tryz.prog 110 #[.slice ao vs.length c] w fun x w'=>x= .returned (.tuple #[.string ⟨(encR vs).1.toArray⟩,.int .i64 (encR vs).2])∧Tch (fun _=>False) w w':=by
 by_cases hv:vs=[]
 ·subst hv
  exact rencode_any [] ao 0 0 c w (fun h=>absurd rfl h) (fun j hj=>by simp at hj) hi hl
 ·obtain⟨g,o,e,ha⟩:=h.row hv
  exact rencode_any vs ao g o c w (fun _=>e) ha hi hl
theorem rrow6 (vs:List Val) (ao:Option Addr) (c:Nat) (w:World) (h:SL w ao (vcl vs)) (hi: ∀v∈vs,v.i64) (hl:vs.length≤9223372036854775807):
  Calls Tryz.prog 80 #[.slice ao vs.length c] w fun x w'=>x= .returned (.tuple #[.string ⟨(encR vs).1.toArray⟩,.bool (decide (rtRow vs))])∧Tch (fun _=>False) w w':=by
 have q:=rencode_row vs ao c w h hi hl
 obtain⟨E,hE⟩: ∃E,E=(encR vs).2:=⟨_,rfl⟩
 obtain⟨s,hs⟩: ∃s:ByteArray,s=⟨(encR vs).1.toArray⟩:=⟨_,rfl⟩
 obtain⟨d,hd⟩: ∃d,d=decide (rtRow vs):=⟨_,rfl⟩
 rw[←hs, ←hd]
 rw[←hE, ←hs] at q
 obtain⟨n,hn⟩: ∃n,n=vs.length:=⟨_,rfl⟩
 have HD:Hid (d=true ↔ E=0∧1≤n∧n≤8):=by
  show d=true ↔ _
  rw[hd,decide_eq_true_iff]
  unfold rtRow
  rw[←hE]
  constructor
  ·rintro⟨h1,h2⟩
   have h3:=List.length_pos_iff.2 h1
   have h4:=encR_le (vs:=vs) (by rw[←hE];exact h2)
   omega
  ·rintro⟨h1,h2,h3⟩
   exact⟨List.length_pos_iff.1 (by omega),h1⟩
 rw[←hn] at q ⊢
 clear hn hE hs hd h hi hl
 by_cases h0:E=0
 ·subst h0
  by_cases h1:1≤(n:Int)
  ·by_cases h2:(n:Int)≤8
   ·obtain rfl:d=true:=HD.out.2 ⟨rfl,by omega,by omega⟩
    clear HD
    go_enter Tryz.func80,Tryz.ntmps80
    go_wp2_with fail
    refine q.mono ?_
    rintro x w1 ⟨rfl,t1⟩
    go_wp2_with fail
    go_ret2
    exact⟨rfl,t1⟩
   ·obtain rfl:d=false:=by rw[←Bool.not_eq_true];intro e;have:=HD.out.1 e;omega
    have hd2:decide ((n:Int)≤8)=false:=decide_eq_false h2
    clear HD
    go_enter Tryz.func80,Tryz.ntmps80
    go_wp2_with fail
    refine q.mono ?_
    rintro x w1 ⟨rfl,t1⟩
    go_wp2_with fail
    go_ret2
    exact⟨rfl,t1⟩
  ·obtain rfl:d=false:=by rw[←Bool.not_eq_true];intro e;have:=HD.out.1 e;omega
   clear HD
   go_enter Tryz.func80,Tryz.ntmps80
   go_wp2_with fail
   refine q.mono ?_
   rintro x w1 ⟨rfl,t1⟩
   go_wp2_with fail
   go_ret2
   exact⟨rfl,t1⟩
 ·have hb:(E==0)=false:=int_ne h0
  obtain rfl:d=false:=by rw[←Bool.not_eq_true];intro e;exact h0 (HD.out.1 e).1
  clear HD h0
  go_enter Tryz.func80,Tryz.ntmps80
  go_wp2_with fail
  refine q.mono ?_
  rintro x w1 ⟨rfl,t1⟩
  go_wp2_with fail
  go_ret2
  exact⟨rfl,t1⟩
set_option maxRecDepth 100000
theorem rname6 (s:ByteArray) (w:World):Calls Tryz.prog 82 #[.string s] w fun x w'=>x= .returned (.bool (nmOk s))∧w'=w:=by
 by_cases h0:(s.size:Int)<1
 ·have HR:Hid (nmOk s=false):=nm_no (by omega)
  go_enter Tryz.func82,Tryz.ntmps82
  go_wp2
  go_ret
  exact⟨by rw[HR.out];rfl,rfl⟩
 by_cases h1:16<(s.size:Int)
 ·have HR:Hid (nmOk s=false):=nm_no (by omega)
  go_enter Tryz.func82,Tryz.ntmps82
  go_wp2
  go_ret
  exact⟨by rw[HR.out];rfl,rfl⟩
 have hp:0<s.size:=by omega
 have hp':(0:Int)<s.size:=by omega
 have HL0:Hid (ltr s[0]=true ↔ 97≤(s[0]).toNat∧(s[0]).toNat≤122):=by show _ ↔ _;simp[ltr]
 by_cases h2:((s[0]).toNat:Int)<97
 ·have HR:Hid (nmOk s=false):=nm_no (fun h=>by have:=HL0.out.1 (h.2.1 hp);omega)
  clear HL0
  go_enter Tryz.func82,Tryz.ntmps82
  go_wp2
  go_ret
  exact⟨by rw[HR.out];rfl,rfl⟩
 by_cases h3:122<((s[0]).toNat:Int)
 ·have HR:Hid (nmOk s=false):=nm_no (fun h=>by have:=HL0.out.1 (h.2.1 hp);omega)
  clear HL0
  go_enter Tryz.func82,Tryz.ntmps82
  go_wp2
  go_ret
  exact⟨by rw[HR.out];rfl,rfl⟩
 have HL:Hid (ltr s[0]=true):=HL0.out.2 (by omega)
 clear HL0
 go_enter Tryz.func82,Tryz.ntmps82
 go_wp2_with fail
 clear h2 h3
 go_loopw [3] (fun i wr=> ∃k:Nat,i= .int .i64 k∧k≤s.size∧wr=w∧Hid (∀j (h:j<s.size),j<k→sgn s[j]=true)) (fun i _=>s.size - (intOf i).toNat)
 case atStart=>exact⟨0,rfl,by omega,rfl,fun _ _ h=>by omega⟩
 case round=>
  obtain⟨k,rfl,hk,rfl,hall⟩:=hrel
  by_cases hlt:k<s.size
  ·have hlt':(k:Int)<s.size:=by omega
   have hc:=(s[k]).toNat_lt
   have HB:Hid (sgn s[k]=false→nmOk s=false):=fun h=>nm_no (fun h'=>by have:=h'.2.2 k hlt;rw[h] at this;simp at this)
   have HG:Hid (sgn s[k]=true→ ∀j (h:j<s.size),j<k+1→sgn s[j]=true):=fun h j hj hjk=>by
    rcases Nat.lt_or_ge j k with h1|h1
    ·exact hall.out j hj h1
    ·obtain rfl:j=k:=by omega
     exact h
   have HD:Hid (sgn s[k]=true ↔ ((97≤(s[k]).toNat∧(s[k]).toNat≤122)∨(48≤(s[k]).toNat∧(s[k]).toNat≤57))∨(s[k]).toNat=95):=by
    show _ ↔ _
    simp[sgn,ltr,dgt]
   clear hall
   have main: ∀z:Int,z=(s[k]).toNat→(97≤z∧z≤122)∨(z<48)∨(48≤z∧z≤57)∨(57<z∧z<97∧z=95)∨(57<z∧z<97∧z≠95)∨(122<z∧z≠95∧57<z):=fun z hz=>by omega
   have hh:=main _ rfl
   clear main
   rcases hh with⟨e1,e2⟩|e1|⟨e1,e2⟩|⟨e1,e2,e3⟩|⟨e1,e2,e3⟩|⟨e1,e2,e3⟩
   ·have HE:Hid _:=HG.out (by rw[HD.out];omega)
    clear HG HB HD
    go_wp2_with fail
    go_roundw
    case rel=>exact⟨k+1,by go_num,by omega,by first|rfl|trivial,HE⟩
    case measure=>simp[intOf];omega
   ·have HE:Hid (nmOk s=false):=HB.out (by rw[←Bool.not_eq_true,HD.out];omega)
    clear HG HB HD
    go_wp2_with fail
    go_ret
    exact⟨by rw[HE.out];rfl,rfl⟩
   ·have HE:Hid _:=HG.out (by rw[HD.out];omega)
    clear HG HB HD
    go_wp2_with fail
    go_roundw
    case rel=>exact⟨k+1,by go_num,by omega,by first|rfl|trivial,HE⟩
    case measure=>simp[intOf];omega
   ·have HE:Hid _:=HG.out (by rw[HD.out];omega)
    clear HG HB HD
    go_wp2_with fail
    go_roundw
    case rel=>exact⟨k+1,by go_num,by omega,by first|rfl|trivial,HE⟩
    case measure=>simp[intOf];omega
   ·have HE:Hid (nmOk s=false):=HB.out (by rw[←Bool.not_eq_true,HD.out];omega)
    clear HG HB HD
    go_wp2_with fail
    go_ret
    exact⟨by rw[HE.out];rfl,rfl⟩
   ·have HE:Hid (nmOk s=false):=HB.out (by rw[←Bool.not_eq_true,HD.out];omega)
    clear HG HB HD
    go_wp2_with fail
    go_ret
    exact⟨by rw[HE.out];rfl,rfl⟩
  ·have hlt': ¬(k:Int)<s.size:=by omega
   have HR:Hid (nmOk s=true):=by
    show _=_
    rw[nmOk_iff];exact⟨by omega,fun _=>HL.out,fun i hi=>hall.out i hi (by omega)⟩
   go_wp2
   go_ret
   exact⟨by rw[HR.out];rfl,rfl⟩
open Go Go.Sort
theorem rtable_no (t:Tbl) (ao:Option Addr) (c:Nat) (w:World) (h:SL w ao (ccl t.cols)) (hn:rightE t≠0):Calls Tryz.prog 83 #[tA t.id t.ver t.nm (.slice ao t.cols.length c) t.key] w fun x w'=>x= .returned (.tuple #[.string ⟨#[]⟩,.bool false])∧Tch (fun _=>False) w w':=by
 have HQ:Hid (∀W,Tch (fun _=>False) w W→Calls Tryz.prog 111 #[tA t.id t.ver t.nm (.slice ao t.cols.length c) t.key] W fun x w'=>x= .returned (.int .i64 (rightE t))∧Tch (fun _=>False) W w'):=fun W tw=>rright_any t ao c W (h.no tw)
 obtain⟨e,he⟩: ∃e,e=rightE t:=⟨_,rfl⟩
 rw[←he] at HQ hn
 have hb:(e !=0)=true:=by simpa using hn
 obtain⟨n,hnn⟩: ∃n,n=t.cols.length:=⟨_,rfl⟩
 rw[←hnn] at HQ ⊢
 clear h he hn hnn
 go_enter Tryz.func83,Tryz.ntmps83
 go_wp2_with fail
 refine(HQ.out _ (Tch.alloc _ _ _)).mono ?_
 rintro x w1 ⟨rfl,t1⟩
 go_wp2_with fail
 go_ret2
 exact⟨rfl,(Tch.alloc _ _ _).trans' t1⟩
theorem bl_add4 (a b c d:List UInt8):bl (bB a++bB b++bB c++bB d)=a++(b++(c++d)):=by
 simp only[bl_app,bl_bB,List.append_assoc]
theorem rtable_ok (t:Tbl) (ao:Option Addr) (c:Nat) (w:World) (h:SL w ao (ccl t.cols)) (hr:rightE t=0):Calls Tryz.prog 83 #[tA t.id t.ver t.nm (.slice ao t.cols.length c) t.key] w fun x w'=>x= .returned (.tuple #[.string (bB (tabL t)),.bool true])∧Tch (fun _=>False) w w':=by
 have hrt:=right_rt hr
 have HQ:Hid (∀W,Tch (fun _=>False) w W→Calls Tryz.prog 111 #[tA t.id t.ver t.nm (.slice ao t.cols.length c) t.key] W fun x w'=>x= .returned (.int .i64 0)∧Tch (fun _=>False) W w'):=fun W tw=>by
  have:=rright_any t ao c W (h.no tw)
  rw[hr] at this
  exact this
 obtain⟨n,hnn⟩: ∃n,n=t.cols.length:=⟨_,rfl⟩
 have i1:=hrt.id
 have i2:=hrt.ver
 have i3:=nm_size hrt.nm
 have i4:=hrt.len
 have i5:=hrt.key
 rw[←hnn] at i4 i5
 have HN:Hid (n=t.cols.length):=hnn
 have HRT:Hid (RT t):=hrt
 have HSL:Hid (∀W,Tch (fun _=>False) w W→SL W ao (ccl t.cols)):=fun W tw=>h.no tw
 have HD1:Hid (∀W,Calls Tryz.prog 78 #[.int .i64 t.id] W fun x w'=>x= .returned (.string (bB (dg t.id.toNat)))∧Tch (fun _=>False) W w'):=fun W=>rdig_ok t.id (by omega) (by omega) W
 have HD2:Hid (∀W,Calls Tryz.prog 78 #[.int .i64 t.ver] W fun x w'=>x= .returned (.string (bB (dg t.ver.toNat)))∧Tch (fun _=>False) W w'):=fun W=>rdig_ok t.ver (by omega) (by omega) W
 have HTX:Hid (∀W,Calls Tryz.prog 81 #[.string t.nm] W fun x w'=>x= .returned (.string (bB (textL t.nm)))∧Tch (fun _=>False) W w'):=fun W=>rtext_ok t.nm (by omega) W
 have HNM:Hid (∀W,Calls Tryz.prog 45 #[.int .i64 (n:Int)] W fun x w'=>x= .returned (.string (bB (bytesL [(n:Int)])))∧Tch (fun _=>False) W w'):=fun W=>rnum_ok n (by omega) (by omega) W
 have HKY:Hid (∀W,Calls Tryz.prog 45 #[.int .i64 t.key] W fun x w'=>x= .returned (.string (bB (bytesL [t.key])))∧Tch (fun _=>False) W w'):=fun W=>rnum_ok t.key (by omega) (by omega) W
 have HN0:Hid (∀b:Bool, ∀W,Calls Tryz.prog 45 #[.int .i64 (nb b)] W fun x w'=>x= .returned (.string (bB (bytesL [nb b])))∧Tch (fun _=>False) W w'):=fun b W=>rnum_ok (nb b) (nb_rng b).1 (nb_rng b).2 W
 have HBT:Hid (bB (tabL t)=bB (dg t.id.toNat++(dg t.ver.toNat++(textL t.nm++(bytesL [(n:Int)]++(colsL t.cols++bytesL [t.key])))))):=by show _=_;rw[HN.out];rfl
 obtain⟨D1,hD1⟩: ∃D1,D1=bB (dg t.id.toNat):=⟨_,rfl⟩
 obtain⟨D2,hD2⟩: ∃D2,D2=bB (dg t.ver.toNat):=⟨_,rfl⟩
 obtain⟨TX,hTX⟩: ∃TX,TX=bB (textL t.nm):=⟨_,rfl⟩
 obtain⟨NM,hNM⟩: ∃NM,NM=bB (bytesL [(n:Int)]):=⟨_,rfl⟩
 obtain⟨KY,hKY⟩: ∃KY,KY=bB (bytesL [t.key]):=⟨_,rfl⟩
 obtain⟨HEAD,hHEAD⟩: ∃HEAD,HEAD=dg t.id.toNat++(dg t.ver.toNat++(textL t.nm++bytesL [(n:Int)])):=⟨_,rfl⟩
 have s1:D1.size≤10:=by rw[hD1,size_bB];exact dg_len _
 have s2:D2.size≤10:=by rw[hD2,size_bB];exact dg_len _
 have s3:TX.size≤26:=by rw[hTX,size_bB,textL_bl,List.length_append,bl_size];have:=dg_len t.nm.size;omega
 have s4:NM.size≤1:=by rw[hNM,size_bB];exact Nat.le_refl 1
 have s5:KY.size≤1:=by rw[hKY,size_bB];exact Nat.le_refl 1
 have HH:Hid (bl (D1++D2++TX++NM)=HEAD∧HEAD.length≤47):=by
  have e:bl (D1++D2++TX++NM)=HEAD:=by rw[hD1,hD2,hTX,hNM,hHEAD];exact bl_add4 _ _ _ _
  refine⟨e,?_⟩
  rw[←e,bl_size,size_app,size_app,size_app];omega
 have HEND:Hid (∀S,bl S=HEAD++colsL t.cols→S++KY=bB (tabL t)):=fun S hS=>by
  rw[HBT.out]
  apply bB_of
  rw[bl_app,hS,hKY,bl_bB,hHEAD]
  simp only[List.append_assoc]
 rw[←hD1] at HD1
 rw[←hD2] at HD2
 rw[←hTX] at HTX
 rw[←hNM] at HNM
 rw[←hKY] at HKY
 obtain⟨w0,hw0⟩: ∃w0,w0=w.alloc (.cells #[.int .i64 t.id,.int .i64 t.ver,.string t.nm,.slice ao n c,.int .i64 t.key] 29):=⟨_,rfl⟩
 have T0:Tch (fun _=>False) w w0:=by rw[hw0];exact Tch.alloc _ _ _
 obtain⟨N,hNn⟩: ∃N,N=w.heap.size:=⟨_,rfl⟩
 have HB:Hid (∀W,Tch (fun _=>False) w0 W→W.cell? ⟨N,0,none⟩=some (.int .i64 t.id)∧W.cell? ⟨N,1,none⟩=some (.int .i64 t.ver)∧W.cell? ⟨N,2,none⟩=some (.string t.nm)∧W.cell? ⟨N,3,none⟩=some (.slice ao n c)∧W.cell? ⟨N,4,none⟩=some (.int .i64 t.key)):=fun W tw=>by
  rw[hw0] at tw;rw[hNn];exact box5 tw
 have HT0:Hid (Tch (fun _=>False) w w0):=T0
 have HW0:Hid (w0=w.alloc (.cells #[.int .i64 t.id,.int .i64 t.ver,.string t.nm,.slice ao n c,.int .i64 t.key] 29)):=hw0
 have HNN:Hid (N=w.heap.size):=hNn
 rw[←hnn]
 rw[←hnn] at HQ
 have q:=HQ.out w0 T0
 rw[hw0] at q
 clear h hr hrt i1 i2 i3 i5 hD1 hD2 hTX hNM hKY hHEAD HBT HQ hw0 T0 hNn hnn
 go_enter Tryz.func83,Tryz.ntmps83
 go_wp2_with fail
 refine q.mono ?_
 rintro x w1 ⟨rfl,t1⟩
 rw[←HW0.out] at t1
 have T1:=HT0.out.trans' t1
 have HT1:Hid (Tch (fun _=>False) w w1):=T1
 obtain⟨b0,b1,b2,b3,b4⟩:=HB.out w1 t1
 have HU1:Hid (Tch (fun _=>False) w0 w1):=t1
 rw[HNN.out] at b0 b1 b2 b3 b4
 have k0:=cell_regrown b0
 have k1:=cell_regrown b1
 have k2:=cell_regrown b2
 have k3:=cell_regrown b3
 have c1:=fun(d:Nat) (os:Array Obj)=>regrown_calls (w:=w1) (fun W _=>HD1.out W) d os
 have c2:=fun(d:Nat) (os:Array Obj)=>regrown_calls (w:=w1) (fun W _=>HD2.out W) d os
 have c3:=fun(d:Nat) (os:Array Obj)=>regrown_calls (w:=w1) (fun W _=>HTX.out W) d os
 have c4:=fun(d:Nat) (os:Array Obj)=>regrown_calls (w:=w1) (fun W _=>HNM.out W) d os
 clear q t1 T1
 go_wp2_with fail
 refine wp_region_quiet_below (by kernel_rfl) (by kernel_rfl) ?_
 quiet_step (fail)
 quiet_step (fail)
 quiet_step ((go_at_call 78;exact c1 _ _))
 quiet_step (fail)
 quiet_step (fail)
 quiet_step ((go_at_call 78;exact c2 _ _))
 quiet_step ((rw[if_neg (by omega)];exact⟨rfl,rfl⟩))
 quiet_step (fail)
 quiet_step (fail)
 quiet_step ((go_at_call 81;exact c3 _ _))
 quiet_step ((rw[if_neg (by omega)];exact⟨rfl,rfl⟩))
 quiet_step (fail)
 quiet_step (fail)
 quiet_step (fail)
 quiet_step ((go_at_call 45;exact c4 _ _))
 quiet_step ((rw[if_neg (by omega)];exact⟨rfl,rfl⟩))
 quiet_step (fail)
 refine wpQuiet_nil ?_
 rintro w2 ⟨p,rfl⟩
 have HE:Hid (Tch (fun _=>False) w0 (grow (redrawn w1 p.d) p.os)):=HU1.out.trans' (Tch.regrown w1 p.d p.os)
 obtain⟨W2,hW2⟩: ∃W2,W2=grow (redrawn w1 p.d) p.os:=⟨_,rfl⟩
 rw[←hW2] at HE ⊢
 clear hW2 k0 k1 k2 k3 b0 b1 b2 b3 b4 c1 c2 c3 c4 HU1 HT1 s1 s2 s3 s4 HD1 HD2 HTX HNM
 obtain⟨S0,hS0⟩: ∃S0,S0=D1++D2++TX++NM:=⟨_,rfl⟩
 rw[←hS0] at HH ⊢
 clear hS0
 go_wp2_with fail
 go_loopw [5,6] (fun s i wr=> ∃(S:ByteArray) (k:Nat),s= .string S∧i= .int .i64 k∧k≤n∧Hid (bl S=HEAD++colsL (t.cols.take k))∧S.size≤47+28*k∧Hid (Tch (fun _=>False) w0 wr)) (fun _ i _=>n - (intOf i).toNat)
 case atStart=>exact⟨S0,0,rfl,rfl,Nat.zero_le _,by show bl S0=_;rw[HH.out.1];simp[colsL],by rw[←bl_size,HH.out.1];have:=HH.out.2;omega,HE⟩
 case round=>
  obtain⟨S,k,rfl,rfl,hk,HS,hsz,HT⟩:=hrel
  have hT:=HT.out
  obtain⟨b0,b1,b2,b3,b4⟩:=HB.out wr hT
  have hNl:=cell_lt b0
  rw[HNN.out] at b0 b1 b2 b3 b4 hNl
  by_cases hlt:(k:Int)<n
  ·have hkc:k<t.cols.length:=by have:=HN.out;omega
   obtain⟨g,o,rfl,ha⟩:=(HSL.out wr (HT0.out.trans' hT)).col hkc
   obtain⟨a0,a1,a2⟩:=ha.col k hkc
   obtain⟨x,hx⟩: ∃x,x=t.cols[k]:=⟨_,rfl⟩
   rw[←hx] at a0 a1 a2
   have hcx:=HRT.out.cols x (by rw[hx];exact List.getElem_mem hkc)
   have hxs:=nm_size hcx.1
   have hkd:=kd_rng hcx.2
   have HCL:Hid (colsL (t.cols.take (k+1))=colsL (t.cols.take k)++(textL x.nm++(bytesL [x.k]++bytesL [nb x.nl]))):=by
    show _=_
    rw[(List.take_append_getElem hkc).symm,hx]
    unfold colsL
    rw[List.flatMap_append]
    simp[colL,bytesL]
   obtain⟨TN,hTN⟩: ∃TN,TN=bB (textL x.nm):=⟨_,rfl⟩
   obtain⟨KN,hKN⟩: ∃KN,KN=bB (bytesL [x.k]):=⟨_,rfl⟩
   obtain⟨BN,hBN⟩: ∃BN,BN=bB (bytesL [nb x.nl]):=⟨_,rfl⟩
   have q3:=HN0.out x.nl
   have q1:=fun W=>rtext_ok x.nm (by omega) W
   have q2:=fun W=>rnum_ok x.k (by omega) (by omega) W
   rw[←hTN] at q1
   rw[←hKN] at q2
   rw[←hBN] at q3
   have z1:TN.size≤26:=by rw[hTN,size_bB,textL_bl,List.length_append,bl_size];have:=dg_len x.nm.size;omega
   have z2:KN.size≤1:=by rw[hKN,size_bB];exact Nat.le_refl 1
   have z3:BN.size≤1:=by rw[hBN,size_bB];exact Nat.le_refl 1
   have HST:Hid (bl (S++TN++KN++BN)=HEAD++colsL (t.cols.take (k+1))∧(S++TN++KN++BN).size≤47+28*(k+1)):=by
    refine⟨?_,by simp only[size_app];omega⟩
    rw[HCL.out,bl_app,bl_app,bl_app,HS.out,hTN,hKN,hBN,bl_bB,bl_bB,bl_bB]
    simp only[List.append_assoc]
   obtain⟨wb,hwb⟩: ∃wb,wb=wr.alloc (.cells #[.string x.nm,.int .i64 x.k,.bool x.nl] 43):=⟨_,rfl⟩
   have tb:Tch (fun _=>False) wr wb:=by rw[hwb];exact Tch.alloc _ _ _
   have HTB:Hid (Tch (fun _=>False) w0 wb):=hT.trans' tb
   have g0:wb.cell? ⟨wr.heap.size,0,none⟩=some (.string x.nm):=by rw[hwb];simp
   have g1:wb.cell? ⟨wr.heap.size,1,none⟩=some (.int .i64 x.k):=by rw[hwb];simp
   have g2:wb.cell? ⟨wr.heap.size,2,none⟩=some (.bool x.nl):=by rw[hwb];simp
   have k0:=cell_regrown g0
   have k1:=cell_regrown g1
   have k2:=cell_regrown g2
   have c1:=fun(d:Nat) (os:Array Obj)=>regrown_calls (w:=wb) (fun W _=>q1 W) d os
   have c2:=fun(d:Nat) (os:Array Obj)=>regrown_calls (w:=wb) (fun W _=>q2 W) d os
   have HQ3:Hid _:=q3
   have HWB:Hid (wb=wr.alloc (.cells #[.string x.nm,.int .i64 x.k,.bool x.nl] 43)):=hwb
   have HXN:Hid (t.cols[k]=x):=hx.symm
   clear hx ha hcx hxs hkd HCL hTN hKN hBN q1 q2 q3 hwb tb hT b0 b1 b2 b4 hNl HS
   go_wp2_with fail
   rw[←HWB.out]
   refine wp_region_quiet_below (by kernel_rfl) (by kernel_rfl) ?_
   quiet_step (fail)
   quiet_step (fail)
   quiet_step (fail)
   quiet_step ((go_at_call 81;exact c1 _ _))
   quiet_step ((rw[if_neg (by omega)];exact⟨rfl,rfl⟩))
   quiet_step (fail)
   quiet_step (fail)
   quiet_step ((go_at_call 45;exact c2 _ _))
   quiet_step ((rw[if_neg (by omega)];exact⟨rfl,rfl⟩))
   quiet_step (fail)
   refine wpQuiet_nil ?_
   rintro w3 ⟨p,rfl⟩
   have HE3:Hid (Tch (fun _=>False) w0 (grow (redrawn wb p.d) p.os)):=HTB.out.trans' (Tch.regrown wb p.d p.os)
   have m2:=k2 p.d p.os
   obtain⟨W3,hW3⟩: ∃W3,W3=grow (redrawn wb p.d) p.os:=⟨_,rfl⟩
   rw[←hW3] at HE3 m2 ⊢
   clear hW3 k0 k1 k2 g0 g1 g2 c1 c2 a0 a1 a2 b3
   obtain⟨bn,hbn⟩: ∃bn,bn=x.nl:=⟨_,rfl⟩
   rw[←hbn] at m2 HQ3
   have y1:(S++TN++KN).size≤1000:=by simp only[size_app];omega
   clear hbn
   cases bn
   all_goals
    have q3:=HQ3.out W3
    simp only[nb] at q3
    go_wp2_with fail
    refine q3.mono ?_
    rintro x w4 ⟨rfl,t4⟩
    have HE4:Hid (Tch (fun _=>False) w0 w4):=HE3.out.trans' t4
    clear q3 t4
    go_wp2_with fail
    go_roundw
    case rel=>exact⟨_,k+1,rfl,by go_num,by omega,HST.out.1,HST.out.2,HE4⟩
    case measure=>simp[intOf];omega
  ·have HEQ:Hid (S++KY=bB (tabL t)):=HEND.out S (by rw[HS.out,List.take_of_length_le];have:=HN.out;omega)
   have q5:=HKY.out wr
   clear HS b0 b1 b2 hNl
   go_wp2_with fail
   refine q5.mono ?_
   rintro x w4 ⟨rfl,t4⟩
   clear q5
   go_wp2_with fail
   go_ret2
   exact⟨by rw[←HEQ.out];rfl,(HT0.out.trans' hT).trans' t4⟩
open Classical in
noncomputable def fldB (r:Rc) (c:Nat):ByteArray:=match c with
 |120=>bB (dgI r.x)
 |110=>bB (dgI r.x)
 |112=>bB (dgI r.p)
 |116=>bB (dgI r.t)
 |117=>bB (dgI r.t)
 |111=>bB (rowL r.o)
 |119=>bB (rowL r.n)
 |99=>if orOk r.nm r.org then bB (textL r.nm++dg r.org.toNat) else⟨#[]⟩
 |109=>bB (textL r.nm)
 |97=>if rightE r.tb=0 then bB (tabL r.tb) else⟨#[]⟩
 |108=>if LDp r.tbs r.t then bB (bytesL [(r.tbs.length:Int)]++tabsL r.tbs) else⟨#[]⟩
 |_=>⟨#[]⟩
theorem fldB_ok {r:Rc} {c:Nat} (h:okF r c):fldB r c=bB (fldL r c):=by
 unfold okF at h
 unfold fldB fldL
 split at h
 all_goals first
  |rfl
  |exact h.elim
  |exact if_pos h
  |exact congrArg bB (dgI_pos (by unfold rtN at h;omega))
  |exact congrArg bB (dgI_pos (by unfold rtNx at h;omega))
theorem d_eq {d:Bool} {p:Prop} [Decidable p] (h:d=true ↔ p):decide p=d:=by
 cases d
 ·exact decide_eq_false (fun hp=>by have:=h.2 hp;simp at this)
 ·exact decide_eq_true (h.1 rfl)
theorem field_x (r:Rc) (s:Sk) (w:World) (hx: -9223372036854775808≤r.x∧r.x≤9223372036854775807) (d:Bool) (hd:d=true ↔ okF r 120):Calls Tryz.prog 47 #[rV r s,.int .u8 120] w fun x w'=>x= .returned (.tuple #[.string (fldB r 120),.bool d])∧Tch (fun _=>False) w w':=by
 have hd':d=true ↔ rtN r.x:=hd
 have q1:=fun W=>rxid_any r.x W
 rw[d_eq hd'] at q1
 have q2:=fun W=>rdig6 r.x hx W
 have HFB:Hid (fldB r 120=bB (dgI r.x)):=rfl
 obtain⟨b,hb⟩: ∃b,b=bB (dgI r.x):=⟨_,rfl⟩
 rw[←hb] at q2 HFB
 rw[HFB.out]
 have HK:Hid (∀W,Tch (fun _=>False) (w.alloc (.cells #[.int .i64 r.k,.int .i64 r.x,.int .i64 r.p,.int .i64 r.t,.slice s.oo r.o.length s.oc,.slice s.no r.n.length s.nc,.string r.nm,.int .i64 r.org,.int .i64 r.tb.id,.int .i64 r.tb.ver,.string r.tb.nm,.slice s.co r.tb.cols.length s.cc,.int .i64 r.tb.key,.slice s.to s.P.length s.tc] 37)) W→W.heap[w.heap.size]? =some (.cells #[.int .i64 r.k,.int .i64 r.x,.int .i64 r.p,.int .i64 r.t,.slice s.oo r.o.length s.oc,.slice s.no r.n.length s.nc,.string r.nm,.int .i64 r.org,.int .i64 r.tb.id,.int .i64 r.tb.ver,.string r.tb.nm,.slice s.co r.tb.cols.length s.cc,.int .i64 r.tb.key,.slice s.to s.P.length s.tc] 37 (0,0))):=fun W t=>(t.block _ (by simp) (fun h=>h)).trans (heap_new w _)
 clear hd hd' hx hb
 go_enter Tryz.func47,Tryz.ntmps47
 go_wp2_with fail
 refine(q1 _).mono ?_
 rintro x w1 ⟨rfl,hw1⟩
 obtain rfl:=hw1.symm
 clear hw1 q1
 go_wp2_with fail
 refine(q2 _).mono ?_
 rintro x w2 ⟨rfl,t2⟩
 clear q2
 go_wp2_with fail
 go_ret2
 exact⟨rfl,(Tch.alloc _ _ _).trans' t2⟩
theorem field_n (r:Rc) (s:Sk) (w:World) (hx: -9223372036854775808≤r.x∧r.x≤9223372036854775807) (d:Bool) (hd:d=true ↔ okF r 110):Calls Tryz.prog 47 #[rV r s,.int .u8 110] w fun x w'=>x= .returned (.tuple #[.string (fldB r 110),.bool d])∧Tch (fun _=>False) w w':=by
 have hd':d=true ↔ rtNx r.x:=hd
 have q1:=fun W=>rnext_any r.x W
 rw[d_eq hd'] at q1
 have q2:=fun W=>rdig6 r.x hx W
 have HFB:Hid (fldB r 110=bB (dgI r.x)):=rfl
 obtain⟨b,hb⟩: ∃b,b=bB (dgI r.x):=⟨_,rfl⟩
 rw[←hb] at q2 HFB
 rw[HFB.out]
 have HK:Hid (∀W,Tch (fun _=>False) (w.alloc (.cells #[.int .i64 r.k,.int .i64 r.x,.int .i64 r.p,.int .i64 r.t,.slice s.oo r.o.length s.oc,.slice s.no r.n.length s.nc,.string r.nm,.int .i64 r.org,.int .i64 r.tb.id,.int .i64 r.tb.ver,.string r.tb.nm,.slice s.co r.tb.cols.length s.cc,.int .i64 r.tb.key,.slice s.to s.P.length s.tc] 37)) W→W.heap[w.heap.size]? =some (.cells #[.int .i64 r.k,.int .i64 r.x,.int .i64 r.p,.int .i64 r.t,.slice s.oo r.o.length s.oc,.slice s.no r.n.length s.nc,.string r.nm,.int .i64 r.org,.int .i64 r.tb.id,.int .i64 r.tb.ver,.string r.tb.nm,.slice s.co r.tb.cols.length s.cc,.int .i64 r.tb.key,.slice s.to s.P.length s.tc] 37 (0,0))):=fun W t=>(t.block _ (by simp) (fun h=>h)).trans (heap_new w _)
 clear hd hd' hx hb
 go_enter Tryz.func47,Tryz.ntmps47
 go_wp2_with fail
 refine(q1 _).mono ?_
 rintro x w1 ⟨rfl,hw1⟩
 obtain rfl:=hw1.symm
 clear hw1 q1
 go_wp2_with fail
 refine(q2 _).mono ?_
 rintro x w2 ⟨rfl,t2⟩
 clear q2
 go_wp2_with fail
 go_ret2
 exact⟨rfl,(Tch.alloc _ _ _).trans' t2⟩
theorem field_t (r:Rc) (s:Sk) (w:World) (hx: -9223372036854775808≤r.t∧r.t≤9223372036854775807) (d:Bool) (hd:d=true ↔ okF r 116):Calls Tryz.prog 47 #[rV r s,.int .u8 116] w fun x w'=>x= .returned (.tuple #[.string (fldB r 116),.bool d])∧Tch (fun _=>False) w w':=by
 have hd':d=true ↔ rtN r.t:=hd
 have q1:=fun W=>rxid_any r.t W
 rw[d_eq hd'] at q1
 have q2:=fun W=>rdig6 r.t hx W
 have HFB:Hid (fldB r 116=bB (dgI r.t)):=rfl
 obtain⟨b,hb⟩: ∃b,b=bB (dgI r.t):=⟨_,rfl⟩
 rw[←hb] at q2 HFB
 rw[HFB.out]
 have HK:Hid (∀W,Tch (fun _=>False) (w.alloc (.cells #[.int .i64 r.k,.int .i64 r.x,.int .i64 r.p,.int .i64 r.t,.slice s.oo r.o.length s.oc,.slice s.no r.n.length s.nc,.string r.nm,.int .i64 r.org,.int .i64 r.tb.id,.int .i64 r.tb.ver,.string r.tb.nm,.slice s.co r.tb.cols.length s.cc,.int .i64 r.tb.key,.slice s.to s.P.length s.tc] 37)) W→W.heap[w.heap.size]? =some (.cells #[.int .i64 r.k,.int .i64 r.x,.int .i64 r.p,.int .i64 r.t,.slice s.oo r.o.length s.oc,.slice s.no r.n.length s.nc,.string r.nm,.int .i64 r.org,.int .i64 r.tb.id,.int .i64 r.tb.ver,.string r.tb.nm,.slice s.co r.tb.cols.length s.cc,.int .i64 r.tb.key,.slice s.to s.P.length s.tc] 37 (0,0))):=fun W t=>(t.block _ (by simp) (fun h=>h)).trans (heap_new w _)
 clear hd hd' hx hb
 go_enter Tryz.func47,Tryz.ntmps47
 go_wp2_with fail
 refine(q1 _).mono ?_
 rintro x w1 ⟨rfl,hw1⟩
 obtain rfl:=hw1.symm
 clear hw1 q1
 go_wp2_with fail
 refine(q2 _).mono ?_
 rintro x w2 ⟨rfl,t2⟩
 clear q2
 go_wp2_with fail
 go_ret2
 exact⟨rfl,(Tch.alloc _ _ _).trans' t2⟩
theorem field_u (r:Rc) (s:Sk) (w:World) (hx: -9223372036854775808≤r.t∧r.t≤9223372036854775807) (d:Bool) (hd:d=true ↔ okF r 117):Calls Tryz.prog 47 #[rV r s,.int .u8 117] w fun x w'=>x= .returned (.tuple #[.string (fldB r 117),.bool d])∧Tch (fun _=>False) w w':=by
 have hd':d=true ↔ rtNx r.t:=hd
 have q1:=fun W=>rnext_any r.t W
 rw[d_eq hd'] at q1
 have q2:=fun W=>rdig6 r.t hx W
 have HFB:Hid (fldB r 117=bB (dgI r.t)):=rfl
 obtain⟨b,hb⟩: ∃b,b=bB (dgI r.t):=⟨_,rfl⟩
 rw[←hb] at q2 HFB
 rw[HFB.out]
 have HK:Hid (∀W,Tch (fun _=>False) (w.alloc (.cells #[.int .i64 r.k,.int .i64 r.x,.int .i64 r.p,.int .i64 r.t,.slice s.oo r.o.length s.oc,.slice s.no r.n.length s.nc,.string r.nm,.int .i64 r.org,.int .i64 r.tb.id,.int .i64 r.tb.ver,.string r.tb.nm,.slice s.co r.tb.cols.length s.cc,.int .i64 r.tb.key,.slice s.to s.P.length s.tc] 37)) W→W.heap[w.heap.size]? =some (.cells #[.int .i64 r.k,.int .i64 r.x,.int .i64 r.p,.int .i64 r.t,.slice s.oo r.o.length s.oc,.slice s.no r.n.length s.nc,.string r.nm,.int .i64 r.org,.int .i64 r.tb.id,.int .i64 r.tb.ver,.string r.tb.nm,.slice s.co r.tb.cols.length s.cc,.int .i64 r.tb.key,.slice s.to s.P.length s.tc] 37 (0,0))):=fun W t=>(t.block _ (by simp) (fun h=>h)).trans (heap_new w _)
 clear hd hd' hx hb
 go_enter Tryz.func47,Tryz.ntmps47
 go_wp2_with fail
 refine(q1 _).mono ?_
 rintro x w1 ⟨rfl,hw1⟩
 obtain rfl:=hw1.symm
 clear hw1 q1
 go_wp2_with fail
 refine(q2 _).mono ?_
 rintro x w2 ⟨rfl,t2⟩
 clear q2
 go_wp2_with fail
 go_ret2
 exact⟨rfl,(Tch.alloc _ _ _).trans' t2⟩
theorem field_p (r:Rc) (s:Sk) (w:World) (hx: -9223372036854775808≤r.p∧r.p≤9223372036854775807) (d:Bool) (hd:d=true ↔ okF r 112):Calls Tryz.prog 47 #[rV r s,.int .u8 112] w fun x w'=>x= .returned (.tuple #[.string (fldB r 112),.bool d])∧Tch (fun _=>False) w w':=by
 have q1:=fun W=>rxid_any r.p W
 obtain⟨e,he⟩: ∃e,e=decide (rtN r.p):=⟨_,rfl⟩
 rw[←he] at q1
 have HD:Hid (d=true ↔ e=true∧r.p<r.x):=by
  show d=true ↔ _
  rw[hd,he,decide_eq_true_iff]
  exact Iff.rfl
 have q2:=fun W=>rdig6 r.p hx W
 have HFB:Hid (fldB r 112=bB (dgI r.p)):=rfl
 obtain⟨b,hb⟩: ∃b,b=bB (dgI r.p):=⟨_,rfl⟩
 rw[←hb] at q2 HFB
 rw[HFB.out]
 obtain⟨w0,hw0⟩: ∃w0,w0=w.alloc (.cells #[.int .i64 r.k,.int .i64 r.x,.int .i64 r.p,.int .i64 r.t,.slice s.oo r.o.length s.oc,.slice s.no r.n.length s.nc,.string r.nm,.int .i64 r.org,.int .i64 r.tb.id,.int .i64 r.tb.ver,.string r.tb.nm,.slice s.co r.tb.cols.length s.cc,.int .i64 r.tb.key,.slice s.to s.P.length s.tc] 37):=⟨_,rfl⟩
 have b0:w0.heap[w.heap.size]? =some (.cells #[.int .i64 r.k,.int .i64 r.x,.int .i64 r.p,.int .i64 r.t,.slice s.oo r.o.length s.oc,.slice s.no r.n.length s.nc,.string r.nm,.int .i64 r.org,.int .i64 r.tb.id,.int .i64 r.tb.ver,.string r.tb.nm,.slice s.co r.tb.cols.length s.cc,.int .i64 r.tb.key,.slice s.to s.P.length s.tc] 37 (0,0)):=by rw[hw0];exact heap_new w _
 have HT0:Hid (Tch (fun _=>False) w w0):=by show Tch _ _ _;rw[hw0];exact Tch.alloc _ _ _
 have y1:=blk_cell b0 1
 have y2:=blk_cell b0 2
 simp only[List.getElem?_toArray,List.getElem?_cons_succ,List.getElem?_cons_zero] at y1 y2
 have k1:=cell_regrown y1
 have k2:=cell_regrown y2
 have c1:=fun(dd:Nat) (os:Array Obj)=>regrown_calls (w:=w0) (fun W _=>q2 W) dd os
 have HW0:Hid (w0=w.alloc (.cells #[.int .i64 r.k,.int .i64 r.x,.int .i64 r.p,.int .i64 r.t,.slice s.oo r.o.length s.oc,.slice s.no r.n.length s.nc,.string r.nm,.int .i64 r.org,.int .i64 r.tb.id,.int .i64 r.tb.ver,.string r.tb.nm,.slice s.co r.tb.cols.length s.cc,.int .i64 r.tb.key,.slice s.to s.P.length s.tc] 37)):=hw0
 clear hd hx hb he q2 b0 hw0
 by_cases hlt:r.p<r.x
 ·have hdl:decide (r.p<r.x)=true:=decide_eq_true hlt
  obtain rfl:e=d:=Bool.eq_iff_iff.2 ⟨fun he=>HD.out.2 ⟨he,hlt⟩,fun hd=>(HD.out.1 hd).1⟩
  clear HD hlt
  cases e
  all_goals
   go_enter Tryz.func47,Tryz.ntmps47
   go_wp2_with fail
   refine(q1 _).mono ?_
   rintro x w1 ⟨rfl,hw1⟩
   obtain rfl:=hw1.symm
   clear hw1 q1
   go_wp2_with fail
   rw[←HW0.out]
   refine wp_region_quiet_below (by kernel_rfl) (by kernel_rfl) ?_
   repeat (quiet_step ((go_at_call 78;exact c1 _ _)))
   refine wpQuiet_nil ?_
   rintro w2 ⟨p,rfl⟩
   have HE:Hid (Tch (fun _=>False) w (grow (redrawn w0 p.d) p.os)):=HT0.out.trans' (Tch.regrown w0 p.d p.os)
   obtain⟨W2,hW2⟩: ∃W2,W2=grow (redrawn w0 p.d) p.os:=⟨_,rfl⟩
   rw[←hW2] at HE ⊢
   clear hW2 k1 k2 y1 y2 c1
   go_wp2_with fail
   go_ret2
   exact⟨rfl,HE.out⟩
 ·have hdl:decide (r.p<r.x)=false:=decide_eq_false hlt
  obtain rfl:d=false:=by
   rw[←Bool.not_eq_true];intro h;exact hlt (HD.out.1 h).2
  clear HD hlt
  cases e
  all_goals
   go_enter Tryz.func47,Tryz.ntmps47
   go_wp2_with fail
   refine(q1 _).mono ?_
   rintro x w1 ⟨rfl,hw1⟩
   obtain rfl:=hw1.symm
   clear hw1 q1
   go_wp2_with fail
   rw[←HW0.out]
   refine wp_region_quiet_below (by kernel_rfl) (by kernel_rfl) ?_
   repeat (quiet_step ((go_at_call 78;exact c1 _ _)))
   refine wpQuiet_nil ?_
   rintro w2 ⟨p,rfl⟩
   have HE:Hid (Tch (fun _=>False) w (grow (redrawn w0 p.d) p.os)):=HT0.out.trans' (Tch.regrown w0 p.d p.os)
   obtain⟨W2,hW2⟩: ∃W2,W2=grow (redrawn w0 p.d) p.os:=⟨_,rfl⟩
   rw[←hW2] at HE ⊢
   clear hW2 k1 k2 y1 y2 c1
   go_wp2_with fail
   go_ret2
   exact⟨rfl,HE.out⟩
theorem field_o (r:Rc) (s:Sk) (F:Nat→Prop) (w:World) (h:RW w F r s) (d:Bool) (hd:d=true ↔ okF r 111):Calls Tryz.prog 47 #[rV r s,.int .u8 111] w fun x w'=>x= .returned (.tuple #[.string (fldB r 111),.bool d])∧Tch (fun _=>False) w w':=by
 have HQ1:Hid (∀W,Tch (fun _=>False) w W→Calls Tryz.prog 80 #[.slice s.oo r.o.length s.oc] W fun x w'=>x= .returned (.tuple #[.string ⟨(encR r.o).1.toArray⟩,.bool d])∧Tch (fun _=>False) W w'):=fun W t=>by
  have:=rrow6 r.o s.oo s.oc W (h.o.no t) h.oi h.ol
  rw[d_eq (p:=rtRow r.o) hd] at this
  exact this
 have hsz:(⟨(encR r.o).1.toArray⟩:ByteArray).size≤1689:=by show(encR r.o).1.toArray.size≤_;rw[List.size_toArray];exact encR_len _
 have HFB:Hid (fldB r 111=bB (textL ⟨(encR r.o).1.toArray⟩)):=rfl
 rw[HFB.out]
 obtain⟨e,he⟩: ∃e:ByteArray,e=⟨(encR r.o).1.toArray⟩:=⟨_,rfl⟩
 rw[←he] at HQ1 hsz ⊢
 have HQ2:Hid (∀W,Calls Tryz.prog 81 #[.string e] W fun x w'=>x= .returned (.string (bB (textL e)))∧Tch (fun _=>False) W w'):=fun W=>rtext_ok e (by omega) W
 clear hd h he hsz HFB
 go_enter Tryz.func47,Tryz.ntmps47
 go_wp2_with fail
 refine(HQ1.out _ (Tch.alloc _ _ _)).mono ?_
 rintro x w1 ⟨rfl,t1⟩
 go_wp2_with fail
 refine(HQ2.out _).mono ?_
 rintro x w2 ⟨rfl,t2⟩
 go_wp2_with fail
 go_ret2
 exact⟨rfl,((Tch.alloc _ _ _).trans' t1).trans' t2⟩
theorem field_w (r:Rc) (s:Sk) (F:Nat→Prop) (w:World) (h:RW w F r s) (d:Bool) (hd:d=true ↔ okF r 119):Calls Tryz.prog 47 #[rV r s,.int .u8 119] w fun x w'=>x= .returned (.tuple #[.string (fldB r 119),.bool d])∧Tch (fun _=>False) w w':=by
 have HQ1:Hid (∀W,Tch (fun _=>False) w W→Calls Tryz.prog 80 #[.slice s.no r.n.length s.nc] W fun x w'=>x= .returned (.tuple #[.string ⟨(encR r.n).1.toArray⟩,.bool d])∧Tch (fun _=>False) W w'):=fun W t=>by
  have:=rrow6 r.n s.no s.nc W (h.n.no t) h.ni h.nl
  rw[d_eq (p:=rtRow r.n) hd] at this
  exact this
 have hsz:(⟨(encR r.n).1.toArray⟩:ByteArray).size≤1689:=by show(encR r.n).1.toArray.size≤_;rw[List.size_toArray];exact encR_len _
 have HFB:Hid (fldB r 119=bB (textL ⟨(encR r.n).1.toArray⟩)):=rfl
 rw[HFB.out]
 obtain⟨e,he⟩: ∃e:ByteArray,e=⟨(encR r.n).1.toArray⟩:=⟨_,rfl⟩
 rw[←he] at HQ1 hsz ⊢
 have HQ2:Hid (∀W,Calls Tryz.prog 81 #[.string e] W fun x w'=>x= .returned (.string (bB (textL e)))∧Tch (fun _=>False) W w'):=fun W=>rtext_ok e (by omega) W
 clear hd h he hsz HFB
 go_enter Tryz.func47,Tryz.ntmps47
 go_wp2_with fail
 refine(HQ1.out _ (Tch.alloc _ _ _)).mono ?_
 rintro x w1 ⟨rfl,t1⟩
 go_wp2_with fail
 refine(HQ2.out _).mono ?_
 rintro x w2 ⟨rfl,t2⟩
 go_wp2_with fail
 go_ret2
 exact⟨rfl,((Tch.alloc _ _ _).trans' t1).trans' t2⟩
theorem field_m (r:Rc) (s:Sk) (w:World) (hs:r.nm.size≤140737488351232) (d:Bool) (hd:d=true ↔ okF r 109):Calls Tryz.prog 47 #[rV r s,.int .u8 109] w fun x w'=>x= .returned (.tuple #[.string (fldB r 109),.bool d])∧Tch (fun _=>False) w w':=by
 have q1:=fun W=>rname6 r.nm W
 rw[show nmOk r.nm=d from by rw[Bool.eq_iff_iff];exact hd.symm] at q1
 have q2:=fun W=>rtext_ok r.nm hs W
 have HFB:Hid (fldB r 109=bB (textL r.nm)):=rfl
 rw[HFB.out]
 clear hd hs HFB
 go_enter Tryz.func47,Tryz.ntmps47
 go_wp2_with fail
 refine(q1 _).mono ?_
 rintro x w1 ⟨rfl,hw1⟩
 obtain rfl:=hw1.symm
 clear hw1 q1
 go_wp2_with fail
 refine(q2 _).mono ?_
 rintro x w2 ⟨rfl,t2⟩
 clear q2
 go_wp2_with fail
 go_ret2
 exact⟨rfl,(Tch.alloc _ _ _).trans' t2⟩
theorem field_c (r:Rc) (s:Sk) (w:World) (d:Bool) (hd:d=true ↔ okF r 99):Calls Tryz.prog 47 #[rV r s,.int .u8 99] w fun x w'=>x= .returned (.tuple #[.string (fldB r 99),.bool d])∧Tch (fun _=>False) w w':=by
 have q1:=fun W=>rname6 r.nm W
 obtain⟨e,he⟩: ∃e,e=nmOk r.nm:=⟨_,rfl⟩
 rw[←he] at q1
 have HD:Hid (d=true ↔ orOk r.nm r.org):=hd
 have HE:Hid (e=nmOk r.nm):=he
 clear hd he
 cases d
 ·have HFB:Hid (fldB r 99=⟨#[]⟩):=by
   show _=_
   refine if_neg fun h=>?_
   have:=HD.out.2 h
   simp at this
  have HN:Hid (¬orOk r.nm r.org):=fun h=>by have:=HD.out.2 h;simp at this
  rw[HFB.out]
  by_cases hz:r.nm.size=0
  ·have hze:r.nm.toList.isEmpty=true:=empty_of_size hz
   have ho: ¬r.org=0:=fun h=>HN.out (Or.inl ⟨hz,h⟩)
   have ho':(r.org==0)=false:=int_ne ho
   obtain rfl:e=false:=by rw[HE.out,emp_eq hz];rfl
   clear hz HD HE HN HFB ho
   go_enter Tryz.func47,Tryz.ntmps47
   go_wp2_with fail
   refine(q1 _).mono ?_
   rintro x w1 ⟨rfl,hw1⟩
   obtain rfl:=hw1.symm
   clear hw1
   go_wp2_with fail
   go_ret2
   exact⟨rfl,Tch.alloc _ _ _⟩
  ·have hze:r.nm.toList.isEmpty=false:=nonempty_of_size (r:=r.nm) (by omega)
   have hne:e=true→ ¬(1≤r.org∧r.org≤819208192):=fun h h1=>HN.out (Or.inr ⟨by rw[←HE.out];exact h,h1.1,h1.2⟩)
   clear hz HD HE HN HFB
   cases e
   ·clear hne
    go_enter Tryz.func47,Tryz.ntmps47
    go_wp2_with fail
    refine(q1 _).mono ?_
    rintro x w1 ⟨rfl,hw1⟩
    obtain rfl:=hw1.symm
    clear hw1
    go_wp2_with fail
    go_ret2
    exact⟨rfl,Tch.alloc _ _ _⟩
   ·have hne:=hne rfl
    by_cases h1:1≤r.org
    ·have h2: ¬r.org≤819208192:=fun h=>hne ⟨h1,h⟩
     have h2':decide (r.org≤819208192)=false:=decide_eq_false h2
     have h3':decide (1≤r.org)=true:=decide_eq_true h1
     have h4':(r.org==0)=false:=int_ne (by omega)
     clear hne
     go_enter Tryz.func47,Tryz.ntmps47
     go_wp2_with fail
     refine(q1 _).mono ?_
     rintro x w1 ⟨rfl,hw1⟩
     obtain rfl:=hw1.symm
     clear hw1
     go_wp2_with fail
     go_ret2
     exact⟨rfl,Tch.alloc _ _ _⟩
    ·clear hne
     go_enter Tryz.func47,Tryz.ntmps47
     go_wp2_with fail
     refine(q1 _).mono ?_
     rintro x w1 ⟨rfl,hw1⟩
     obtain rfl:=hw1.symm
     clear hw1
     go_wp2_with fail
     go_ret2
     exact⟨rfl,Tch.alloc _ _ _⟩
 ·have hor:orOk r.nm r.org:=HD.out.1 rfl
  have hsz:r.nm.size≤16:=by
   rcases hor with h|h
   ·omega
   ·exact nm_size h.1
  have hog:0≤r.org∧r.org≤819208192:=by
   rcases hor with h|h<;>omega
  have HFB:Hid (fldB r 99=bB (textL r.nm++dg r.org.toNat)):=if_pos hor
  obtain⟨TX,hTX⟩: ∃TX,TX=bB (textL r.nm):=⟨_,rfl⟩
  obtain⟨DG,hDG⟩: ∃DG,DG=bB (dg r.org.toNat):=⟨_,rfl⟩
  have HR:Hid (TX++DG=fldB r 99):=by
   show _=_
   rw[HFB.out]
   apply bB_of
   rw[bl_app,hTX,hDG,bl_bB,bl_bB]
  have s1:TX.size≤26:=by rw[hTX,size_bB,textL_bl,List.length_append,bl_size];have:=dg_len r.nm.size;omega
  have s2:DG.size≤10:=by rw[hDG,size_bB];exact dg_len _
  have q2:=fun W=>rtext_ok r.nm (by omega) W
  have q3:=fun W=>rdig_ok r.org hog.1 (by omega) W
  rw[←hTX] at q2
  rw[←hDG] at q3
  obtain⟨FB,hFB⟩: ∃FB,FB=fldB r 99:=⟨_,rfl⟩
  rw[←hFB] at HR ⊢
  obtain⟨w0,hw0⟩: ∃w0,w0=w.alloc (.cells #[.int .i64 r.k,.int .i64 r.x,.int .i64 r.p,.int .i64 r.t,.slice s.oo r.o.length s.oc,.slice s.no r.n.length s.nc,.string r.nm,.int .i64 r.org,.int .i64 r.tb.id,.int .i64 r.tb.ver,.string r.tb.nm,.slice s.co r.tb.cols.length s.cc,.int .i64 r.tb.key,.slice s.to s.P.length s.tc] 37):=⟨_,rfl⟩
  have b0:w0.heap[w.heap.size]? =some (.cells #[.int .i64 r.k,.int .i64 r.x,.int .i64 r.p,.int .i64 r.t,.slice s.oo r.o.length s.oc,.slice s.no r.n.length s.nc,.string r.nm,.int .i64 r.org,.int .i64 r.tb.id,.int .i64 r.tb.ver,.string r.tb.nm,.slice s.co r.tb.cols.length s.cc,.int .i64 r.tb.key,.slice s.to s.P.length s.tc] 37 (0,0)):=by rw[hw0];exact heap_new w _
  have HT0:Hid (Tch (fun _=>False) w w0):=by show Tch _ _ _;rw[hw0];exact Tch.alloc _ _ _
  have y1:=blk_cell b0 6
  have y2:=blk_cell b0 7
  simp only[List.getElem?_toArray,List.getElem?_cons_succ,List.getElem?_cons_zero] at y1 y2
  have k1:=cell_regrown y1
  have k2:=cell_regrown y2
  have c1:=fun(dd:Nat) (os:Array Obj)=>regrown_calls (w:=w0) (fun W _=>q2 W) dd os
  have c2:=fun(dd:Nat) (os:Array Obj)=>regrown_calls (w:=w0) (fun W _=>q3 W) dd os
  have HW0:Hid (w0=w.alloc (.cells #[.int .i64 r.k,.int .i64 r.x,.int .i64 r.p,.int .i64 r.t,.slice s.oo r.o.length s.oc,.slice s.no r.n.length s.nc,.string r.nm,.int .i64 r.org,.int .i64 r.tb.id,.int .i64 r.tb.ver,.string r.tb.nm,.slice s.co r.tb.cols.length s.cc,.int .i64 r.tb.key,.slice s.to s.P.length s.tc] 37)):=hw0
  clear HFB hTX hDG q2 q3 b0 hw0 hFB hsz hog
  rcases hor with⟨hz,ho⟩|⟨hn,h1,h2⟩
  ·have hze:r.nm.toList.isEmpty=true:=empty_of_size hz
   have ho':(r.org==0)=true:=by simpa using ho
   obtain rfl:e=false:=by rw[HE.out,emp_eq hz];rfl
   clear hz HD HE ho
   go_enter Tryz.func47,Tryz.ntmps47
   go_wp2_with fail
   refine(q1 _).mono ?_
   rintro x w1 ⟨rfl,hw1⟩
   obtain rfl:=hw1.symm
   clear hw1
   go_wp2_with fail
   rw[←HW0.out]
   refine wp_region_quiet_below (by kernel_rfl) (by kernel_rfl) ?_
   quiet_step (fail)
   quiet_step (fail)
   quiet_step ((go_at_call 81;exact c1 _ _))
   quiet_step (fail)
   quiet_step (fail)
   quiet_step ((go_at_call 78;exact c2 _ _))
   quiet_step ((rw[if_neg (by omega)];exact⟨rfl,rfl⟩))
   quiet_step (fail)
   quiet_step (fail)
   refine wpQuiet_nil ?_
   rintro w2 ⟨p,rfl⟩
   have HE:Hid (Tch (fun _=>False) w (grow (redrawn w0 p.d) p.os)):=HT0.out.trans' (Tch.regrown w0 p.d p.os)
   obtain⟨W2,hW2⟩: ∃W2,W2=grow (redrawn w0 p.d) p.os:=⟨_,rfl⟩
   rw[←hW2] at HE ⊢
   clear hW2 k1 k2 y1 y2 c1 c2
   go_wp2_with fail
   go_ret2
   exact⟨by rw[←HR.out];rfl,HE.out⟩
  ·obtain rfl:e=true:=by rw[HE.out];exact hn
   clear HD HE hn
   go_enter Tryz.func47,Tryz.ntmps47
   go_wp2_with fail
   refine(q1 _).mono ?_
   rintro x w1 ⟨rfl,hw1⟩
   obtain rfl:=hw1.symm
   clear hw1
   go_wp2_with fail
   rw[←HW0.out]
   refine wp_region_quiet_below (by kernel_rfl) (by kernel_rfl) ?_
   quiet_step (fail)
   quiet_step (fail)
   quiet_step ((go_at_call 81;exact c1 _ _))
   quiet_step (fail)
   quiet_step (fail)
   quiet_step ((go_at_call 78;exact c2 _ _))
   quiet_step ((rw[if_neg (by omega)];exact⟨rfl,rfl⟩))
   quiet_step (fail)
   quiet_step (fail)
   refine wpQuiet_nil ?_
   rintro w2 ⟨p,rfl⟩
   have HE:Hid (Tch (fun _=>False) w (grow (redrawn w0 p.d) p.os)):=HT0.out.trans' (Tch.regrown w0 p.d p.os)
   obtain⟨W2,hW2⟩: ∃W2,W2=grow (redrawn w0 p.d) p.os:=⟨_,rfl⟩
   rw[←hW2] at HE ⊢
   clear hW2 k1 k2 y1 y2 c1 c2
   go_wp2_with fail
   go_ret2
   exact⟨by rw[←HR.out];rfl,HE.out⟩
theorem field_a (r:Rc) (s:Sk) (F:Nat→Prop) (w:World) (h:RW w F r s) (d:Bool) (hd:d=true ↔ okF r 97):Calls Tryz.prog 47 #[rV r s,.int .u8 97] w fun x w'=>x= .returned (.tuple #[.string (fldB r 97),.bool d])∧Tch (fun _=>False) w w':=by
 have HQ1:Hid (∀W,Tch (fun _=>False) w W→Calls Tryz.prog 83 #[tA r.tb.id r.tb.ver r.tb.nm (.slice s.co r.tb.cols.length s.cc) r.tb.key] W fun x w'=>x= .returned (.tuple #[.string (fldB r 97),.bool d])∧Tch (fun _=>False) W w'):=fun W t=>by
  by_cases hr:rightE r.tb=0
  ·obtain rfl:d=true:=hd.2 hr
   have:=rtable_ok r.tb s.co s.cc W (h.tb.sl.no t) hr
   rw[show fldB r 97=bB (tabL r.tb) from if_pos hr]
   exact this
  ·obtain rfl:d=false:=by rw[←Bool.not_eq_true];intro e;exact hr (hd.1 e)
   have:=rtable_no r.tb s.co s.cc W (h.tb.sl.no t) hr
   rw[show fldB r 97=⟨#[]⟩ from if_neg hr]
   exact this
 obtain⟨b,hb⟩: ∃b,b=fldB r 97:=⟨_,rfl⟩
 rw[←hb] at HQ1 ⊢
 clear hd h hb
 go_enter Tryz.func47,Tryz.ntmps47
 go_wp2_with fail
 refine(HQ1.out _ (Tch.alloc _ _ _)).mono ?_
 rintro x w1 ⟨rfl,t1⟩
 go_wp2_with fail
 go_ret2
 exact⟨rfl,(Tch.alloc _ _ _).trans' t1⟩
end Go.Proofs.YtaiadknglhemaaaGreatDoor.C
