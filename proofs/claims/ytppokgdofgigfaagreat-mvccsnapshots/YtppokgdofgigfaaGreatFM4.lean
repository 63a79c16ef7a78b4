import Derived.Test.YtppokgdofgigfaaGreatXRel
import Derived.Test.YtppokgdofgigfaaGreatXOwn0
namespace Go.Proofs.YtppokgdofgigfaaGreat.F
structure Vn where
 wr:Nat
 gone:Bool
 n:Nat
def Vn.val (v:Vn):Nat:=if v.gone then 0 else v.n+1
structure Wt where
 pt:Int
 key:Nat
 gone:Bool
 n:Nat
structure Pr where
 x:Nat
 par:Int
 live:Bool
 bk:Bool
structure Se where
 op:Bool
 pp:Bool
 x:Nat
 mn:Nat
 mx:Nat
 on:List Nat
 base:List Nat
 wh:Nat
 ps:List Pr
 ws:List Wt
structure Mo where
 l:List Se
 now:List Nat
 wn:List Nat
 n:Nat
def se0:Se:=⟨false,false,0,0,0,[],[0,0,0,0,0,0],0,[],[]⟩
def stdI (s:Se) (i:Int):Bool:=if 0≤i then(match s.ps[i.toNat]? with|some p=> !p.bk|none=>true) else true
def wrN (s:Se) (i:Int):Nat:=if 0≤i then(match s.ps[i.toNat]? with|some p=>p.x|none=>0) else s.x
def own (s:Se) (κ:Nat):List Wt:=s.ws.filter (fun w=>stdI s w.pt && decide (w.key=κ))
def vnW (s:Se) (w:Wt):Vn:=⟨wrN s w.pt,w.gone,w.n⟩
def ownV (s:Se) (κ:Nat):List Vn:=(own s κ).map (vnW s)
def lastV (l:List Vn):Nat:=match l.getLast? with|some v=>v.val|none=>0
def seesS (s:Se) (κ:Nat):Nat:=match (ownV s κ).getLast? with|some v=>v.val|none=>s.base.getD κ 0
def wroteS (s:Se) (κ:Nat):Bool:= !(own s κ).isEmpty
def ptOf (p:Pr):Pt:=⟨p.x,p.par,if p.bk then 2 else if p.live then 0 else 1⟩
structure SesTx (m:Mg) (s:Se) (t:Tx):Prop where
 mem:t∈m.tx
 x:t.x=s.x
 st:t.st=if s.pp then 2 else 1
 ps:t.ps=s.ps.map ptOf
structure SesOk (m:Mg) (n:Nat) (s:Se):Prop where
 tx: ∃t,SesTx m s t
 ws: ∀w∈s.ws, -1≤w.pt∧w.pt<s.ps.length
 wh:s.wh≤n
def onI (s:Se):List Int:=s.on.map Int.ofNat
def ownO (q:Mo) (o:Option Nat) (κ:Nat):List Vn:=match o with
 |none=>[]
 |some k=>match q.l[k]? with
  |some s=>ownV s κ
  |none=>[]
structure KOk (m:Mg) (q:Mo) (σ:Nat→Nat) (κ:Nat) (c:List Vn) (cm:List (Vn×Nat)) (o:Option Nat):Prop where
 has: ∀v∈c, ∃t i,fnd m.tx v.wr=some (t,i)
 eq:c.filter (fun v=>m.state v.wr !=4)=cm.map (·.1)++ownO q o κ
 com: ∀p∈cm, ∃t i,fnd m.tx p.1.wr=some (t,i)∧stE (some (t,i))=3∧σ t.x=p.2
 ow: ∀(k:Nat),o=some k→ ∃s,q.l[k]? =some s∧s.op=true∧wroteS s κ=true∧q.wn.getD κ 0≤s.wh
 one: ∀(k:Nat) (s:Se),q.l[k]? =some s→s.op=true→wroteS s κ=true→o=some k
 now:q.now.getD κ 0=lastV (cm.map (·.1))
 wn:q.wn.getD κ 0=(match cm.getLast? with|some p=>p.2|none=>0)
 up:cm.Pairwise (fun a b=>a.2≤b.2)
 base: ∀(k:Nat) (s:Se),q.l[k]? =some s→s.op=true→s.base.getD κ 0=lastV ((cm.filter (fun p=>decide (p.2≤s.wh))).map (·.1))
def visT (s:Se) (t:Tx):Prop:=t.x<s.mx∧t.x ∉ s.on
structure Inv (m:Mg) (q:Mo) (K:Nat→List Vn) (σ:Nat→Nat):Prop where
 wf:Wf m
 ln:q.l.length=5
 mx: ∀(k:Nat) (s:Se),q.l[k]? =some s→s.op=true→s.mx≤m.nx
 ses: ∀(k:Nat) (s:Se),q.l[k]? =some s→s.op=true→SesOk m q.n s
 ap: ∀(k k':Nat) (s s':Se),q.l[k]? =some s→q.l[k']? =some s'→s.op=true→s'.op=true→k≠k'→s.x≠s'.x
 com: ∀t∈m.tx,t.st=3→1≤σ t.x∧σ t.x≤q.n
 vis: ∀(k:Nat) (s:Se),q.l[k]? =some s→s.op=true→ ∀t∈m.tx,(t.st=3→(visT s t ↔ σ t.x≤s.wh))∧(t.st<3→ ¬visT s t)
 key: ∀κ,κ<6→ ∃cm o,KOk m q σ κ (K κ) cm o
theorem stE_eq (t:Tx) (i:Int):stE (some (t,i))=if fate t i=2 then 4 else t.st:=rfl
theorem ses_fate {m:Mg} {s:Se} {t:Tx} (h:SesTx m s t) (i:Int):fate t i=2 ↔ stdI s i=false:=by
 unfold fate stdI
 split
 ·rw[h.ps,List.getElem?_map]
  cases s.ps[i.toNat]? with
  |none=>simp
  |some p=>cases hb:p.bk<;>simp[ptOf,hb]<;>split<;>omega
 ·simp
theorem ses_fnd {m:Mg} (hw:Wf m) {s:Se} {t:Tx} (h:SesTx m s t) {i:Int} (h1: -1≤i) (h2:i<s.ps.length):fnd m.tx (wrN s i)=some (t,i):=by
 unfold wrN
 by_cases h0:0≤i
 ·rw[if_pos h0]
  obtain⟨j,rfl⟩: ∃j:Nat,i=j:=⟨i.toNat,by omega⟩
  have hj:j<s.ps.length:=by omega
  simp only[Int.toNat_natCast,List.getElem?_eq_getElem hj]
  have:=hw.fnd_pt h.mem (k:=j) (p:=ptOf s.ps[j]) (by rw[h.ps,List.getElem?_map,List.getElem?_eq_getElem hj];rfl)
  exact this
 ·rw[if_neg h0]
  have e:i= -1:=by omega
  rw[e, ←h.x]
  exact hw.fnd_tx h.mem
theorem ses_state {m:Mg} (hw:Wf m) {s:Se} {t:Tx} (h:SesTx m s t) {i:Int} (h1: -1≤i) (h2:i<s.ps.length):m.state (wrN s i)=if stdI s i then t.st else 4:=by
 unfold Mg.state
 rw[ses_fnd hw h h1 h2,stE_eq]
 have:=ses_fate h i
 cases hs:stdI s i with
 |false=>rw[if_pos (this.2 hs)];rfl
 |true=>rw[if_neg (fun e=>by rw[this.1 e] at hs;cases hs)];rfl
theorem SesTx.lt3 {m:Mg} {s:Se} {t:Tx} (h:SesTx m s t):1≤t.st∧t.st<3:=by
 rw[h.st];split<;>omega
theorem seesS_eq {m:Mg} {q:Mo} {σ:Nat→Nat} {κ:Nat} {c:List Vn} {cm:List (Vn×Nat)} {o:Option Nat} (hk:KOk m q σ κ c cm o) {k:Nat} {s:Se} (hs:q.l[k]? =some s) (ho:s.op=true):
  lastV ((cm.filter (fun p=>decide (p.2≤s.wh))).map (·.1)++(if o=some k then ownV s κ else[]))=seesS s κ:=by
 unfold lastV seesS
 by_cases e:o=some k
 ·obtain⟨s',hs',_,hw,_⟩:=hk.ow k e
  rw[hs] at hs';injection hs' with hs';subst hs'
  rw[if_pos e]
  have hne:ownV s κ≠[]:=by
   unfold wroteS at hw
   unfold ownV
   intro e2
   have:=List.map_eq_nil_iff.1 e2
   rw[this] at hw;cases hw
  rw[List.getLast?_append]
  cases h:(ownV s κ).getLast? with
  |none=>exact absurd (List.getLast?_eq_none_iff.1 h) hne
  |some v=>rfl
 ·rw[if_neg e,List.append_nil]
  have hn:own s κ=[]:=by
   cases h:own s κ with
   |nil=>rfl
   |cons a l=>
    have:wroteS s κ=true:=by unfold wroteS;rw[h];rfl
    exact absurd (hk.one k s hs ho this) e
  have:ownV s κ=[]:=by unfold ownV;rw[hn];rfl
  rw[this]
  show _=s.base.getD κ 0
  rw[hk.base k s hs ho]
  rfl
def ConfP (q:Mo) (k:Nat) (s:Se) (κ:Nat):Prop:=(∃(i:Nat) (s':Se),i≠k∧q.l[i]? =some s'∧s'.op=true∧wroteS s' κ=true)∨s.wh<q.wn.getD κ 0
theorem ownV_ne {s:Se} {κ:Nat} (h:wroteS s κ=true):ownV s κ≠[]:=fun e=>by
 have:=List.map_eq_nil_iff.1 e
 unfold wroteS at h
 rw[this] at h;cases h
theorem own_nil {s:Se} {κ:Nat} (h: ¬wroteS s κ=true):own s κ=[]:=by
 cases e:own s κ with
 |nil=>rfl
 |cons a l=>exact absurd (by unfold wroteS;rw[e];rfl) h
section
variable {m:Mg} {q:Mo} {K:Nat→List Vn} {σ:Nat→Nat}
theorem Inv.tops (hI:Inv m q K σ) {k:Nat} {s:Se} (hs:q.l[k]? =some s) (ho:s.op=true) {t:Tx} (ht:SesTx m s t) {κ:Nat} {v:Vn} (hv:v∈ownV s κ): ∃j:Int, -1≤j∧j<s.ps.length∧v.wr=wrN s j∧stdI s j=true∧fnd m.tx v.wr=some (t,j)∧stE (some (t,j))=t.st:=by
 obtain⟨w,hw,rfl⟩:=List.mem_map.1 hv
 obtain⟨hw1,hw2⟩:=List.mem_filter.1 hw
 simp only[Bool.and_eq_true,decide_eq_true_eq] at hw2
 have hb:=(hI.ses k s hs ho).ws w hw1
 have hf:=ses_fnd hI.wf ht hb.1 hb.2
 refine⟨w.pt,hb.1,hb.2,rfl,hw2.1,hf,?_⟩
 have:=ses_state hI.wf ht hb.1 hb.2
 rw[hw2.1] at this
 unfold Mg.state at this
 rw[hf] at this
 exact this
end
structure Ch (m m':Mg) (t t':Tx):Prop where
 wf:Wf m'
 nx:m.nx≤m'.nx
 x:t'.x=t.x
 mem:t'∈m'.tx
 fn: ∀(n:Int) (u:Tx) (i:Int),fnd m.tx n=some (u,i)→fnd m'.tx n=some (if u.x=t.x then t' else u,i)
 inn: ∀u∈m'.tx,u=t'∨(u∈m.tx∧u.x≠t.x)
theorem ch_upd {m m':Mg} (h:Wf m) {t:Tx} (ht:t∈m.tx) (f:Tx→Tx) (hw:Wf m') (hnx:m.nx≤m'.nx) (hm:m'.tx=upd m.tx t.x f) (hx:(f t).x=t.x) (hf: ∀(n:Int) (u:Tx) (i:Int),fnd m.tx n=some (u,i)→fnd m'.tx n=some (if u.x=t.x then f u else u,i)):Ch m m' t (f t):=by
 refine⟨hw,hnx,hx,?_,fun n u i e=>?_,fun u hu=>?_⟩
 ·rw[hm]
  exact List.mem_map.2 ⟨t,ht,by rw[if_pos rfl]⟩
 ·rw[hf n u i e]
  by_cases hxx:u.x=t.x
  ·rw[if_pos hxx,if_pos hxx,h.uniq u (fnd_mem e).1 t ht hxx]
  ·rw[if_neg hxx,if_neg hxx]
 ·rw[hm] at hu
  obtain⟨v,hv,e⟩:=mem_upd hu
  by_cases hxx:v.x=t.x
  ·rw[if_pos hxx,h.uniq v hv t ht hxx] at e
   exact Or.inl e
  ·rw[if_neg hxx] at e
   subst e
   exact Or.inr ⟨hv,hxx⟩
theorem fnd_rng {m:Mg} {n:Int} {t:Tx} {i:Int} (h:fnd m.tx n=some (t,i)): -1≤i∧i<t.ps.length:=by
 rcases(fnd_mem h).2 with⟨e,_⟩|⟨k,p,e,_,hp,_⟩
 ·omega
 ·have:=(List.getElem?_eq_some_iff.1 hp).1;omega
section
variable {m m':Mg} {q:Mo} {K:Nat→List Vn} {σ:Nat→Nat} {k:Nat} {s s':Se} {t t':Tx}
theorem Ch.state_other (hc:Ch m m' t t') {n:Int} {u:Tx} {i:Int} (hf:fnd m.tx n=some (u,i)) (hne:u.x≠t.x):m'.state n=m.state n:=by
 unfold Mg.state
 rw[hc.fn n u i hf,hf,if_neg hne]
theorem set_self {l:List Se} (hs:l[k]? =some s):(l.set k s')[k]? =some s':=by
 rw[List.getElem?_set_self (List.getElem?_eq_some_iff.1 hs).1]
theorem set_other {l:List Se} {j:Nat} (h:j≠k):(l.set k s')[j]? =l[j]? :=List.getElem?_set_ne (fun e=>h e.symm)
theorem set_get {l:List Se} (hs:l[k]? =some s) {j:Nat} {u:Se} (h:(l.set k s')[j]? =some u):(j=k∧u=s')∨(j≠k∧l[j]? =some u):=by
 by_cases e:j=k
 ·subst e
  rw[set_self hs] at h
  exact Or.inl ⟨rfl,(Option.some.inj h).symm⟩
 ·rw[set_other e] at h
  exact Or.inr ⟨e,h⟩
theorem Inv.turn (hI:Inv m q K σ) (hs:q.l[k]? =some s) (ho:s.op=true) (ht:SesTx m s t) (hc:Ch m m' t t') (ho':s'.op=true) (ht':SesTx m' s' t') (hx:s'.x=s.x) (hmx:s'.mx=s.mx) (hon:s'.on=s.on) (hba:s'.base=s.base) (hwh:s'.wh=s.wh) (hws:s'.ws=s.ws) (hps:s.ps.length≤s'.ps.length)
  (hwr: ∀i:Int, -1≤i→i<s.ps.length→wrN s' i=wrN s i∧(stdI s' i=true→stdI s i=true)):Inv m' { q with l:=q.l.set k s' } K σ:=by
 have hok:=hI.ses k s hs ho
 have hl3:=ht.lt3
 have hl3':=ht'.lt3
 have key3: ∀(n:Int) (u:Tx) (i:Int),fnd m.tx n=some (u,i)→stE (some (u,i))=3→u.x≠t.x:=fun n u i hf h3 e=>by
  have:=hI.wf.uniq u (fnd_mem hf).1 t ht.mem e
  subst this
  rw[stE_eq] at h3
  split at h3<;>omega
 have hap: ∀(j:Nat) (u:Se),j≠k→q.l[j]? =some u→u.op=true→u.x≠s.x:=fun j u hj hu hou e=>hI.ap j k u s hu hs hou ho hj e
 have hkeep: ∀(j:Nat) (u:Se) (tu:Tx),j≠k→q.l[j]? =some u→u.op=true→SesTx m u tu→SesTx m' u tu:=fun j u tu hj hu hou htu=>by
  have hne:tu.x≠t.x:=by rw[htu.x,ht.x];exact hap j u hj hu hou
  have h1:=hc.fn tu.x tu (-1) (hI.wf.fnd_tx htu.mem)
  rw[if_neg hne] at h1
  exact⟨(fnd_mem h1).1,htu.x,htu.st,htu.ps⟩
 refine⟨hc.wf,by rw[List.length_set];exact hI.ln,fun j u hu hou=>?_,fun j u hu hou=>?_,fun j j' u u' hu hu' hou hou' hne=>?_,fun u hu h3=>?_,fun j u hu hou v hv=>?_,fun κ hκ=>?_⟩
 ·have:=hc.nx
  rcases set_get hs hu with⟨e1,e2⟩|⟨hj,hu1⟩
  ·rw[e2,hmx];have:=hI.mx k s hs ho;omega
  ·have:=hI.mx j u hu1 hou;omega
 ·rcases set_get hs hu with⟨rfl,rfl⟩|⟨hj,hu⟩
  ·exact⟨⟨t',ht'⟩,fun w hw=>by rw[hws] at hw;have:=hok.ws w hw;omega,by rw[hwh];exact hok.wh⟩
  ·obtain⟨⟨tu,htu⟩,h1,h2⟩:=hI.ses j u hu hou
   exact⟨⟨tu,hkeep j u tu hj hu hou htu⟩,h1,h2⟩
 ·rcases set_get hs hu with⟨e1,e2⟩|⟨hj,hu1⟩
  ·rcases set_get hs hu' with⟨e3,e4⟩|⟨hj',hu2⟩
   ·exact absurd (e1.trans e3.symm) hne
   ·rw[e2,hx];exact fun e=>hap j' u' hj' hu2 hou' e.symm
  ·rcases set_get hs hu' with⟨e3,e4⟩|⟨hj',hu2⟩
   ·rw[e4,hx];exact hap j u hj hu1 hou
   ·exact hI.ap j j' u u' hu1 hu2 hou hou' hne
 ·rcases hc.inn u hu with rfl|⟨hu,_⟩
  ·omega
  ·exact hI.com u hu h3
 ·have hvis: ∀(u0:Se) (v0:Tx),u.mx=u0.mx→u.on=u0.on→v.x=v0.x→(visT u v ↔ visT u0 v0):=fun u0 v0 e1 e2 e3=>by unfold visT;rw[e1,e2,e3]
  have main: ∀(u0:Se),u.mx=u0.mx→u.on=u0.on→u.wh=u0.wh→(∀w∈m.tx,(w.st=3→(visT u0 w ↔ σ w.x≤u0.wh))∧(w.st<3→ ¬visT u0 w))→(v.st=3→(visT u v ↔ σ v.x≤u.wh))∧(v.st<3→ ¬visT u v):=fun u0 e1 e2 e3 hv0=>by
   rcases hc.inn v hv with rfl|⟨hv,_⟩
   ·refine⟨fun h=>by omega,fun _=>?_⟩
    rw[hvis u0 t e1 e2 hc.x]
    exact(hv0 t ht.mem).2 hl3.2
   ·rw[hvis u0 v e1 e2 rfl,e3]
    exact hv0 v hv
  rcases set_get hs hu with⟨rfl,rfl⟩|⟨hj,hu⟩
  ·exact main s hmx hon hwh (hI.vis j s hs ho)
  ·exact main u rfl rfl rfl (hI.vis j u hu hou)
 ·obtain⟨cm,o,hk⟩:=hI.key κ hκ
  have hst: ∀v∈K κ,(m'.state v.wr !=4)=true→(m.state v.wr !=4)=true:=fun v hv e=>by
   obtain⟨u,j,hf⟩:=hk.has v hv
   by_cases hxx:u.x=t.x
   ·have:=hI.wf.uniq u (fnd_mem hf).1 t ht.mem hxx
    subst this
    have hr:=fnd_rng hf
    have hln:u.ps.length=s.ps.length:=by rw[ht.ps,List.length_map]
    unfold Mg.state at e ⊢
    rw[hc.fn _ _ _ hf,if_pos rfl,stE_eq] at e
    rw[hf,stE_eq]
    have f1:=ses_fate ht j
    have f2:=ses_fate ht' j
    by_cases hfa:fate u j=2
    ·exfalso
     have h1:=f1.1 hfa
     have h2:stdI s' j=false:=by
      cases h3:stdI s' j with
      |false=>rfl
      |true=>rw[(hwr j hr.1 (by omega)).2 h3] at h1;cases h1
     rw[if_pos (f2.2 h2)] at e
     cases e
    ·rw[if_neg hfa];simp;omega
   ·rw[hc.state_other hf hxx] at e;exact e
  have h1:(K κ).filter (fun v=>m'.state v.wr !=4)=((K κ).filter (fun v=>m.state v.wr !=4)).filter (fun v=>m'.state v.wr !=4):=by
   rw[List.filter_filter]
   refine List.filter_congr (fun v hv=>?_)
   cases e:(m'.state v.wr !=4) with
   |false=>rfl
   |true=>rw[hst v hv e];rfl
  have hcm:(cm.map (·.1)).filter (fun v=>m'.state v.wr !=4)=cm.map (·.1):=by
   refine List.filter_eq_self.2 (fun v hv=>?_)
   obtain⟨p,hp,rfl⟩:=List.mem_map.1 hv
   obtain⟨u,j,hf,h3,_⟩:=hk.com p hp
   rw[hc.state_other hf (key3 _ _ _ hf h3)]
   unfold Mg.state
   rw[hf,h3];rfl
  have hcom: ∀p∈cm, ∃u j,fnd m'.tx p.1.wr=some (u,j)∧stE (some (u,j))=3∧σ u.x=p.2:=fun p hp=>by
   obtain⟨u,j,hf,h3,hσ⟩:=hk.com p hp
   have:=hc.fn _ _ _ hf
   rw[if_neg (key3 _ _ _ hf h3)] at this
   exact⟨u,j,this,h3,hσ⟩
  have hhas: ∀v∈K κ, ∃u j,fnd m'.tx v.wr=some (u,j):=fun v hv=>by
   obtain⟨u,j,hf⟩:=hk.has v hv
   exact⟨_,_,hc.fn _ _ _ hf⟩
  have hown:own s' κ=(own s κ).filter (fun w=>stdI s' w.pt):=by
   unfold own
   rw[hws,List.filter_filter]
   refine List.filter_congr (fun w hw=>?_)
   have hb:=hok.ws w hw
   cases e:stdI s' w.pt with
   |false=>simp
   |true=>rw[(hwr w.pt hb.1 hb.2).2 e];simp
  have hwro:wroteS s' κ=true→wroteS s κ=true:=fun e=>by
   unfold wroteS at e ⊢
   rw[hown] at e
   cases h:own s κ with
   |nil=>rw[h] at e;cases e
   |cons a l=>rfl
  have hone: ∀(o':Option Nat),(wroteS s' κ=true→o'=some k)→(∀j,j≠k→o=some j→o'=some j)→ ∀(j:Nat) (u:Se),(q.l.set k s')[j]? =some u→u.op=true→wroteS u κ=true→o'=some j:=fun o' a1 a2 j u hu hou hwu=>by
   rcases set_get hs hu with⟨rfl,rfl⟩|⟨hj,hu⟩
   ·exact a1 hwu
   ·exact a2 j hj (hk.one j u hu hou hwu)
  have hbase: ∀(j:Nat) (u:Se),(q.l.set k s')[j]? =some u→u.op=true→u.base.getD κ 0=lastV ((cm.filter (fun p=>decide (p.2≤u.wh))).map (·.1)):=fun j u hu hou=>by
   rcases set_get hs hu with⟨rfl,rfl⟩|⟨hj,hu⟩
   ·rw[hba,hwh];exact hk.base j s hs ho
   ·exact hk.base j u hu hou
  by_cases hok':o=some k
  ·have e1:ownO q o κ=ownV s κ:=by rw[hok'];simp only[ownO,hs]
   have hov:(ownV s κ).filter (fun v=>m'.state v.wr !=4)=ownV s' κ:=by
    unfold ownV
    rw[List.filter_map,hown]
    have e2:(own s κ).filter ((fun v=>m'.state v.wr !=4) ∘ vnW s)=(own s κ).filter (fun w=>stdI s' w.pt):=by
     refine List.filter_congr (fun w hw=>?_)
     have hb:=hok.ws w (List.mem_filter.1 hw).1
     have h2:=ses_state hc.wf ht' (i:=w.pt) hb.1 (by omega)
     rw[(hwr w.pt hb.1 hb.2).1] at h2
     show(m'.state (wrN s w.pt) !=4)=_
     rw[h2]
     cases stdI s' w.pt with
     |false=>rfl
     |true=>simp;omega
    rw[e2]
    refine List.map_congr_left (fun w hw=>?_)
    have hb:=hok.ws w (List.mem_filter.1 (List.mem_filter.1 hw).1).1
    show Vn.mk (wrN s w.pt) w.gone w.n=Vn.mk (wrN s' w.pt) w.gone w.n
    rw[(hwr w.pt hb.1 hb.2).1]
   obtain⟨s2,hs2,_,_,hle⟩:=hk.ow k hok'
   rw[hs] at hs2;injection hs2 with hs2;subst hs2
   by_cases hw':wroteS s' κ=true
   ·refine⟨cm,some k,hhas,?_,hcom,fun j e=>?_,hone (some k) (fun _=>rfl) (fun j hj e=>by rw[hok'] at e;injection e with e;exact absurd e.symm hj),hk.now,hk.wn,hk.up,hbase⟩
    ·rw[h1,hk.eq,e1,List.filter_append,hcm,hov]
     simp only[ownO,set_self hs]
    ·injection e with e;subst e
     exact⟨s',set_self hs,ho',hw',by rw[hwh];exact hle⟩
   ·refine⟨cm,none,hhas,?_,hcom,(fun j e=>by cases e),hone none (fun e=>absurd e hw') (fun j hj e=>by rw[hok'] at e;injection e with e;exact absurd e.symm hj),hk.now,hk.wn,hk.up,hbase⟩
    rw[h1,hk.eq,e1,List.filter_append,hcm,hov]
    have:ownV s' κ=[]:=by unfold ownV;rw[own_nil hw'];rfl
    rw[this];rfl
  ·have e1:ownO { q with l:=q.l.set k s' } o κ=ownO q o κ:=by
    cases o with
    |none=>rfl
    |some j=>simp only[ownO,set_other (show j≠k from fun e=>hok' (by rw[e]))]
   have hov:(ownO q o κ).filter (fun v=>m'.state v.wr !=4)=ownO q o κ:=by
    cases ho2:o with
    |none=>rfl
    |some j=>
     have hj:j≠k:=fun e=>hok' (by rw[ho2,e])
     obtain⟨u,hu,hou,_,_⟩:=hk.ow j ho2
     obtain⟨tu,htu⟩:=(hI.ses j u hu hou).tx
     simp only[ownO,hu]
     refine List.filter_eq_self.2 (fun v hv=>?_)
     obtain⟨jj,_,_,_,_,hf,h3⟩:=hI.tops hu hou htu hv
     have hne:tu.x≠t.x:=by rw[htu.x,ht.x];exact hap j u hj hu hou
     rw[hc.state_other hf hne]
     unfold Mg.state
     rw[hf,h3]
     have:=htu.lt3
     simp;omega
   refine⟨cm,o,hhas,?_,hcom,fun j e=>?_,hone o (fun e=>absurd (hk.one k s hs ho (hwro e)) hok') (fun _ _ e=>e),hk.now,hk.wn,hk.up,hbase⟩
   ·rw[h1,hk.eq,List.filter_append,hcm,hov,e1]
   ·have hj:j≠k:=fun e2=>hok' (by rw[e,e2])
    obtain⟨u,hu,hou,hwu,hle⟩:=hk.ow j e
    exact⟨u,by rw[set_other hj];exact hu,hou,hwu,hle⟩
end
section
variable {m m':Mg} {q:Mo} {K:Nat→List Vn} {σ:Nat→Nat} {k:Nat} {s s':Se} {t t':Tx}
theorem ch_prep (h:Wf m) (ht:t∈m.tx) (hst:t.st<3):Ch m (m.prep t.x) t (setS 2 t):=
 ch_upd h ht (setS 2) (h.prep ht hst) (Nat.le_refl _) rfl rfl (fun n u i e=>by
  show fnd (upd m.tx t.x (setS 2)) n=_
  rw[fnd_setS,e];rfl)
theorem ch_fin (h:Wf m) (ht:t∈m.tx) {f:Nat} (hf:3≤f∧f≤4):Ch m (m.fin t.x f) t (setS f t):=
 ch_upd h ht (setS f) (h.fin hf) (Nat.le_refl _) rfl rfl (fun n u i e=>by
  show fnd (upd m.tx t.x (setS f)) n=_
  rw[fnd_setS,e];rfl)
theorem ch_endp (h:Wf m) (ht:t∈m.tx) (o:Int) {f:Nat} (hf:f≤2):Ch m (m.endp t.x o f) t { t with ps:=endPs t.ps o f } :=
 ch_upd h ht (fun t=> { t with ps:=endPs t.ps o f }) (h.endp t.x o hf) (Nat.le_refl _) rfl rfl (fun n u i e=>by
  show fnd (upd m.tx t.x (fun t=> { t with ps:=endPs t.ps o f })) n=_
  rw[fnd_upd t.x (fun t=> { t with ps:=endPs t.ps o f }) (fun u=>⟨rfl,endPs_x u.ps o f⟩),e];rfl)
theorem ch_part (h:Wf m) (ht:t∈m.tx) {i:Int} (hi: -1≤i∧i<t.ps.length) (hn:m.nx≤2147483647) (hl:t.ps.length<64):Ch m (m.part t i) t (addP ⟨m.nx,i,0⟩ t):=
 ch_upd h ht (addP ⟨m.nx,i,0⟩) (h.part ht hi hn hl) (Nat.le_succ _) rfl rfl (fun n u j e=>by
  have hne:n≠m.nx:=fun e2=>by have:=(h.fnd_lt e).2;omega
  rw[fnd_part_old i hne,e];rfl)
theorem Inv.begin (hI:Inv m q K σ) (hs:q.l[k]? =some s) (hcl:s.op=false) (hn:m.nx≤2147483647):Inv m.begin { q with l:=q.l.set k ⟨true,false,m.nx,m.on.headD m.nx,m.nx,m.on,q.now,q.n,[],[]⟩ } K σ:=by
 obtain⟨s',hs'⟩: ∃s':Se,s'=⟨true,false,m.nx,m.on.headD m.nx,m.nx,m.on,q.now,q.n,[],[]⟩:=⟨_,rfl⟩
 rw[←hs']
 have hfn: ∀(n:Int) (u:Tx) (i:Int),fnd m.tx n=some (u,i)→fnd m.begin.tx n=some (u,i):=fun n u i e=>by
  show fnd (m.tx++[_]) n=_
  rw[fnd_snoc,e]
 have hst: ∀(n:Int) (u:Tx) (i:Int),fnd m.tx n=some (u,i)→m.begin.state n=m.state n:=fun n u i e=>by
  unfold Mg.state
  rw[hfn n u i e,e]
 have hsx:s'.x=m.nx:=by rw[hs']
 have hlt: ∀(j:Nat) (u:Se),q.l[j]? =some u→u.op=true→u.x<m.nx:=fun j u hu hou=>by
  obtain⟨tu,htu⟩:=(hI.ses j u hu hou).tx
  rw[←htu.x];exact(hI.wf.lo tu htu.mem).2
 have hkeep: ∀(u:Se) (tu:Tx),SesTx m u tu→SesTx m.begin u tu:=fun u tu h=>⟨List.mem_append_left _ h.mem,h.x,h.st,h.ps⟩
 have hnew:(⟨m.nx,1,[]⟩:Tx)∈m.begin.tx:=List.mem_append_right _ (by simp)
 have hinn: ∀u∈m.begin.tx,u=⟨m.nx,1,[]⟩∨u∈m.tx:=fun u hu=>by
  rcases List.mem_append.1 hu with h|h
  ·exact Or.inr h
  ·exact Or.inl (List.mem_singleton.1 h)
 refine⟨hI.wf.begin hn,by rw[List.length_set];exact hI.ln,fun j u hu hou=>?_,fun j u hu hou=>?_,fun j j' u u' hu hu' hou hou' hne=>?_,fun u hu h3=>?_,fun j u hu hou v hv=>?_,fun κ hκ=>?_⟩
 ·show u.mx≤m.nx+1
  rcases set_get hs hu with⟨e1,e2⟩|⟨hj,hu1⟩
  ·rw[e2,hs'];show m.nx≤m.nx+1;omega
  ·have:=hI.mx j u hu1 hou;omega
 ·rcases set_get hs hu with⟨e1,e2⟩|⟨hj,hu1⟩
  ·rw[e2,hs']
   exact⟨⟨_,hnew,rfl,rfl,rfl⟩,(fun w hw=>by cases hw),Nat.le_refl _⟩
  ·obtain⟨⟨tu,htu⟩,h1,h2⟩:=hI.ses j u hu1 hou
   exact⟨⟨tu,hkeep u tu htu⟩,h1,h2⟩
 ·rcases set_get hs hu with⟨e1,e2⟩|⟨hj,hu1⟩
  ·rcases set_get hs hu' with⟨e3,e4⟩|⟨hj',hu2⟩
   ·exact absurd (e1.trans e3.symm) hne
   ·rw[e2,hsx];have:=hlt j' u' hu2 hou';omega
  ·rcases set_get hs hu' with⟨e3,e4⟩|⟨hj',hu2⟩
   ·rw[e4,hsx];have:=hlt j u hu1 hou;omega
   ·exact hI.ap j j' u u' hu1 hu2 hou hou' hne
 ·rcases hinn u hu with rfl|hu
  ·cases h3
  ·exact hI.com u hu h3
 ·rcases set_get hs hu with⟨e1,e2⟩|⟨hj,hu1⟩
  ·rw[e2,hs']
   rcases hinn v hv with rfl|hv
   ·exact⟨(fun h=>by cases h),fun _ h=>Nat.lt_irrefl _ h.1⟩
   ·have hon:v.x∈m.on ↔ v.st<3:=by
     rw[hI.wf.on]
     simp only[List.mem_map,List.mem_filter,decide_eq_true_eq]
     constructor
     ·rintro⟨u,⟨hu,h3⟩,e⟩
      have:=hI.wf.uniq u hu v hv e
      subst this;exact h3
     ·exact fun h=>⟨v,⟨hv,h⟩,rfl⟩
    refine⟨fun h3=>⟨fun _=>(hI.com v hv h3).2,fun _=>⟨(hI.wf.lo v hv).2,fun h=>?_⟩⟩,fun h3 h=>h.2 (hon.2 h3)⟩
    have:=hon.1 h;omega
  ·rcases hinn v hv with rfl|hv
   ·refine⟨(fun h=>by cases h),fun _ h=>?_⟩
    have h1:=h.1
    have h2:=hI.mx j u hu1 hou
    exact absurd h1 (by show¬m.nx<u.mx;omega)
   ·exact hI.vis j u hu1 hou v hv
 ·obtain⟨cm,o,hk⟩:=hI.key κ hκ
  have hok: ∀j,o=some j→j≠k:=fun j e e2=>by
   obtain⟨u,hu,hou,_⟩:=hk.ow j e
   rw[e2,hs] at hu;injection hu with hu
   rw[←hu,hcl] at hou;cases hou
  refine⟨cm,o,fun v hv=>?_,?_,fun p hp=>?_,fun j e=>?_,fun j u hu hou hw=>?_,hk.now,hk.wn,hk.up,fun j u hu hou=>?_⟩
  ·obtain⟨u,i,hf⟩:=hk.has v hv
   exact⟨u,i,hfn _ _ _ hf⟩
  ·have h1:(K κ).filter (fun v=>m.begin.state v.wr !=4)=(K κ).filter (fun v=>m.state v.wr !=4):=List.filter_congr (fun v hv=>by
    obtain⟨u,i,hf⟩:=hk.has v hv
    rw[hst _ _ _ hf])
   rw[h1,hk.eq]
   congr 1
   cases o with
   |none=>rfl
   |some j=>simp only[ownO,set_other (hok j rfl)]
  ·obtain⟨u,i,hf,h3⟩:=hk.com p hp
   exact⟨u,i,hfn _ _ _ hf,h3⟩
  ·obtain⟨u,hu,h2⟩:=hk.ow j e
   exact⟨u,by rw[set_other (hok j e)];exact hu,h2⟩
  ·rcases set_get hs hu with⟨e1,e2⟩|⟨hj,hu1⟩
   ·rw[e2,hs'] at hw;cases hw
   ·exact hk.one j u hu1 hou hw
  ·rcases set_get hs hu with⟨e1,e2⟩|⟨hj,hu1⟩
   ·rw[e2,hs']
    show q.now.getD κ 0=lastV ((cm.filter (fun p=>decide (p.2≤q.n))).map (·.1))
    have:cm.filter (fun p=>decide (p.2≤q.n))=cm:=List.filter_eq_self.2 (fun p hp=>by
     obtain⟨u,i,hf,h3,hσ⟩:=hk.com p hp
     have hu3:u.st=3:=by
      rw[stE_eq] at h3
      split at h3
      ·cases h3
      ·exact h3
     have:=(hI.com u (fnd_mem hf).1 hu3).2
     simp;omega)
    rw[this];exact hk.now
   ·exact hk.base j u hu1 hou
theorem Inv.write (hI:Inv m q K σ) (hs:q.l[k]? =some s) (ho:s.op=true) {i:Int} (h1: -1≤i) (h2:i<s.ps.length) (hstd:stdI s i=true) {κ:Nat} (hnc: ¬ConfP q k s κ) (g:Bool) (n:Nat):
  Inv m { q with l:=q.l.set k { s with ws:=s.ws++[⟨i,κ,g,n⟩] } } (fun j=>if j=κ then K κ++[⟨wrN s i,g,n⟩] else K j) σ:=by
 obtain⟨s',hs'⟩: ∃s':Se,s'= { s with ws:=s.ws++[⟨i,κ,g,n⟩] } :=⟨_,rfl⟩
 rw[←hs']
 have e_op:s'.op=s.op:=by rw[hs']
 have e_x:s'.x=s.x:=by rw[hs']
 have e_mx:s'.mx=s.mx:=by rw[hs']
 have e_on:s'.on=s.on:=by rw[hs']
 have e_wh:s'.wh=s.wh:=by rw[hs']
 have e_ba:s'.base=s.base:=by rw[hs']
 have e_own: ∀κ',own s' κ'=own s κ'++(if κ'=κ then[⟨i,κ,g,n⟩] else[]):=fun κ'=>by
  rw[hs']
  show(s.ws++[(⟨i,κ,g,n⟩:Wt)]).filter (fun(w:Wt)=>stdI s w.pt && decide (w.key=κ'))=_
  rw[List.filter_append]
  congr 1
  by_cases e:κ'=κ
  ·subst e;simp[hstd]
  ·simp[e,Ne.symm e]
 have e_ownV: ∀κ',ownV s' κ'=ownV s κ'++(if κ'=κ then[⟨wrN s i,g,n⟩] else[]):=fun κ'=>by
  unfold ownV
  rw[e_own,List.map_append]
  have: ∀w,vnW s' w=vnW s w:=fun w=>by rw[hs'];rfl
  congr 1
  ·exact List.map_congr_left (fun w _=>this w)
  ·split
   ·simp only[List.map_cons,List.map_nil,this];rfl
   ·rfl
 obtain⟨⟨t,ht⟩,hws,hwh⟩:=hI.ses k s hs ho
 have htk: ∀(u:Se) (tu:Tx),SesTx m u tu→SesTx m u tu:=fun _ _ h=>h
 refine⟨hI.wf,by rw[List.length_set];exact hI.ln,fun j u hu hou=>?_,fun j u hu hou=>?_,fun j j' u u' hu hu' hou hou' hne=>?_,hI.com,fun j u hu hou v hv=>?_,fun κ' hκ'=>?_⟩
 ·rcases set_get hs hu with⟨e1,e2⟩|⟨hj,hu1⟩
  ·rw[e2,e_mx];exact hI.mx k s hs ho
  ·exact hI.mx j u hu1 hou
 ·rcases set_get hs hu with⟨e1,e2⟩|⟨hj,hu1⟩
  ·rw[e2,hs']
   refine⟨⟨t,ht.mem,ht.x,ht.st,ht.ps⟩,fun w hw=>?_,hwh⟩
   rcases List.mem_append.1 hw with hw|hw
   ·exact hws w hw
   ·rw[List.mem_singleton.1 hw];exact⟨h1,h2⟩
  ·exact hI.ses j u hu1 hou
 ·rcases set_get hs hu with⟨e1,e2⟩|⟨hj,hu1⟩
  ·rcases set_get hs hu' with⟨e3,e4⟩|⟨hj',hu2⟩
   ·exact absurd (e1.trans e3.symm) hne
   ·rw[e2,e_x];exact hI.ap k j' s u' hs hu2 ho hou' (fun e=>hj' e.symm)
  ·rcases set_get hs hu' with⟨e3,e4⟩|⟨hj',hu2⟩
   ·rw[e4,e_x];exact hI.ap j k u s hu1 hs hou ho hj
   ·exact hI.ap j j' u u' hu1 hu2 hou hou' hne
 ·rcases set_get hs hu with⟨e1,e2⟩|⟨hj,hu1⟩
  ·have:=hI.vis k s hs ho v hv
   rw[e2]
   unfold visT at this ⊢
   rw[e_mx,e_on,e_wh];exact this
  ·exact hI.vis j u hu1 hou v hv
 ·obtain⟨cm,o,hk⟩:=hI.key κ' hκ'
  have hbase: ∀(j:Nat) (u:Se),(q.l.set k s')[j]? =some u→u.op=true→u.base.getD κ' 0=lastV ((cm.filter (fun p=>decide (p.2≤u.wh))).map (·.1)):=fun j u hu hou=>by
   rcases set_get hs hu with⟨e1,e2⟩|⟨hj,hu1⟩
   ·rw[e2,e_ba,e_wh];exact hk.base k s hs ho
   ·exact hk.base j u hu1 hou
  by_cases hκ2:κ'=κ
  ·subst hκ2
   rw[if_pos rfl]
   have hf:=ses_fnd hI.wf ht h1 h2
   have hstate:=ses_state hI.wf ht h1 h2
   rw[hstd,if_pos rfl] at hstate
   have hl3:=ht.lt3
   have hoo:o=none∨o=some k:=by
    cases e:o with
    |none=>exact Or.inl rfl
    |some j=>
     by_cases hj:j=k
     ·exact Or.inr (by rw[hj])
     ·obtain⟨u,hu,hou,hwu,_⟩:=hk.ow j e
      exact absurd (Or.inl ⟨j,u,hj,hu,hou,hwu⟩) hnc
   have hown:ownO q o κ'=ownV s κ':=by
    rcases hoo with e|e
    ·have:own s κ'=[]:=own_nil (fun hw=>by have:=hk.one k s hs ho hw;rw[e] at this;cases this)
     rw[e];unfold ownV;rw[this];rfl
    ·rw[e];simp only[ownO,hs]
   have hwr:wroteS s' κ'=true:=by
    unfold wroteS;rw[e_own,if_pos rfl]
    cases own s κ'<;>rfl
   refine⟨cm,some k,fun v hv=>?_,?_,hk.com,fun j e=>?_,fun j u hu hou hw=>?_,hk.now,hk.wn,hk.up,hbase⟩
   ·rcases List.mem_append.1 hv with hv|hv
    ·exact hk.has v hv
    ·rw[List.mem_singleton.1 hv];exact⟨t,i,hf⟩
   ·rw[List.filter_append,hk.eq,hown]
    have e2:[(⟨wrN s i,g,n⟩:Vn)].filter (fun v=>m.state v.wr !=4)=[⟨wrN s i,g,n⟩]:=List.filter_eq_self.2 (fun v hv=>by
     rw[List.mem_singleton.1 hv]
     show(m.state (wrN s i) !=4)=true
     rw[hstate];simp;omega)
    rw[e2]
    simp only[ownO,set_self hs,e_ownV,if_true,List.append_assoc]
   ·injection e with e;subst e
    refine⟨s',set_self hs,by rw[e_op];exact ho,hwr,?_⟩
    rw[e_wh]
    exact Nat.le_of_not_lt (fun h=>hnc (Or.inr h))
   ·rcases set_get hs hu with⟨e1,e2⟩|⟨hj,hu1⟩
    ·rw[e1]
    ·have:=hk.one j u hu1 hou hw
     rcases hoo with e|e
     ·rw[e] at this;cases this
     ·rw[e] at this;injection this with this;exact absurd this.symm hj
  ·rw[if_neg hκ2]
   have e_o:own s' κ'=own s κ':=by rw[e_own,if_neg hκ2,List.append_nil]
   have e_v:ownV s' κ'=ownV s κ':=by rw[e_ownV,if_neg hκ2,List.append_nil]
   have e_w:wroteS s' κ'=wroteS s κ':=by unfold wroteS;rw[e_o]
   refine⟨cm,o,hk.has,?_,hk.com,fun j e=>?_,fun j u hu hou hw=>?_,hk.now,hk.wn,hk.up,hbase⟩
   ·rw[hk.eq]
    congr 1
    cases o with
    |none=>rfl
    |some j=>
     by_cases hj:j=k
     ·subst hj;simp only[ownO,set_self hs,hs,e_v]
     ·simp only[ownO,set_other hj]
   ·obtain⟨u,hu,hou,hwu,hle⟩:=hk.ow j e
    by_cases hj:j=k
    ·subst hj
     rw[hs] at hu;injection hu with hu;subst hu
     exact⟨s',set_self hs,by rw[e_op];exact ho,by rw[e_w];exact hwu,by rw[e_wh];exact hle⟩
    ·exact⟨u,by rw[set_other hj];exact hu,hou,hwu,hle⟩
   ·rcases set_get hs hu with⟨e1,e2⟩|⟨hj,hu1⟩
    ·rw[e1];rw[e2,e_w] at hw;exact hk.one k s hs ho hw
    ·exact hk.one j u hu1 hou hw
end
end Go.Proofs.YtppokgdofgigfaaGreat.F
