import Derived.Test.YtocligpfmfmihaaGreatDoorVr6G
import Derived.Test.YtocligpfmfmihaaGreatDoorLaw3G
set_option maxHeartbeats 4000000
set_option maxRecDepth 20000
namespace Go.Proofs.YtocligpfmfmihaaGreatDoor
open Go.Proofs.Tryz
section
open Go Go.RowKit Go.Maps Go.WideMaps
attribute [local go_sem] Oper.semAt_some
def VyR(w:World)(F:Nat→Prop)(nb:Nat)(nm id ky:Bs)(xs:List Bs)(T:List Bs)(r:((Nat×Bs)×Nat)×Ldg)(e:Ending)(w':World):Prop:=e=.returned (.tuple #[eK r.1.1,.int .i64 (r.1.2:Int)])∧PnR w F nb nm id ky xs r.2 (aR T) w'
theorem iq{w:World}{rb:Nat}{a b v:Value}(tmps:Array Value)(h2:tmps[8]?.getD undef=.pointer (some ⟨rb,0,none⟩))(h3:tmps[9]?.getD undef=v)(hb:w.heap[rb]? =some (.cells #[a,b] 52)):
  (results Tryz.f31 tmps).run prog w=.ok (.tuple #[.agg #[a,b],v]) w:=by
 obtain⟨⟨c,d⟩,_⟩:=aH hb;simp[results,results31,go_sem,h2,h3,c,d]
theorem Ai{t:Bs}{cs:List Clm}(h:bM t=.ok cs):∀c ∈ cs,ClK c:=by
 unfold bM at h;split at h
 ·cases h
 ·rename_i l hl
  split at h
  ·cases h
  ·rename_i cs' d
   injection h with h
   subst h
   obtain⟨b,hlen⟩:WF 6 (.obj l)∧(cJ (.obj l)).length≤600:=by
    obtain⟨hp,g⟩:=eX hl;obtain⟨b,i⟩:=eD hp;exact⟨b,by omega⟩
   unfold dI at d;simp only[Option.bind_eq_some_iff,Option.map_eq_some_iff]at d;obtain⟨ss,f,t,m,rfl⟩:=d;intro c d;obtain⟨s,k,rfl⟩:=List.mem_map.1 d;have e:=Ds (s:=s) b hlen;refine⟨(uR f).2 s k,Nat.le_trans (iY b hlen).2.2.2 (by omega),fun p hp=> ?_,Nat.le_trans (List.length_filterMap_le _ _) e.2.1⟩;obtain⟨q,j,a⟩:=List.mem_filterMap.1 hp;unfold sgP at a;split at a
   ·injection a with a
    subst a;exact e.2.2 q j
   ·cases a
theorem yO{w:World}{B:Nat}{g n c:Nat}{ps:List (Clm×Value)}(h:w.ownsRow B 111 4 (.slice (some ⟨g,0,none⟩) n c) n (ps.flatMap clC))(i:Nat)(p:Clm×Value)(hp:ps[i]? =some p):
  w.cell? ⟨g,i*4,none⟩=some (.string ⟨p.1.server.toArray⟩)∧w.cell? ⟨g,i*4+1,none⟩=some (.int .i64 p.1.ts)∧w.cell? ⟨g,i*4+2,none⟩=some (.string ⟨p.1.msg.toArray⟩)∧w.cell? ⟨g,i*4+3,none⟩=some p.2:=
 ⟨ct (f:=clC) (fun _=>rfl) h i p hp 0 (by omega) _ rfl,ct (f:=clC) (fun _=>rfl) h i p hp 1 (by omega) _ rfl,ct (f:=clC) (fun _=>rfl) h i p hp 2 (by omega) _ rfl,ct (f:=clC) (fun _=>rfl) h i p hp 3 (by omega) _ rfl⟩
structure VE(w wx:World)(Fk:Nat→Prop)(nb:Nat)(ps:List (Clm×Value))(v:Value):Prop where
 kw:Kp (fun _=>False) w wx
 fz:∀k,Fk k→k < w.heap.size
 pblk:wx.heap[w.heap.size]? =some (.cells #[.pointer (some ⟨nb,0,none⟩)] 47)
 rblk:wx.heap[w.heap.size+1]? =some (.cells #[.int .i64 0,.string ⟨#[]⟩] 52)
 row:wx.ownsRow w.heap.size 111 4 v ps.length (ps.flatMap clC)
 sigs:∀p ∈ ps,wx.ownsRow w.heap.size 193 2 p.2 p.1.sigs.length (p.1.sigs.flatMap sgC)
structure VL(w wx:World)(F1:Nat→Prop)(nb:Nat)(ps:List (Clm×Value))(v:Value):Prop where
 pblk:wx.heap[w.heap.size]? =some (.cells #[.pointer (some ⟨nb,0,none⟩)] 47)
 pf:¬F1 w.heap.size
 rblk:wx.heap[w.heap.size+1]? =some (.cells #[.int .i64 0,.string ⟨#[]⟩] 52)
 rf:¬F1 (w.heap.size+1)
 row:wx.ownsRow w.heap.size 111 4 v ps.length (ps.flatMap clC)
 sigs:∀p ∈ ps,wx.ownsRow 0 193 2 p.2 p.1.sigs.length (p.1.sigs.flatMap sgC)∧∀k,p.2.ownBlock=some k→¬F1 k∧k < wx.heap.size
theorem nB{w:World}{B B':Nat}{e:TypeId}{sz n:Nat}{v:Value}{xs:List Value}(h:w.ownsRow B e sz v n xs)(hb:B'≤B):w.ownsRow B' e sz v n xs:=by
 obtain⟨d,c⟩:=h;refine⟨d, ?_⟩;rcases c with c | ⟨g,a,b,rfl,f,r⟩
 ·exact Or.inl c
 ·exact Or.inr ⟨g,a,b,rfl,Nat.le_trans hb f,r⟩
theorem tZ{W w':World}{o:Nat×Bs}{e:Ending}(ho:o.1=0)(h:(o.1=0∧e=.returned .nilIface)∨(∃q a,e=.returned (.iface 188 (.pointer (some ⟨q,0,none⟩)))∧w'.heap[q]? =some (.cells #[.string ⟨o.2.toArray⟩,ax a] 191) ∧
    ((o.1=8∧W.cell? ⟨3,0,none⟩=some (ax a))∨(o.1=5∧Plain W a)))):e=.returned .nilIface:=by
 rcases h with⟨_,h⟩ | ⟨q,a,_,_,h | h⟩
 ·exact h
 ·exact absurd (ho.symm.trans h.1) (by decide)
 ·exact absurd (ho.symm.trans h.1) (by decide)
theorem VE.kp{w w5 wx:World}{Fk F1:Nat→Prop}{nb:Nat}{ps:List (Clm×Value)}{v:Value}(h:VE w w5 Fk nb ps v)(K:Kp Fk w5 wx)(hF:∀k,F1 k→Fk k∨w5.heap.size≤k):VL w wx F1 nb ps v:=by
 have b:∀k,w.heap.size≤k→¬Fk k:=fun k hk hf=>by have:=h.fz k hf;omega
 have a:∀k,w.heap.size≤k→k < w5.heap.size→¬F1 k:=fun k hk hk5 hf=>(hF k hf).elim (b k hk) (fun h=>by omega)
 exact⟨fU h.pblk K (b _ (Nat.le_refl _)),a _ (Nat.le_refl _) (ag h.pblk),fU h.rblk K (b _ (Nat.le_succ _)),a _ (Nat.le_succ _) (ag h.rblk),an h.row K (fun k e=>b k (h.row.lt k e).1),fun p hp=>⟨nB (an (h.sigs p hp) K (fun k e=>b k ((h.sigs p hp).lt k e).1)) (Nat.zero_le _),fun k e=>⟨a k ((h.sigs p hp).lt k e).1 ((h.sigs p hp).lt k e).2,Nat.lt_of_lt_of_le ((h.sigs p hp).lt k e).2 K.size⟩⟩⟩
theorem sI{W w w5 wx w6:World}{F Fk F1:Nat→Prop}{nb kb:Nat}{nm id ky:Bs}{so:Value}{xs:List Bs}{rs:List Rpl}{ra:Option Addr}{rc cb:Nat}{st st1:Ldg}{c c1:Nat}{ps:List (Clm×Value)}{v:Value}(hP:PNs w F Fk nb kb nm id ky so xs st c)(hV:VE w w5 Fk nb ps v)(K:Kp Fk w5 wx)(hF:∀k,F1 k→Fk k∨w5.heap.size≤k)(hfe:FE W wx F1 nb kb nm id ky so xs rs ra rc cb)(hk:KN wx F1 kb st1 c1)(K6:Kp (fun _=>False) wx w6)(p q:Value):PnR w F nb nm id ky xs st1 c1 ((w6.setCell ⟨w.heap.size+1,0,none⟩ p).setCell ⟨w.heap.size+1,1,none⟩ q):=by
 have d:Kp Fk w wx:=(hV.kw.mono (fun _ _ h=>h.elim)).trans K;have f:∀k,F1 k→Fk k∨w.heap.size≤k:=fun k a=>(hF k a).imp (fun h=>h) (fun h=>Nat.le_trans hV.kw.size h)
 have g:=(hP.after d f (fun k a=>(hfe.fl k a).2) hk).kp K6
 have b:∀k,F k∨F1 k→k≠w.heap.size+1:=by
  rintro k (a | a) rfl
  ·have:=hP.lt _ a
   omega
  ·exact (hV.kp K hF).rf a
 refine⟨fun k=>F k∨F1 k,Kp.setCell (p:=⟨w.heap.size+1,1,none⟩) (Kp.setCell (p:=⟨w.heap.size+1,0,none⟩) ((d.mono (fun k _ h=>hP.fk k h)).trans (K6.mono (fun _ _ h=>h.elim))) (fun e=>absurd e (Nat.not_lt.2 (Nat.le_succ _))) _) (fun e=>absurd e (Nat.not_lt.2 (Nat.le_succ _))) _,fun k a=> ?_,F1,kb,so,g.frame (by rw[World.size_setCell,World.size_setCell];exact Nat.le_refl _) (fun k h=> ?_)⟩
 ·rcases a with a | a
  ·exact Or.inl a
  ·exact (f k a).imp (fun h=>hP.fk k h) (fun h=>h)
 ·rw[af (by exact b k h),af (by exact b k h)]
theorem Ao(W:World)(hN:NG3 W)(w:World)(hW:Below W.heap.size W w)(F:Nat→Prop)(hFl:∀k,F k→W.heap.size≤k)(nb:Nat)(nm id ky:Bs)(xs:List Bs)(st:Ldg)(T:List Bs)(hT:LOk T st)(hTl:T.length≤700000)(hP:PN w F nb nm id ky xs st (aR T))(hxl:xs.length≤1100000000)
  (rs:List Rpl) (ra:Option Addr) (rc:Nat) (hI:RpI w rs ra) (hrf:rs≠[]→∀g o,ra=some ⟨g,o,none⟩→¬F g∧g < w.heap.size) (hrl:rs.length≤1100000000) (hrT:∀r ∈ rs,r.text ∈ T) (text:Bs) (htT:text ∈ T) (now:Int) (hn0 : -9223372036854775808≤now) (hn1:now≤9223372036854775807) (res:((Nat×Bs)×Nat)×Ldg) (hres:res=bS rs now xs st text) :
  Calls prog 31 #[.pointer (some ⟨nb,0,none⟩),.string ⟨text.toArray⟩,.int .i64 now,.slice ra rs.length rc] w fun e w'=>VyR w F nb nm id ky xs T res e w':=by
 obtain⟨Q,t,so,hp⟩:=hP;have ap:=ae hres;have E:=ae (An hp (An hI (An hrf (An hrT (An htT hT)))));clear hres hp hI hrf hrT htT hT;have K0:Kp (fun _=>False) w ((w.alloc (.cells #[.pointer (some ⟨nb,0,none⟩)] 47)).alloc (.cells #[.int .i64 0,.string ⟨#[]⟩] 52)):=((Kp.refl _ _).alloc _).alloc _;have I0:((w.alloc (.cells #[.pointer (some ⟨nb,0,none⟩)] 47)).alloc (.cells #[.int .i64 0,.string ⟨#[]⟩] 52)).heap[w.heap.size]? =some (.cells #[.pointer (some ⟨nb,0,none⟩)] 47):=((Kp.refl (fun _=>False) _).alloc _).heap (heap_alloc_new w _)
 have I1:((w.alloc (.cells #[.pointer (some ⟨nb,0,none⟩)] 47)).alloc (.cells #[.int .i64 0,.string ⟨#[]⟩] 52)).heap[w.heap.size+1]? =some (.cells #[.int .i64 0,.string ⟨#[]⟩] 52):=by
  have:=heap_alloc_new (w.alloc (.cells #[.pointer (some ⟨nb,0,none⟩)] 47)) (.cells #[.int .i64 0,.string ⟨#[]⟩] 52);rwa[World.size_alloc]at this
 have aK:=ae (tA W hN.n2 text _ (am hW K0));have u:=ae (An K0 (An I0 I1));clear K0 I0 I1;go_enter func31,ntmps31;go_wp2_with fail
 generalize ((w.alloc (.cells #[.pointer (some ⟨nb,0,none⟩)] 47)).alloc (.cells #[.int .i64 0,.string ⟨#[]⟩] 52))=w0 at *;refine aK.o.mono ?_;rintro e w1 ⟨K1,h1⟩;have R:=ae K1;clear K1 aK
 cases htk:bM text with
 |error n=>
  rw[htk]at h1;obtain⟨tt,uu,rfl,he⟩:=h1;have hr:res=(((n,[]),0),st):=by rw[ap.o];unfold bS;rw[htk]
  have L:=ae hr;have aI:=ae (vw W hN.n2 w1 (am hW (u.o.1.trans R.o)) tt uu n he);clear hr htk he;go_wp2_with fail
  refine aI.o.mono ?_;rintro e w2 ⟨rfl,K2⟩;have I2:=K2.heap (R.o.heap u.o.2.2);obtain⟨⟨b0,b1⟩,b2,b3⟩:=aH I2;have aE:=ae (An (u.o.1.trans (R.o.trans K2)) I2);clear K2 I2 aI;unfold eK;go_wp2;refine bodyPost_ret (iq _ rfl rfl (bO aE.o.2)) rfl ?_;rw[L.o];have Kz:=gQ (b:=w.heap.size+1) (p:=.int .i64 (n:Int)) (q:=.string ⟨#[]⟩) aE.o.1 (Nat.le_succ _);exact⟨rfl,F,Kz.mono (fun _ _ h=>h.elim),fun _ h=>Or.inl h,Q,t,so,E.o.1.kp Kz⟩
 |ok cs=>
  rw[htk]at h1;obtain⟨v,ps,rfl,ax,ar⟩:=h1;have hr:res=dV rs now xs st cs 0:=by rw[ap.o];unfold bS;rw[htk]
  have aC:=ae (te w1 (.slice ra rs.length rc) ⟨_,_,_,rfl⟩);obtain⟨va,vc,rfl,_,_⟩:=aY ar.1;have K5:Kp (fun _=>False) w1 (w1.alloc (.cells #[.slice ra rs.length rc] 91)):=(Kp.refl _ _).alloc _;have I5:=heap_alloc_new w1 (.cells #[.slice ra rs.length rc] 91)
  have aW:ps.length≤2:=by
   have:=lT htk;rw[←ax,List.length_map]at this;exact this
  have L:=ae (An hr (An htk (An ax (An ar (An K5 I5)))));clear hr htk ax ar ap K5 I5;go_wp2_with fail
  refine aC.o.mono ?_;rintro e w2 ⟨rfl,rfl⟩;clear aC;generalize (w1.alloc (.cells #[.slice ra rs.length rc] 91))=w5 at *
  have hV:VE w w5 Q nb ps (.slice va ps.length vc):=by
   have aq:Kp (fun _=>False) w0 w5:=R.o.trans L.o.2.2.2.2.1;have ao:=L.o.2.2.2.1;have aQ:=u.o.1.size;have hz:∀k,Q k→k < w.heap.size:=fun k hf=>E.o.1.lt k (E.o.1.fk k hf)
   refine⟨u.o.1.trans aq,hz,aq.heap u.o.2.1,aq.heap u.o.2.2,an (nB ao.1 aQ) L.o.2.2.2.2.1 (by simp),fun p hp=>an (nB (ao.2 p hp) aQ) L.o.2.2.2.2.1 (by simp)⟩
  have aN:FE W w5 Q nb t nm id ky so xs rs ra rc w1.heap.size:=by
   have ai:=hV.kw;have hz:=hV.fz;have A:=E.o.1.kp ai;refine⟨am hW ai,fun k hf=>⟨hFl k (E.o.1.fk k hf),A.lt k (A.fk k hf)⟩,A.nblk,A.nf,A.rso,fun k e=>⟨(A.fso k e).2,A.lt k (A.fso k e).1⟩,L.o.2.2.2.2.2,fun hf=> ?_,E.o.2.1.kps ai (fun _ _ _ _ h=>h),fun h0 g o e=>⟨fun hf=>(E.o.2.2.1 h0 g o e).1 (E.o.1.fk g hf),Nat.lt_of_lt_of_le (E.o.2.2.1 h0 g o e).2 ai.size⟩⟩;have:=hz _ hf;have:=u.o.1.size;have:=R.o.size;omega
  have y:=ae (An hV aN);clear hV aN;go_wp2_with fail
  go_loopg [13,30] ps.length (fun gg q q2 wx=>∃(i n:Nat) (c:Ldg) (F1:Nat→Prop),gg=ps.length - i∧i≤ps.length∧q=.int .i64 (n:Int)∧q2=.int .i64 (i:Int)∧n≤i*1100000001∧Kp Q w5 wx∧(∀k,F1 k→Q k∨w5.heap.size≤k)∧FE W wx F1 nb t nm id ky so xs rs ra rc w1.heap.size∧KN wx F1 t c (aR T)∧LOk T c∧dV rs now xs st cs 0=dV rs now xs c (cs.drop i) n)
  case atStart=>exact⟨0,0,st,Q,rfl,by omega,rfl,rfl,by omega,Kp.refl _ _,fun _ h=>Or.inl h,y.o.2,(E.o.1.kp y.o.1.kw).kn,E.o.2.2.2.2.2,rfl⟩
  case round=>
   obtain⟨i,n,c,F1,au,aX,rfl,rfl,aP,Kr,aa,m,al,av,M⟩:=hrel;have hv:=y.o.1.kp Kr aa;by_cases aV:i < ps.length
   ·have aO:(i:Int) < (ps.length:Int):=by omega
    obtain⟨⟨cl,sv⟩,hx⟩:∃x,ps[i]? =some x:=⟨ps[i],List.getElem?_eq_getElem aV⟩;obtain⟨az,ay⟩:=hv.sigs _ (List.mem_of_getElem? hx);obtain⟨B,D,aA,_,_⟩:=aY az;replace aA:sv=.slice B cl.sigs.length D:=aA;subst aA;obtain⟨_,_,e1,_,hg⟩:=aY hv.row;obtain⟨g,e2,hg⟩:=hg (by omega);injection e1 with aM aS aT
    subst aT;rw[←aM]at e2;subst e2;obtain⟨c0,c1,c2,c3⟩:=yO hv.row i _ hx;have z:cs[i]? =some cl:=by rw[←L.o.2.2.1,List.getElem?_map,hx];rfl
    have af:=qx (rs:=rs) (now:=now) (xs:=xs) (st:=c) (n:=n) z;have ac:=Ai L.o.2.1 cl (List.mem_of_getElem? z);have Kd:Kp (fun _=>False) wr (wr.alloc (eB cl (.slice B cl.sigs.length D))):=(Kp.refl _ _).alloc _;have Id:=heap_alloc_new wr (eB cl (.slice B cl.sigs.length D))
    have K:FI W (wr.alloc (eB cl (.slice B cl.sigs.length D))) F1 nb t nm id ky so xs rs ra rc w1.heap.size w.heap.size wr.heap.size cl (.slice B cl.sigs.length D) T c:=by
     refine⟨m.kp (Kd.mono (fun _ _ h=>h.elim)) (fun _ h=>Or.inl h) (fun k hf=>Nat.lt_of_lt_of_le (m.fl k hf).2 Kd.size),⟨Kd.heap hv.pblk,hv.pf,Id,fun hf=> ?_,an az Kd (by simp),fun k e=>⟨(ay k e).1,Nat.lt_of_lt_of_le (ay k e).2 Kd.size⟩⟩,al.kp2 Kd,av⟩;have:=(m.fl _ hf).2;omega
    have aL:Hid (∀X,Kp (fun _=>False) (wr.alloc (eB cl (.slice B cl.sigs.length D))) X→Calls prog 60 #[.pointer (some ⟨t,0,none⟩),clV cl (.slice B cl.sigs.length D)] X fun e w'=>e=.returned (.bool (b8 c cl))∧Kp (fun _=>False) X w'):=fun X hX=>pM X F1 t c (aR T) (K.kn.kp2 hX) cl ac 0 _ (an K.ce.row hX (by simp))
    have H:=ae (An au (An Kr (An aa (An Kd (An K (An M hv))))));have HX:=ae (An z (An ac (An af (List.mem_of_getElem? z))));obtain⟨n0,n1,n2,n3,n4⟩:=cX K.fe.nblk;obtain⟨cp,_⟩:=aj K.ce.pblk;obtain⟨i0,i1,i2,i3,_⟩:=ei K.ce.iblk;clear au Kr aa m al av M hv K hx az ay z af ac aM aS Kd Id;unfold eB at *;go_wp2_with fail
    generalize hwd:(wr.alloc (.cells #[.string ⟨cl.server.toArray⟩,.int .i64 cl.ts,.string ⟨cl.msg.toArray⟩,.slice B cl.sigs.length D] 111))=wd at *;clear hwd;refine oS ?_ (fun Y=>Kp (fun _=>False) wd Y) ?_ ?_;rotate_left
    ·go_region_law (refine aF rfl 60 _ _ rfl #[.pointer (some ⟨t,0,none⟩),.agg #[.string ⟨cl.server.toArray⟩,.int .i64 cl.ts,.string ⟨cl.msg.toArray⟩,.slice B cl.sigs.length D]] (by go_simp) ?_;refine (aL.o _ ((Kp.refl _ wd).drew)).mono ?_;rintro e w3 ⟨rfl,O⟩)
     all_goals exact gL (C:=fun Y=>Kp (fun _=>False) wd Y) (((Kp.refl _ wd).drew).trans O)
    intro w3 K3;have ah:=ae K3;clear aL n0 n1 n2 n3 n4 cp i0 i1 i2 i3 c0 c1 c2 c3 K3
    cases hwb:b8 c cl with
    |false=>
     have Z:df rs now xs c cl=(0,c):=by unfold df;rw[hwb];rfl
     have aw:n≤(i+1)*1100000001:=Nat.le_trans aP (Nat.mul_le_mul_right _ (Nat.le_succ i));obtain⟨P,ab⟩:∃P,P=F1:=⟨_,rfl⟩;obtain⟨st2,hs2⟩:∃st2,st2=c:=⟨_,rfl⟩;obtain⟨l,hw4⟩:∃l,l=w3:=⟨_,rfl⟩
     have d:Hid (Kp Q w5 l∧(∀k,P k→Q k∨w5.heap.size≤k)∧FI W l P nb t nm id ky so xs rs ra rc w1.heap.size w.heap.size wr.heap.size cl (.slice B cl.sigs.length D) T st2∧df rs now xs c cl=(0,st2)):=by
      subst ab hs2 hw4;exact⟨H.o.2.1.trans ((H.o.2.2.2.1.trans ah.o).mono (fun _ _ h=>h.elim)),H.o.2.2.1,H.o.2.2.2.2.1.kp0 ah.o,Z⟩
     rw[←hw4];clear Z hwb ab hw4 hs2;have G:Hid (∀X,Kp (fun _=>False) l X→Calls prog 63 #[.pointer (some ⟨t,0,none⟩),clV cl (.slice B cl.sigs.length D)] X fun e w'=>CkR W X (cR st2 cl) e w'):=fun X hX=>rm W hN X (am d.o.2.2.1.fe.bl hX) P t st2 (aR T) (d.o.2.2.1.kn.kp2 hX) (fun s i p h=>(d.o.2.2.1.ok.keys s i p h).1) cl HX.o.2.1 0 _ (an d.o.2.2.1.ce.row hX (by simp))
     obtain⟨n0,n1,n2,n3,n4⟩:=cX d.o.2.2.1.fe.nblk;obtain⟨cp,_⟩:=aj d.o.2.2.1.ce.pblk;obtain⟨i0,i1,i2,i3,_⟩:=ei d.o.2.2.1.ce.iblk;by_cases ho:(cR st2 cl).1=0
     ·have ag:dV rs now xs st cs 0=dV rs now xs st2 (cs.drop (i+1)) n:=by
       rw[H.o.2.2.2.2.2.1,HX.o.2.2.1,d.o.2.2.2];simp only[];rw[if_pos ho];rfl
      have I:=ae ag;clear ag;go_wp2_with fail
      refine oS ?_ (fun Y=>Kp (fun _=>False) l Y) ?_ ?_;rotate_left
      ·go_region_law (refine aF rfl 63 _ _ rfl #[.pointer (some ⟨t,0,none⟩),.agg #[.string ⟨cl.server.toArray⟩,.int .i64 cl.ts,.string ⟨cl.msg.toArray⟩,.slice B cl.sigs.length D]] (by go_simp) ?_;refine (G.o _ ((Kp.refl _ l).drew)).mono ?_;rintro e w7 ⟨O,t2⟩;obtain rfl:=tZ ho t2)
       all_goals exact gL (C:=fun Y=>Kp (fun _=>False) l Y) (((Kp.refl _ l).drew).trans O)
      intro w7 K7;have S:=ae K7;clear K7 G n0 n1 n2 n3 n4 cp i0 i1 i2 i3 ho;go_wp2;go_roundg (ps.length - (i+1))
      case measure=>rw[H.o.1];omega
      case rel=>
       have f:=d.o.2.2.1.kp0 S.o;exact⟨i+1,n,st2,P,rfl,by omega,rfl,ak (by omega),aw,d.o.1.trans (S.o.mono (fun _ _ h=>h.elim)),d.o.2.1,f.fe,f.kn,f.ok,I.o⟩
     ·have ad:res=((cR st2 cl,n),st2):=by
       rw[L.o.1,H.o.2.2.2.2.2.1,HX.o.2.2.1,d.o.2.2.2];simp only[];rw[if_neg ho];rfl
      have I:=ae ad;clear ad;go_wp2_with fail
      go_region_law (refine aF rfl 63 _ _ rfl #[.pointer (some ⟨t,0,none⟩),.agg #[.string ⟨cl.server.toArray⟩,.int .i64 cl.ts,.string ⟨cl.msg.toArray⟩,.slice B cl.sigs.length D]] (by go_simp) ?_;refine (G.o _ ((Kp.refl _ l).drew)).mono ?_;rintro e w7 ⟨O,t2⟩;obtain⟨q,a,rfl,t3,t4⟩:=t2.resolve_left (fun h=>ho h.1);have V:=ae (mJ W hN w7 (am d.o.2.2.1.fe.bl (((Kp.refl _ l).drew).trans O)) (cR st2 cl) q a t3 t4);have HT:=ae O;clear O t2 t3 t4)
      all_goals go_wp2_with fail
      all_goals
       refine V.o.mono ?_;rintro e w8 ⟨rfl,K8⟩;have J:Kp (fun _=>False) l w8:=((Kp.refl _ l).drew).trans (HT.o.trans K8);have I8:=J.heap (y.o.1.kp d.o.1 d.o.2.1).rblk;obtain⟨⟨b0,b1⟩,b2,b3⟩:=aH I8;have U:=ae (An J I8);clear K8 J I8 V;unfold eK
      all_goals go_wp2
      all_goals
       refine bodyPost_ret (iq _ rfl rfl (bO U.o.2)) rfl ?_;rw[I.o];exact⟨rfl,sI E.o.1 y.o.1 d.o.1 d.o.2.1 d.o.2.2.1.fe d.o.2.2.1.kn U.o.1 _ _⟩
    |true=>
     have h0:0 < cl.sigs.length:=by
      unfold b8 at hwb;simp only[Bool.and_eq_true,decide_eq_true_eq]at hwb;exact hwb.1
     obtain⟨⟨kq,st2⟩,m⟩:∃r,r=if cS c cl.server now then (0,c) else dy rs now xs c cl:=⟨_,rfl⟩
     have Z:df rs now xs c cl=(kq,st2):=by
      rw[m];unfold df;rw[hwb];cases cS c cl.server now <;> rfl
     have aU:kq≤1100000001:=by
      have h1:=qW rs now xs c cl;have h2:=congrArg (·.1) m;simp only[]at h2;rw[h2];split
      ·exact Nat.zero_le _
      ·omega
     have aw:n+kq≤(i+1)*1100000001:=by
      rw[Nat.add_mul,Nat.one_mul];exact Nat.add_le_add aP aU
     have f:=H.o.2.2.2.2.1.kp0 ah.o;have aD:=ae (BH W hN w3 F1 nb t nm id ky so xs rs ra rc w1.heap.size w.heap.size wr.heap.size cl _ T c f hTl hxl hrl E.o.2.2.2.1 HX.o.2.1 h0 E.o.2.2.2.2.1 L.o.2.1 HX.o.2.2.2 now hn0 hn1 _ m);obtain⟨cp,_⟩:=aj f.ce.pblk;obtain⟨i0,i1,i2,i3,_⟩:=ei f.ce.iblk;have aB:=ae Z;clear Z hwb m f;go_wp2_with fail
     refine aD.o.mono ?_;rintro e l ⟨rfl,P,K4,ab,f⟩
     have d:Hid (Kp Q w5 l∧(∀k,P k→Q k∨w5.heap.size≤k)∧FI W l P nb t nm id ky so xs rs ra rc w1.heap.size w.heap.size wr.heap.size cl (.slice B cl.sigs.length D) T st2∧df rs now xs c cl=(kq,st2)):=by
      have K3:=H.o.2.1.trans ((H.o.2.2.2.1.trans ah.o).mono (fun _ _ h=>h.elim));refine⟨K3.and K4 (fun j hj hf=>(H.o.2.2.1 j hf).resolve_right (by omega)),fun k hk=> ?_,f,aB.o⟩;rcases ab k hk with h | h
      ·exact H.o.2.2.1 k h
      ·exact Or.inr (Nat.le_trans K3.size h)
     clear K4 ab f aD aB cp i0 i1 i2 i3 h0;have G:Hid (∀X,Kp (fun _=>False) l X→Calls prog 63 #[.pointer (some ⟨t,0,none⟩),clV cl (.slice B cl.sigs.length D)] X fun e w'=>CkR W X (cR st2 cl) e w'):=fun X hX=>rm W hN X (am d.o.2.2.1.fe.bl hX) P t st2 (aR T) (d.o.2.2.1.kn.kp2 hX) (fun s i p h=>(d.o.2.2.1.ok.keys s i p h).1) cl HX.o.2.1 0 _ (an d.o.2.2.1.ce.row hX (by simp))
     obtain⟨n0,n1,n2,n3,n4⟩:=cX d.o.2.2.1.fe.nblk;obtain⟨cp,_⟩:=aj d.o.2.2.1.ce.pblk;obtain⟨i0,i1,i2,i3,_⟩:=ei d.o.2.2.1.ce.iblk;by_cases ho:(cR st2 cl).1=0
     ·have ag:dV rs now xs st cs 0=dV rs now xs st2 (cs.drop (i+1)) (n+kq):=by
       rw[H.o.2.2.2.2.2.1,HX.o.2.2.1,d.o.2.2.2];simp only[];rw[if_pos ho]
      have I:=ae ag;clear ag;go_wp2_with fail
      refine oS ?_ (fun Y=>Kp (fun _=>False) l Y) ?_ ?_;rotate_left
      ·go_region_law (refine aF rfl 63 _ _ rfl #[.pointer (some ⟨t,0,none⟩),.agg #[.string ⟨cl.server.toArray⟩,.int .i64 cl.ts,.string ⟨cl.msg.toArray⟩,.slice B cl.sigs.length D]] (by go_simp) ?_;refine (G.o _ ((Kp.refl _ l).drew)).mono ?_;rintro e w7 ⟨O,t2⟩;obtain rfl:=tZ ho t2)
       all_goals exact gL (C:=fun Y=>Kp (fun _=>False) l Y) (((Kp.refl _ l).drew).trans O)
      intro w7 K7;have S:=ae K7;clear K7 G n0 n1 n2 n3 n4 cp i0 i1 i2 i3 ho;go_wp2;go_roundg (ps.length - (i+1))
      case measure=>rw[H.o.1];omega
      case rel=>
       have f:=d.o.2.2.1.kp0 S.o;exact⟨i+1,(n+kq),st2,P,rfl,by omega,ak (by omega),ak (by omega),aw,d.o.1.trans (S.o.mono (fun _ _ h=>h.elim)),d.o.2.1,f.fe,f.kn,f.ok,I.o⟩
     ·have ad:res=((cR st2 cl,(n+kq)),st2):=by
       rw[L.o.1,H.o.2.2.2.2.2.1,HX.o.2.2.1,d.o.2.2.2];simp only[];rw[if_neg ho]
      have I:=ae ad;clear ad;go_wp2_with fail
      go_region_law (refine aF rfl 63 _ _ rfl #[.pointer (some ⟨t,0,none⟩),.agg #[.string ⟨cl.server.toArray⟩,.int .i64 cl.ts,.string ⟨cl.msg.toArray⟩,.slice B cl.sigs.length D]] (by go_simp) ?_;refine (G.o _ ((Kp.refl _ l).drew)).mono ?_;rintro e w7 ⟨O,t2⟩;obtain⟨q,a,rfl,t3,t4⟩:=t2.resolve_left (fun h=>ho h.1);have V:=ae (mJ W hN w7 (am d.o.2.2.1.fe.bl (((Kp.refl _ l).drew).trans O)) (cR st2 cl) q a t3 t4);have HT:=ae O;clear O t2 t3 t4)
      all_goals go_wp2_with fail
      all_goals
       refine V.o.mono ?_;rintro e w8 ⟨rfl,K8⟩;have J:Kp (fun _=>False) l w8:=((Kp.refl _ l).drew).trans (HT.o.trans K8);have I8:=J.heap (y.o.1.kp d.o.1 d.o.2.1).rblk;obtain⟨⟨b0,b1⟩,b2,b3⟩:=aH I8;have U:=ae (An J I8);clear K8 J I8 V;unfold eK
      all_goals go_wp2
      all_goals
       refine bodyPost_ret (iq _ rfl rfl (bO U.o.2)) rfl ?_;rw[I.o];exact⟨by simp[eK,Int.natCast_add],sI E.o.1 y.o.1 d.o.1 d.o.2.1 d.o.2.2.1.fe d.o.2.2.1.kn U.o.1 _ _⟩
   ·have aO:¬(i:Int) < (ps.length:Int):=by omega
    have hr:res=(((0,[]),n),c):=by
     rw[L.o.1,M,List.drop_of_length_le (by rw[←L.o.2.2.1,List.length_map];omega)];rfl
    have N:=ae (An hr (An Kr (An aa (An m (An al hv)))));have aJ:=ae (tx wr);clear hr au Kr aa m al av M hv;go_wp2_with fail
    refine aJ.o.mono ?_;rintro e w6 ⟨rfl,K6⟩;have I6:=K6.heap N.o.2.2.2.2.2.rblk;obtain⟨⟨b0,b1⟩,b2,b3⟩:=aH I6;have aG:=ae (An K6 I6);clear K6 I6 aJ;unfold eK;go_wp2;refine bodyPost_ret (iq _ rfl rfl (bO aG.o.2)) rfl ?_;rw[N.o.1];exact⟨rfl,sI E.o.1 y.o.1 N.o.2.1 N.o.2.2.1 N.o.2.2.2.1 N.o.2.2.2.2.1 aG.o.1 _ _⟩
theorem qo{w:World}{B n c:Nat}{a:Option Addr}{rs:List Rpl}(h:w.ownsRow B 160 4 (.slice a n c) n (rs.flatMap rpC))(hn:n=rs.length):RpI w rs a:=by
 subst hn;intro j r e;obtain⟨_,_,d,_,l⟩:=aY h;injection d with d _ _
 obtain⟨g,i,_⟩:=l (by have:=(List.getElem?_eq_some_iff.1 e).1;omega);have k:a=some ⟨g,0,none⟩:=d.trans i;subst k
 have o:∀m u,(rpC r)[m]? =some u→w.cell? ⟨g,j*4+m,none⟩=some u:=by
  intro m u b;have:m < 4:=(List.getElem?_eq_some_iff.1 b).1;exact ct (f:=rpC) (fun _=>rfl) h j r e m this u b
 exact⟨g,0,rfl,fun m u b=>by rw[Nat.zero_add];exact o m u b⟩
theorem qB(w:World)(rs:List Rpl)(a1 a2:Option Addr)(c1 c2:Nat)(h1:RpI w rs a1)(h2:RpI w rs a2)(hl:rs.length≤1100000000):
  Calls prog 88 #[.slice a1 rs.length c1,.slice a2 rs.length c2] w fun e w'=>e=.returned (.bool true)∧Kp (fun _=>False) w w':=by
 have j:=ae (An h1 h2);clear h1 h2;go_enter func88,ntmps88;go_wp2_with fail
 go_loopg [5] rs.length (fun gg a wr=>∃(i:Nat),gg=rs.length - i∧i≤rs.length∧a=.int .i64 (i:Int)∧Kp (fun _=>False) w wr)
 case atStart=>exact⟨0,rfl,by omega,rfl,Kp.refl _ _⟩
 case round=>
  obtain⟨i,b,l,rfl,c⟩:=hrel;by_cases f:i < rs.length
  ·have d:(i:Int) < (rs.length:Int):=by omega
   obtain⟨k,hk⟩:∃k,rs[i]? =some k:=⟨rs[i],List.getElem?_eq_getElem f⟩;obtain⟨m,p,rfl,r,s,t,u⟩:=(j.o.1.kps c (fun _ _ _ _ h=>h)).cells hk;obtain⟨n,q,rfl,v,x,y,z⟩:=(j.o.2.kps c (fun _ _ _ _ h=>h)).cells hk;have g:=ae (An b c);clear b hk c;go_wp2;go_quiet (fail)
   go_wp2;go_roundg (rs.length - (i+1))
   case measure=>rw[g.o.1];omega
   case rel=>exact⟨i+1,rfl,by omega,ak (by omega),g.o.2.drewN _⟩
  ·have d:¬(i:Int) < (rs.length:Int):=by omega
   clear b;go_wp2;go_ret;exact⟨rfl,c⟩
end
end Go.Proofs.YtocligpfmfmihaaGreatDoor
