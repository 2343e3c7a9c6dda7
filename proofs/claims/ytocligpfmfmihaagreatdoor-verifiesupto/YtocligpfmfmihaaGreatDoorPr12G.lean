import Derived.Test.YtocligpfmfmihaaGreatDoorPr6G
set_option maxHeartbeats 4000000
set_option maxRecDepth 20000
namespace Go.Proofs.YtocligpfmfmihaaGreatDoor
open Go.Proofs.Tryz
section
open Go Go.RowKit Go.Maps Go.WideMaps Go.Sort Go.Shelf
attribute [local go_sem] Oper.semAt_some
theorem iY{l:List (Bs×J)}(h:WF 6 (.obj l))(hl:(cJ (.obj l)).length≤600):WF 6 (.obj (di l))∧cnt (.obj (di l))≤1000000∧(cnt (.obj (di l))+1)*((aA l).length+2)≤139000000000000∧(aA l).length≤602:=by
 have b:=fS (.obj l);have c:=mS kSig l;have d:=mS fV (bo kSig l);have f:=pH kSig l;have t2:=pH fV (bo kSig l);have t3:=(ix l).2;have t4:=(ix (di l)).1
 have hcb:cnt (.obj (di l))≤600:=by
  simp only[cnt]at b ⊢;show bZ (bo fV (bo kSig l))≤600
  omega
 have a:(aA l).length≤602:=by
  show (cJ (.obj (di l))).length≤602
  have:tot (di l)≤tot l:=by show tot (bo fV (bo kSig l))≤tot l;omega
  omega
 have e:(cnt (.obj (di l))+1)*((aA l).length+2)≤601*604:=Nat.mul_le_mul (by omega) (by omega);exact⟨tK 5 fV _ (tK 5 kSig l h),by omega,by omega,a⟩
theorem p8(k s:Bs)(m:List (Bs×J)):bP k (ai s m)=ai k (aq s m):=by
 unfold aq
 cases ai s m with
 |none=>rfl
 |some j=>cases j <;> rfl
theorem CI(l:List (Bs×J))(s:Bs)(k:Ky):el l s k=(k.old || match dS (ai k.id (aq s (aq kSig l))) with | some t=>decide (t=(cQ ⟨k.key.toArray⟩ ⟨(aA l).toArray⟩).data.toList) | none=>false):=by
 unfold el
 have e:bP k.id (bP s (bP kSig (some (.obj l))))=ai k.id (aq s (aq kSig l)):=by
  show bP k.id (bP s (ai kSig l))=_
  rw[p8,p8]
 rw[e]
 cases ai k.id (aq s (aq kSig l)) with
 |none=>rfl
 |some j=>cases j <;> rfl
def CsR(W w:World)(b:Bool)(e:Ending)(w':World):Prop:=Kp (fun _=>False) w w'∧((b=true∧e=.returned .nilIface)∨(b=false∧∃ev,e=.returned ev∧Ech W w' ev))
theorem mr(W:World)(hN:NG2 W)(w:World)(hW:Below W.heap.size W w)(l:List (Bs×J))(b:Nat)(ho:Oz w l b)(hwf:WF 6 (.obj l))(hcl:(cJ (.obj l)).length≤600)(sn:Bs)(u:Int)(hsn:sn.length≤1000)(B:Nat)(v:Value)(ks:List Ky)(row:w.ownsRow B 35 4 v ks.length (ks.flatMap kyC))(hkl:∀k ∈ ks,k.id.length≤1000∧k.key.length≤1000):
  Calls prog 79 #[.map (some b),.agg #[.string ⟨sn.toArray⟩,.int .i64 u,v]] w fun e w'=>CsR W w (ks.all (el l sn)) e w':=by
 obtain⟨ea,R,X⟩:=hN.sml 7 (by simp);obtain⟨f1,f2,f3,f4⟩:=iY hwf hcl;obtain⟨va,vc,rfl,Z⟩:=aJ row;have K0:Kp (fun _=>False) w (w.alloc (.cells #[.string ⟨sn.toArray⟩,.int .i64 u,.slice va ks.length vc] 30)):=(Kp.refl _ _).alloc _;have I0:=heap_alloc_new w (.cells #[.string ⟨sn.toArray⟩,.int .i64 u,.slice va ks.length vc] 30);have E:=ae (jr W hN.ng _ (am hW K0) _ l b (ho.up K0) (fun _ h=>h) f1 f2 f3);clear f1 f2 f3;go_enter func79,ntmps79;go_wp2_with fail
 generalize (w.alloc (.cells #[.string ⟨sn.toArray⟩,.int .i64 u,.slice va ks.length vc] 30))=w0 at *;refine E.o.mono ?_;rintro e w1 ⟨rfl,x⟩;have K1:=K0.trans x;have I1:=x.heap I0;clear x I0;obtain⟨d0,d1,d2,N,O,P,Q⟩:=ba I1;have HC:=ae (ho.up K1);have HS:=ae hsn;clear E hsn;go_wp2_with fail
 go_region_law (first
   | (refine aF rfl 75 _ _ rfl #[.map (some b),.string ⟨#[115,105,103,110,97,116,117,114,101,115]⟩] (by go_simp) ?_;refine (gw _ l b kSig (by decide) (HC.o.up (Kp.refl _ w1).drew)).mono ?_;rintro e w2 ⟨b1,rfl,H,o1⟩;have K2:=ae (((Kp.refl (fun _=>False) w1).drew).trans H);have I2:=K2.o.heap I1;have O1:=ae o1;clear o1 H;obtain⟨d0,d1,d2,N,O,P,Q⟩:=ba I2)
   | (refine aF rfl 75 _ _ rfl #[.map (some b1),.string ⟨sn.toArray⟩] (by go_simp) ?_;refine (gw _ (aq kSig l) b1 sn (by have:=HS.o;omega) O1.o).mono ?_;rintro e w3 ⟨b2,rfl,I,o2⟩;have K3:=ae I;have I3:=K3.o.heap I2;have O2:=ae o2;clear o2 I))
 all_goals
  obtain⟨d0,d1,d2,N,O,P,Q⟩:=ba I3;have G:=(K1.trans K2.o).trans K3.o
  have T:∀i,i < ks.length→∃g,va=some ⟨g,0,none⟩:=fun i hi=>by
   obtain⟨g,hg,_⟩:=Z (by omega);exact⟨g,hg⟩
  have aj:=iM row;have HV:=ae (An T (An row hkl));have HO:=ae (An O2.o G);clear T row hkl Z K1 K2 K3 O1 O2 G HC;go_wp2_with fail
  go_loopg [21] ks.length (fun gg a wr=>∃(i:Nat),gg=ks.length - i∧i≤ks.length∧a=.int .i64 (i:Int)∧Kp (fun _=>False) w3 wr∧∀(j:Nat) (k:Ky),j < i→ks[j]? =some k→el l sn k=true)
  case atStart=>exact⟨0,rfl,by omega,rfl,Kp.refl _ _,fun _ _ h=>absurd h (by omega)⟩
  case round=>
   obtain⟨i,S,ag,rfl,L,p⟩:=hrel;have HG:=ae (An S p);clear S p;by_cases U:i < ks.length
   ·have V:decide ((i:Int) < (ks.length:Int))=true:=by simp;omega
    obtain⟨k,A⟩:∃k,ks[i]? =some k:=⟨ks[i],List.getElem?_eq_getElem U⟩;obtain⟨g,rfl⟩:=HV.o.1 i U;have Kw:=HO.o.2.trans L;obtain⟨c0,c1,c2,c3⟩:=eC (an HV.o.2.1 Kw (by simp)) i k A;have ah:=HV.o.2.2 k (List.mem_of_getElem? A);have f:Kp (fun _=>False) wr (wr.alloc (.cells #[.string ⟨k.id.toArray⟩,.string ⟨k.key.toArray⟩,.bool k.old,.int .i64 k.till] 35)):=(Kp.refl _ _).alloc _;have F:=heap_alloc_new wr (.cells #[.string ⟨k.id.toArray⟩,.string ⟨k.key.toArray⟩,.bool k.old,.int .i64 k.till] 35);have d:=CI l sn k
    have next:el l sn k=true→∀(j:Nat) (q:Ky),j < i+1→ks[j]? =some q→el l sn q=true:=by
     intro ad j q hj Y;rcases Nat.lt_or_ge j i with h | h
     ·exact HG.o.2 j q h Y
     ·have:j=i:=by omega
      subst this;rw[A]at Y;injection Y with Y
      subst Y;exact ad
    have M:el l sn k=false→ks.all (el l sn)=false:=by
     intro ac;rw[List.all_eq_false];exact⟨k,List.mem_of_getElem? A,by rw[ac];decide⟩
    have y:=ae (An next (An M d));have r:=ae (An Kw (An L f));clear next M A d Kw L;have n:=ae (gJ W hN _ (am hW (r.o.1.trans f)) (aq sn (aq kSig l)) b2 k.id (by omega) (HO.o.1.up (r.o.2.1.trans f)))
    cases hko:k.old with
    |true=>
     rw[hko]at c2 f;have HN:=ae (y.o.1 (by rw[y.o.2.2,hko];rfl));have m:=ae (r.o.2.1.trans f);clear hko f F n;go_wp2;go_roundg (ks.length - (i+1))
     case measure=>rw[HG.o.1];omega
     case rel=>exact⟨i+1,rfl,by omega,ak (by omega),m.o,HN.o⟩
    |false=>
     rw[hko]at c2 f F n;have m:=ae (An (r.o.1.trans f) (An (r.o.2.1.trans f) hko));clear hko f;go_wp2_with fail
     generalize (wr.alloc (.cells #[.string ⟨k.id.toArray⟩,.string ⟨k.key.toArray⟩,.bool false,.int .i64 k.till] 35))=wa at *;refine n.o.mono ?_;rintro e w5 ⟨K,C⟩;obtain⟨e0,e1,e2,e3,_,_,_,_,ab⟩:=ey (K.heap F);have z:=Below.cl (am hW (m.o.1.trans K)) R;unfold ax at z;have H5:=ae K;have aa:=ae (K.heap F);clear K n F
     cases hst:dS (ai k.id (aq sn (aq kSig l))) with
     |none=>
      rw[hst]at C;obtain⟨ev,rfl,he⟩:=C;obtain⟨tt,uu,rfl⟩:=he.iface;have HB:=ae (y.o.2.1 (by rw[y.o.2.2,m.o.2.2,hst];rfl));clear he hst;go_wp2;go_ret;exact⟨(m.o.1.trans H5.o).alloc _,Or.inr ⟨HB.o,_,rfl,.mem _ _ _ (heap_alloc_new w5 _) (Ech.base ea X)⟩⟩
     |some t=>
      rw[hst]at C;replace C:e=.returned (.tuple #[.string ⟨t.toArray⟩,.nilIface]):=C;subst C;obtain⟨tl,htl⟩:∃tl:Bs,cQ ⟨k.key.toArray⟩ ⟨(aA l).toArray⟩=⟨tl.toArray⟩:=⟨_,rfl⟩;have c:=nC ⟨k.key.toArray⟩ ⟨(aA l).toArray⟩ w5 (by rw[aN];omega) (by rw[aN];omega);rw[htl]at c
      have d:el l sn k=decide (t=tl):=by
       rw[y.o.2.2,m.o.2.2,hst,htl];simp
      have s:=ae (An c d);clear c d htl hst;go_wp2_with fail
      refine s.o.1.mono ?_;rintro e w6 ⟨rfl,B6⟩;have K6:=Kp.of_below B6;have H6:=ae (H5.o.trans K6);have z:=Below.cl (am hW (m.o.1.trans H6.o)) R;unfold ax at z;obtain⟨e0,e1,e2,e3,_,_,_,_,ab⟩:=ey (K6.heap (by exact aa.o));clear B6 K6;by_cases D:t=tl
      ·have af:(t == tl)=true:=by simpa using D
       have HN:=ae (y.o.1 (by rw[s.o.2];simpa using D));clear D;go_wp2;go_roundg (ks.length - (i+1))
       case measure=>rw[HG.o.1];omega
       case rel=>exact⟨i+1,rfl,by omega,ak (by omega),m.o.2.1.trans H6.o,HN.o⟩
      ·have af:(t == tl)=false:=by simpa using D
       have HB:=ae (y.o.2.1 (by rw[s.o.2];simpa using D));clear D;go_wp2;go_ret;exact⟨(m.o.1.trans H6.o).alloc _,Or.inr ⟨HB.o,_,rfl,.mem _ _ _ (heap_alloc_new w6 _) (Ech.base ea X)⟩⟩
   ·have V:decide ((i:Int) < (ks.length:Int))=false:=by simp;omega
    have HE:Hid (ks.all (el l sn)=true):=by
     show _=_
     rw[List.all_eq_true];intro k A;obtain⟨j,hj,he⟩:=List.mem_iff_getElem.1 A;exact HG.o.2 j k (by omega) (by rw[List.getElem?_eq_getElem hj,he])
    have r:=ae (HO.o.2.trans L);clear L;go_wp2;go_ret;exact⟨r.o,Or.inl ⟨HE.o,rfl⟩⟩
theorem Chn.three{w:World}{a:Addr}{ks:List (Lk×ByteArray)}{ev x y z p q r:Value}{k:Nat}(h:Chn w a ks ev)(hk:w.heap[k]? =some (.cells #[x,y,z] 30)):Chn (((w.setCell ⟨k,0,none⟩ p).setCell ⟨k,1,none⟩ q).setCell ⟨k,2,none⟩ r) a ks ev:=by
 refine h.up ?_;intro j c t b e
 have:j≠k:=by
  rintro rfl;rw[hk]at b;injection b with b
  injection b with _ d _
  subst d;revert e
  decide
 rw[af (by exact this),af (by exact this),af (by exact this)];exact b
theorem Enr.three{W w:World}{ev x y z p q r:Value}{n k:Nat}(h:Enr W w ev n)(hk:w.heap[k]? =some (.cells #[x,y,z] 30)):Enr W (((w.setCell ⟨k,0,none⟩ p).setCell ⟨k,1,none⟩ q).setCell ⟨k,2,none⟩ r) ev n:=by
 rcases h with h | ⟨a,j,d,b⟩
 ·refine Or.inl ?_
  rcases h with h | ⟨d,e,b,k',g,f,c,i⟩ | h
  ·exact Or.inl h
  ·refine Or.inr (Or.inl ⟨d,e,b,k',g,f, ?_,i⟩)
   have:e≠k:=by
    rintro rfl;rw[hk]at c;injection c with c
    injection c with _ b _
    revert b
    decide
   rw[af (by exact this),af (by exact this),af (by exact this)];exact c
  ·exact Or.inr (Or.inr h)
 ·exact Or.inr ⟨a,j,d.three hk,b⟩
theorem EV.up{W w w':World}{ev:Value}{n:Nat}(h:EV W w ev n)(hk:Kp (fun _=>False) w w'):EV W w' ev n:=by
 rcases h with h | ⟨c,b,d,k',g,a,e,f⟩ | h
 ·exact Or.inl h
 ·exact Or.inr (Or.inl ⟨c,b,d,k',g,a,hk.heap e,f⟩)
 ·exact Or.inr (Or.inr h)
theorem Enr.up{W w w':World}{ev:Value}{n:Nat}(h:Enr W w ev n)(hk:Kp (fun _=>False) w w'):Enr W w' ev n:=by
 rcases h with h | h
 ·exact Or.inl (h.up hk)
 ·exact Or.inr (h.up hk)
def RdD(W w:World)(o:Except Nat (Bs×Int×List Ky))(e:Ending)(w':World):Prop:=Kp (fun _=>False) w w'∧match o with
 |.error n=>∃ev,e=.returned (.tuple #[.agg #[.string ⟨#[]⟩,.int .i64 0,.slice none 0 0],ev])∧Enr W w' ev n∧∃t u,ev=.iface t u
 |.ok (s,u,ks)=>∃v,e=.returned (.tuple #[.agg #[.string ⟨s.toArray⟩,.int .i64 u,v],.nilIface])∧w'.ownsRow w.heap.size 35 4 v ks.length (ks.flatMap kyC)
theorem gH{w:World}{rb:Nat}{a b c d:Value}(tmps:Array Value)(h2:tmps[2]?.getD undef=.pointer (some ⟨rb,0,none⟩))(h3:tmps[3]?.getD undef=d)(hb:w.heap[rb]? =some (.cells #[a,b,c] 30)):
  (results Tryz.f47 tmps).run prog w=.ok (.tuple #[.agg #[a,b,c],d]) w:=by
 obtain⟨e,f,g,_⟩:=ba hb;simp[results,results47,go_sem,h2,h3,e,f,g]
theorem xO{W w w6:World}{o:Except Nat (Bs×Int×List Ky)}{n:Nat}{x y z:Value}{t:TypeId}{u:Value}(h:Kp (fun _=>False) w w6)(hq:w6.heap[w.heap.size]? =some (.cells #[x,y,z] 30))(he:Enr W w6 (.iface t u) n)(ho:o=.error n):
  RdD W w o (.returned (.tuple #[.agg #[.string ⟨#[]⟩,.int .i64 0,.slice none 0 0],.iface t u])) (((w6.setCell ⟨w.heap.size,0,none⟩ (.string ⟨#[]⟩)).setCell ⟨w.heap.size,1,none⟩ (.int .i64 0)).setCell ⟨w.heap.size,2,none⟩ (.slice none 0 0)):=by
 subst ho;exact⟨kp3 h,_,rfl,he.three hq,_,_,rfl⟩
theorem Cp{W w w6:World}{B:Nat}{o:Except Nat (Bs×Int×List Ky)}{s:Bs}{u:Int}{ks:List Ky}{v:Value}(h:Kp (fun _=>False) w w6)(hB:w.heap.size < B)(row:w6.ownsRow B 35 4 v ks.length (ks.flatMap kyC))(ho:o=.ok (s,u,ks)):
  RdD W w o (.returned (.tuple #[.agg #[.string ⟨s.toArray⟩,.int .i64 u,v],.nilIface])) (((w6.setCell ⟨w.heap.size,0,none⟩ (.string ⟨s.toArray⟩)).setCell ⟨w.heap.size,1,none⟩ (.int .i64 u)).setCell ⟨w.heap.size,2,none⟩ v):=by
 subst ho;refine⟨kp3 h,_,rfl,cr (Nat.le_of_lt hB) (ap row ?_)⟩;intro k b;have:=(dh row b).1;have a:k≠w.heap.size:=by omega
 rw[af (by exact a),af (by exact a),af (by exact a)]
theorem Co{W w w6:World}{o:Except Nat (Bs×Int×List Ky)}{x y z:Value}{D:Obj}{t:TypeId}{u:Value}(h:Kp (fun _=>False) w w6)(hq:w6.heap[w.heap.size]? =some (.cells #[x,y,z] 30))(he:Ech W w6 (.iface t u))(ho:o=.error 4):
  RdD W w o (.returned (.tuple #[.agg #[.string ⟨#[]⟩,.int .i64 0,.slice none 0 0],.iface 117 (.pointer (some ⟨w6.heap.size+1,0,none⟩))])) (((((w6.setCell ⟨w.heap.size,0,none⟩ (.string ⟨#[]⟩)).setCell ⟨w.heap.size,1,none⟩ (.int .i64 0)).setCell ⟨w.heap.size,2,none⟩ (.slice none 0 0)).alloc D).alloc (.cells #[.iface t u] 146)):=by
 subst ho;have e:=Df (a:=.string ⟨#[]⟩) (b:=.int .i64 0) (c:=.slice none 0 0) he hq (by decide);have d:(((w6.setCell ⟨w.heap.size,0,none⟩ (.string ⟨#[]⟩)).setCell ⟨w.heap.size,1,none⟩ (.int .i64 0)).setCell ⟨w.heap.size,2,none⟩ (.slice none 0 0)).heap.size=w6.heap.size:=by simp
 refine⟨((kp3 h).alloc _).alloc _,_,rfl,Or.inr (Ech.docu (e.up (((Kp.refl _ _).alloc _).alloc _)) ?_),_,_,rfl⟩;have:=heap_alloc_new ((((w6.setCell ⟨w.heap.size,0,none⟩ (.string ⟨#[]⟩)).setCell ⟨w.heap.size,1,none⟩ (.int .i64 0)).setCell ⟨w.heap.size,2,none⟩ (.slice none 0 0)).alloc D) (.cells #[.iface t u] 146);rw[World.size_alloc,d]at this;exact this
theorem mV{k:Bs}{l:List (Bs×J)}(hwf:WF 6 (.obj l))(hcl:(cJ (.obj l)).length≤600):∀m,dt (ai k l)=some m→Srt m∧m.length≤1000∧∀p ∈ m,p.1.length≤1000:=by
 intro m a
 have b:ai k l=some (.obj m):=by
  cases h:ai k l with
  |none=>rw[h]at a;cases a
  |some j=>
   rw[h]at a
   cases j with
   |obj m'=>injection a with a;subst a;rfl
   |_=>cases a
 have n:=eQ b
 have e:WF 5 (.obj m):=by
  have c:=hwf;simp only[WF,jD]at c;exact (c.2 _ (fQ b)).2
 have g:Srt m:=by
  simp only[WF]at e;exact e.1
 have f:=fS (.obj m);have i:=(eq m).1;simp only[cnt]at f;refine⟨g,by omega, ?_⟩;intro p hp;have d:=pl hp;have c:=jU p.1;unfold aD at d;rw[List.length_append]at d;omega
theorem qQ{l:List (Bs×J)}{s:Bs}{u:Int}{ks:List Ky}(h:cw l=some (s,u,ks)):s.length≤20∧(∀k ∈ ks,k.id.length≤20)∧(ks.map (·.id)).Nodup:=by
 rw[oZ]at h;simp only[Option.bind_eq_some_iff,Option.map_eq_some_iff,Prod.mk.injEq]at h;obtain⟨B,d,C,A,a,f,b,c,q,i,rfl,rfl,rfl⟩:=h;refine⟨?_, ?_⟩
 ·unfold bs at d
  simp only[Option.bind_eq_some_iff]at d;obtain⟨t,_,d⟩:=d;split at d
  ·rename_i hn
   injection d with d
   subst d;simp[cd]at hn;exact hn.2
  ·cases d
 ·have j:∀k ∈ a,cd k.id=true:=by
   unfold inF at f;simp only[Option.bind_eq_some_iff]at f;obtain⟨m,_,f⟩:=f;split at f
   ·exact fun k g=>((de f).2 k g).2
   ·cases f
  have n:∀k ∈ b,cd k.id=true:=by
   rw[mh]at c;split at c
   ·injection c with c
    subst c;intro k g;cases g
   ·simp only[Option.bind_eq_some_iff]at c
    obtain⟨m,_,c⟩:=c;exact fun k g=>((de c).2 k g).2
  unfold bJ at i;split at i
  ·rename_i hn
   injection i with i
   subst i;refine⟨?_, ?_⟩
   ·intro k g
    obtain⟨p,hp,rfl⟩:=List.mem_map.1 g;obtain⟨o,r,rfl⟩:=List.mem_map.1 (jN hp)
    have:cd o.id=true:=by
     rcases List.mem_append.1 r with h | h
     ·exact j o h
     ·exact n o h
    simp[cd]at this;exact this.2
   ·have w:=fR ((a ++b).map fun k=>(k.id,k))
    have v:∀p ∈ ofL ((a ++b).map fun k=>(k.id,k)),p.2.id=p.1:=by
     intro p hp;obtain⟨o,_,rfl⟩:=List.mem_map.1 (jN hp);rfl
    rw[List.map_map];have z:(ofL ((a ++b).map fun k=>(k.id,k))).map ((fun k=>k.id) ∘ fun p=>p.2)=(ofL ((a ++b).map fun k=>(k.id,k))).map (·.1):=List.map_congr_left (fun p hp=>v p hp);rw[z];unfold List.Nodup;rw[List.pairwise_map];exact w.imp fun {x y} h e=>by rw[e]at h;exact dz _ h
  ·cases i
theorem jQ(W:World)(hN:NG2 W)(s:ByteArray)(w:World)(hW:Below W.heap.size W w):
  Calls prog 47 #[.string s] w fun e w'=>RdD W w (aZ s.data.toList) e w':=by
 have X:Kp (fun _=>False) w (w.alloc (.cells #[.string ⟨#[]⟩,.int .i64 0,.slice none 0 0] 30)):=(Kp.refl _ _).alloc _;have Q:=heap_alloc_new w (.cells #[.string ⟨#[]⟩,.int .i64 0,.slice none 0 0] 30);have U:=ae (iT W hN.ng s _ (am hW X));have ad:(w.alloc (.cells #[.string ⟨#[]⟩,.int .i64 0,.slice none 0 0] 30)).heap.size=w.heap.size+1:=by simp
 go_enter func47,ntmps47;go_wp2_with fail
 generalize (w.alloc (.cells #[.string ⟨#[]⟩,.int .i64 0,.slice none 0 0] 30))=w0 at *;refine U.o.mono ?_;rintro e w1 ⟨r,⟨l,b,c,rfl,hr⟩ | ⟨n,ev,c,rfl,g,tt,u,rfl⟩⟩
 ·have h:=ae (X.trans r)
  have B:=r.heap Q;have af:=r.size;have oz:Oz w1 l b:=Rep.mono (fun j hj=>hj.2) _ hr;obtain⟨hp,hl⟩:=eX c;obtain⟨m,N⟩:=eD hp;have i:(cJ (.obj l)).length≤600:=Nat.le_trans N hl;have a:aZ s.data.toList=fI l:=by unfold aZ;rw[c]
  have G:=ae (qR W hN w1 (am hW h.o) l b oz (mV m i) (mV m i));have A:=ae (An a (An oz (An m i)));clear U c hr oz hp hl m N i a r Q;go_wp2_with fail
  refine G.o.mono ?_;rintro e w2 ⟨I,S⟩;have q:=ae (h.o.trans I);have H:=I.heap B;have ag:=I.size;have aa:=A.o.2.1.up I;clear G I B;obtain⟨r0,r1,r2,x,y,z,t⟩:=ba H
  cases hdf:cw l with
  |none=>
   rw[hdf]at S;obtain⟨ev,rfl,g⟩:=S;obtain⟨tt,u,rfl⟩:=g.iface;have p:=ae (show aZ s.data.toList=.error 4 by rw[A.o.1];unfold fI;rw[hdf]);have f:=ae g;clear g hdf;go_wp2;exact bodyPost_ret (gH _ rfl rfl (by rw[Below.heap_alloc _ _ _ (by simp only[World.size_alloc,World.size_setCell];omega),Below.heap_alloc _ _ _ (by simp only[World.size_setCell];omega)];exact cM H)) rfl (Co q.o H f.o p.o)
  |some d=>
   obtain⟨sn,P,O⟩:=d;rw[hdf]at S;obtain⟨v,rfl,row⟩:=S;obtain⟨Z,L,Y⟩:=qQ hdf;have M:=mT hdf;have ab:=A.o.2.2.2;obtain⟨va,vc,rfl,_⟩:=aJ row;have C:Kp (fun _=>False) w2 (w2.alloc (.cells #[.string ⟨sn.toArray⟩,.int .i64 P,.slice va O.length vc] 30)):=(Kp.refl _ _).alloc _;have D:=ae (mr W hN _ (am hW (q.o.trans C)) l b (aa.up C) A.o.2.2.1 A.o.2.2.2 sn P (by omega) _ _ O (row.alloc _) (fun k hk=>⟨by have:=L k hk;omega,by have:=M k hk;omega⟩));have HR:=ae row;have a:=A.o.1;unfold fI at a;rw[hdf]at a;have F:=ae a;clear row hdf Z L Y M a;go_wp2_with fail
   have Id:=heap_alloc_new w2 (.cells #[.string ⟨sn.toArray⟩,.int .i64 P,.slice va O.length vc] 30);generalize (w2.alloc (.cells #[.string ⟨sn.toArray⟩,.int .i64 P,.slice va O.length vc] 30))=wd at *;refine D.o.mono ?_;rintro e w3 ⟨J,h3⟩;have E:=ae (q.o.trans (C.trans J));have R:=(C.trans J).heap H;have V:=J.heap Id;have T:=ae (an HR.o (C.trans J) (by simp));clear D J C Id r0 r1 r2 x y z t H;obtain⟨r0,r1,r2,x,y,z,t⟩:=ba R;obtain⟨q0,q1,q2,ah,ai,aj,ac⟩:=ba V;rcases h3 with⟨K,rfl⟩ | ⟨K,ev,rfl,g⟩
   ·have p:=ae (show aZ s.data.toList=.ok (sn,P,O) by rw[F.o,if_pos K])
    clear K;go_wp2;exact bodyPost_ret (gH _ rfl rfl (cM R)) rfl (Cp E.o (by omega) T.o p.o)
   ·obtain⟨tt,u,rfl⟩:=g.iface
    have p:=ae (show aZ s.data.toList=.error 5 by rw[F.o,if_neg (by rw[K];decide)]);have f:=ae g;clear K g;go_wp2;exact bodyPost_ret (gH _ rfl rfl (cM R)) rfl (xO E.o R (Or.inr f.o.sig) p.o)
 ·have h:=ae (X.trans r)
  have B:=r.heap Q;obtain⟨r0,r1,r2,x,y,z,t⟩:=ba B;have p:=ae (show aZ s.data.toList=.error n by unfold aZ;rw[c]);have f:=ae g;clear g c U r Q;go_wp2;exact bodyPost_ret (gH _ rfl rfl (cM B)) rfl (xO h.o B (Or.inl f.o) p.o)
end
section
open Go Go.RowKit Go.Maps Go.WideMaps Go.MuLone
attribute [local go_sem] Oper.semAt_some
def me(nm id ky:Bs)(so:Value)(kb:Nat):Obj:=.cells #[.string ⟨nm.toArray⟩,.string ⟨id.toArray⟩,.string ⟨ky.toArray⟩,so,.pointer (some ⟨kb,0,none⟩)] 100
theorem cX{w:World}{b kb:Nat}{nm id ky:Bs}{so:Value}(h:w.heap[b]? =some (me nm id ky so kb)):w.cell? ⟨b,0,none⟩=some (.string ⟨nm.toArray⟩)∧w.cell? ⟨b,1,none⟩=some (.string ⟨id.toArray⟩)∧w.cell? ⟨b,2,none⟩=some (.string ⟨ky.toArray⟩)∧w.cell? ⟨b,3,none⟩=some so∧w.cell? ⟨b,4,none⟩=some (.pointer (some ⟨kb,0,none⟩)):=by
 unfold me at h;refine⟨?_, ?_, ?_, ?_, ?_⟩ <;> simp[World.cell?,h]
structure PNs(w:World)(F Fk:Nat→Prop)(nb kb:Nat)(nm id ky:Bs)(so:Value)(srcs:List Bs)(st:Ldg)(c:Nat):Prop where
 nblk:w.heap[nb]? =some (me nm id ky so kb)
 kn:KN w Fk kb st c
 rso:w.ownsRow 0 9 1 so srcs.length (srcs.map fun s=>.string ⟨s.toArray⟩)
 fn:F nb
 fso:∀k,so.ownBlock=some k→F k∧¬Fk k
 fk:∀k,Fk k→F k
 nf:¬Fk nb
 lt:∀k,F k→k < w.heap.size
def PN(w:World)(F:Nat→Prop)(nb:Nat)(nm id ky:Bs)(srcs:List Bs)(st:Ldg)(c:Nat):Prop:=∃Fk kb so,PNs w F Fk nb kb nm id ky so srcs st c
theorem PNs.frame{w w':World}{F Fk:Nat→Prop}{nb kb:Nat}{nm id ky:Bs}{so:Value}{srcs:List Bs}{st:Ldg}{c:Nat}(h:PNs w F Fk nb kb nm id ky so srcs st c)(hs:w.heap.size≤w'.heap.size)(hk:∀k,F k→w'.heap[k]? =w.heap[k]?):PNs w' F Fk nb kb nm id ky so srcs st c:=
 ⟨(hk nb h.fn).trans h.nblk,h.kn.frame (fun k hf=>hk k (h.fk k hf)),ap h.rso (fun k e=>hk k (h.fso k e).1),h.fn,h.fso,h.fk,h.nf,fun k hf=>Nat.lt_of_lt_of_le (h.lt k hf) hs⟩
theorem PN.frame{w w':World}{F:Nat→Prop}{nb:Nat}{nm id ky:Bs}{srcs:List Bs}{st:Ldg}{c:Nat}(h:PN w F nb nm id ky srcs st c)(hs:w.heap.size≤w'.heap.size)(hk:∀k,F k→w'.heap[k]? =w.heap[k]?):PN w' F nb nm id ky srcs st c:=by
 obtain⟨a,b,d,h⟩:=h;exact⟨a,b,d,h.frame hs hk⟩
theorem PNs.kp{w w':World}{F Fk:Nat→Prop}{nb kb:Nat}{nm id ky:Bs}{so:Value}{srcs:List Bs}{st:Ldg}{c:Nat}(h:PNs w F Fk nb kb nm id ky so srcs st c)(hk:Kp (fun _=>False) w w'):PNs w' F Fk nb kb nm id ky so srcs st c:=
 h.frame hk.size (fun k hf=>hk.block k (h.lt k hf) (by simp))
theorem PNs.mono{w:World}{F Fk:Nat→Prop}{nb kb:Nat}{nm id ky:Bs}{so:Value}{srcs:List Bs}{st:Ldg}{c c':Nat}(h:PNs w F Fk nb kb nm id ky so srcs st c)(hc:c≤c'):PNs w F Fk nb kb nm id ky so srcs st c':=⟨h.nblk,h.kn.mono hc,h.rso,h.fn,h.fso,h.fk,h.nf,h.lt⟩
theorem PNs.after{w w':World}{F Fk Fk':Nat→Prop}{d kb:Nat}{nm id ky:Bs}{so:Value}{srcs:List Bs}{st st':Ldg}{c c':Nat}(h:PNs w F Fk d kb nm id ky so srcs st c)(K:Kp Fk w w')(g:∀k,Fk' k→Fk k∨w.heap.size≤k)(h2:∀k,Fk' k→k < w'.heap.size)(hk:KN w' Fk' kb st' c'):PNs w' (fun k=>F k∨Fk' k) Fk' d kb nm id ky so srcs st' c':=by
 have f:=h.lt d h.fn;refine⟨(K.block d f h.nf).trans h.nblk,hk,ap h.rso (fun k e=>K.block k (h.rso.lt k e).2 (h.fso k e).2),Or.inl h.fn, ?_,fun k a=>Or.inr a, ?_, ?_⟩
 ·intro k e
  refine⟨Or.inl (h.fso k e).1,fun a=> ?_⟩;rcases g k a with b | b
  ·exact (h.fso k e).2 b
  ·have:=(h.rso.lt k e).2
   omega
 ·intro a
  rcases g d a with b | b
  ·exact h.nf b
  ·omega
 ·rintro k (a | a)
  ·exact Nat.lt_of_lt_of_le (h.lt k a) K.size
  ·exact h2 k a
theorem pQ(w:World):Calls prog 35 #[.nilIface] w fun e w'=>e=.returned (.int .i64 0)∧Kp (fun _=>False) w w':=by
 have a:=ae (eo w);unfold w3 at a;go_enter func35,ntmps35;go_wp2;go_ret;exact⟨rfl,a.o⟩
theorem xc{a b ks:List Ky}(h:bJ a b=some ks):ks.length=a.length+b.length:=by
 unfold bJ at h;split at h
 ·rename_i hn
  injection h with h
  subst h;rw[rF _ hn,List.length_append]
 ·cases h
theorem wH{l:List (Bs×J)}(hwf:WF 6 (.obj l))(hcl:(cJ (.obj l)).length≤600){s:Bs}{u:Int}{ks:List Ky}(h:cw l=some (s,u,ks)):ks.length≤1100:=by
 rw[oZ]at h;simp only[Option.bind_eq_some_iff,Option.map_eq_some_iff,Prod.mk.injEq]at h;obtain⟨r,o,t,p,a,d,b,c,q,f,rfl,rfl,rfl⟩:=h;rw[xc f]
 have g:a.length≤4:=by
  unfold inF at d;simp only[Option.bind_eq_some_iff]at d;obtain⟨m,_,d⟩:=d;split at d
  ·rename_i e
   have:=congrArg List.length (de d).1;simp only[List.length_map]at this;omega
  ·cases d
 have i:b.length≤1000:=by
  rw[mh]at c
  cases ho:ai gY l with
  |none=>
   rw[ho]at c;injection c with c
   subst c;exact Nat.zero_le _
  |some j=>
   rw[ho]at c;replace c:(dt (some j)).bind (aI true 0)=some b:=c;simp only[Option.bind_eq_some_iff]at c;obtain⟨m,e,c⟩:=c;have n:=(mV (k:=gY) hwf hcl m (by rw[ho];exact e)).2.1;have:=congrArg List.length (de c).1;simp only[List.length_map]at this;omega
 omega
theorem iR{t:Bs}{sn:Bs}{u:Int}{ks:List Ky}(h:aZ t=.ok (sn,u,ks)):sn.length≤20∧(∀k ∈ ks,k.id.length≤20∧k.key.length≤600)∧(ks.map (·.id)).Nodup∧ks.length≤1100∧t.length≤600:=by
 unfold aZ at h
 cases ho:aM t with
 |error n=>rw[ho]at h;cases h
 |ok l=>
  rw[ho]at h;replace h:fI l=.ok (sn,u,ks):=h;obtain⟨hp,i⟩:=eX ho;obtain⟨f,j⟩:=eD hp;unfold fI at h
  cases hd:cw l with
  |none=>rw[hd]at h;cases h
  |some d=>
   obtain⟨g,m,b⟩:=d;rw[hd]at h;replace h:(if b.all (el l g) then Except.ok (g,m,b) else .error 5)=.ok (sn,u,ks):=h;split at h
   ·injection h with h
    injection h with c a
    injection a with a e
    subst c a e;obtain⟨c,a,e⟩:=qQ hd;exact⟨c,fun k hk=>⟨a k hk,by have:=mT hd k hk;omega⟩,e,wH f (by omega) hd,i⟩
   ·cases h
def PnR(w:World)(F:Nat→Prop)(nb:Nat)(nm id ky:Bs)(srcs:List Bs)(st:Ldg)(c:Nat)(w':World):Prop:=∃F':Nat→Prop,Kp F w w'∧(∀k,F' k→F k∨w.heap.size≤k)∧PN w' F' nb nm id ky srcs st c
theorem Aj{W w wd w3:World}{F Fk:Nat→Prop}{nb kb:Nat}{nm id ky:Bs}{so:Value}{srcs:List Bs}{st:Ldg}{c:Nat}(hW:Below W.heap.size W w)(K:Kp (fun _=>False) w wd)(h:PNs wd.drew F Fk nb kb nm id ky so srcs st c)(hF:∀k,F k→W.heap.size≤k)(K3:Kp Fk wd.drew w3):Below W.heap.size W w3:=by
 have a:=am hW K.drew;exact⟨K3.os.trans a.os,K3.tape.trans a.tape,K3.output.trans a.output,Nat.le_trans a.size K3.size,fun k hk=>(K3.block k (Nat.lt_of_lt_of_le hk a.size) (fun hf=>by have:=hF k (h.fk k hf);omega)).trans (a.block k hk)⟩
theorem xJ{w wd X w3 w4:World}{F Fk Fk':Nat→Prop}{nb kb:Nat}{nm id ky:Bs}{so:Value}{srcs:List Bs}{st st':Ldg}{c c':Nat}(K:Kp (fun _=>False) w wd)(h:PNs X F Fk nb kb nm id ky so srcs st c)(KX:Kp (fun _=>False) wd X)(K3:Kp Fk X w3)(e:∀k,Fk' k→Fk k∨X.heap.size≤k)(h2:∀k,Fk' k→k < w3.heap.size)(hk:KN w3 Fk' kb st' c')(K4:Kp (fun _=>False) w3 w4):PnR w F nb nm id ky srcs st' c' w4:=by
 have hp:=(h.after K3 e h2 hk).kp K4;have d:=K.trans KX;refine⟨fun k=>F k∨Fk' k, ?_, ?_,_,_,_,hp⟩
 ·exact (d.mono (fun _ _ h=>h.elim)).trans ((K3.mono (fun k _ a=>h.fk k a)).trans (K4.mono (fun _ _ h=>h.elim)))
 ·rintro k (a | a)
  ·exact Or.inl a
  ·rcases e k a with b | b
   ·exact Or.inl (h.fk k b)
   ·exact Or.inr (Nat.le_trans d.size b)
theorem BP(W:World)(hN:NG3 W)(w:World)(hW:Below W.heap.size W w)(F:Nat→Prop)(hFl:∀k,F k→W.heap.size≤k)(nb:Nat)(nm id ky:Bs)(srcs:List Bs)(st:Ldg)(c:Nat)(hP:PN w F nb nm id ky srcs st c)(text:Bs)(now:Int)(hnow : -9223372036854775808≤now)(hc:c≤800000000):
  Calls prog 29 #[.pointer (some ⟨nb,0,none⟩),.string ⟨text.toArray⟩,.int .i64 now] w fun e w'=>e=.returned (.int .i64 ((bi st text now).1:Int))∧PnR w F nb nm id ky srcs (bi st text now).2 (c+1200) w':=by
 obtain⟨K,C,so,hp⟩:=hP;have I:=ae (jQ W hN.n2 ⟨text.toArray⟩ w hW);have N:(⟨text.toArray⟩:ByteArray).data.toList=text:=by simp
 rw[N]at I;clear N;have L:=ae hp;clear hp;go_enter func29,ntmps29;go_wp2_with fail
 refine I.o.mono ?_;rintro e w1 ⟨J,G⟩;have f:=ae J;have s:=L.o.kp J;clear I J
 cases hr:aZ text with
 |error n=>
  rw[hr]at G;obtain⟨S,rfl,B,P,u,rfl⟩:=G;have i:Kp (fun _=>False) w1 (w1.alloc (.cells #[.string ⟨#[]⟩,.int .i64 0,.slice none 0 0] 30)):=(Kp.refl _ _).alloc _;have Q:=ae (jF W hN.n2 _ (am hW (f.o.trans i)) _ n (B.up i));have j:bi st text now=(n,st):=by unfold bi;rw[hr]
  have y:=ae j;clear B hr j s;go_wp2_with fail
  generalize (w1.alloc (.cells #[.string ⟨#[]⟩,.int .i64 0,.slice none 0 0] 30))=wd at *;refine Q.o.mono ?_;rintro e w2 ⟨rfl,M⟩;have z:=ae (f.o.trans (i.trans M));clear M i;go_wp2;go_ret;rw[y.o];exact⟨rfl,F,z.o.mono (fun _ _ h=>h.elim),fun _ h=>Or.inl h,_,_,_,(L.o.kp z.o).mono (by omega)⟩
 |ok d=>
  obtain⟨sn,p,b⟩:=d;rw[hr]at G;obtain⟨v,rfl,row⟩:=G;obtain⟨U,O,V,q4,Y⟩:=iR hr;obtain⟨t,x,rfl,_⟩:=aJ row;have i:Kp (fun _=>False) w1 (w1.alloc (.cells #[.string ⟨sn.toArray⟩,.int .i64 p,.slice t b.length x] 30)):=(Kp.refl _ _).alloc _;have R:=heap_alloc_new w1 (.cells #[.string ⟨sn.toArray⟩,.int .i64 p,.slice t b.length x] 30);have a:=s.kp i
  have m:Hid (∀X,Kp (fun _=>False) (w1.alloc (.cells #[.string ⟨sn.toArray⟩,.int .i64 p,.slice t b.length x] 30)) X→Calls prog 56 #[.pointer (some ⟨C,0,none⟩),.agg #[.string ⟨sn.toArray⟩,.int .i64 p,.slice t b.length x],.string ⟨text.toArray⟩,.int .i64 now] X fun e w'=>TiR W X K C (bR st sn b text now) (c+b.length+1) e w'):=fun X hX=>
   sD W hN X (am hW (f.o.trans (i.trans hX))) K (fun k hf=>⟨hFl k (a.fk k hf),(a.kp hX).lt k (a.fk k hf)⟩) C st c (a.kp hX).kn sn p text now hnow _ _ b (an row (i.trans hX) (by simp)) (by omega) (fun k hk=>by have:=(O k hk).1;omega) (by omega)
  have j:bi st text now=bR st sn b text now:=by unfold bi;rw[hr]
  have y:=ae j;clear hr j row U O V Y s;obtain⟨n0,n1,n2,n3,n4⟩:=cX a.nblk;have r:=ae a;clear a;go_wp2_with fail
  generalize (w1.alloc (.cells #[.string ⟨sn.toArray⟩,.int .i64 p,.slice t b.length x] 30))=wd at *;obtain⟨x0,x1,x2,aa,ab,ac,T⟩:=ba R
  cases hcf:iZ st sn b with
  |true=>
   have l:bR st sn b text now=(6,st):=by unfold bR;rw[if_pos hcf]
   rw[l]at m y;clear l hcf
   go_region_law (first
     | (refine aF rfl 56 _ _ rfl #[.pointer (some ⟨C,0,none⟩),.agg #[.string ⟨sn.toArray⟩,.int .i64 p,.slice t b.length x],.string ⟨text.toArray⟩,.int .i64 now] (by go_simp) ?_;refine (m.o _ ((Kp.refl _ wd).drew)).mono ?_;rintro e w3 ⟨H,D,t2,t3,t4,t5,E⟩;obtain⟨_,S,rfl,B,P,Z,rfl⟩:=E.resolve_left (by rintro⟨h,_⟩;cases h);have g:=ae (An D (An t2 (An t3 (An t5 B))));clear D t2 t3 t4 t5 E B)
     | (refine aF rfl 35 _ _ rfl #[.iface P Z] (by go_simp) ?_;refine (jF W hN.n2 w3 (Aj hW (f.o.trans i) (r.o.kp (Kp.refl _ wd).drew) hFl g.o.1) _ 6 (Or.inr g.o.2.2.2.2)).mono ?_;rintro e w4 ⟨rfl,A⟩;have q:=ae A;clear A))
   all_goals go_wp2
   all_goals go_ret
   all_goals
    rw[y.o];exact⟨rfl,xJ (f.o.trans i) (r.o.kp (Kp.refl _ wd).drew) ((Kp.refl _ wd).drew) g.o.1 g.o.2.1 g.o.2.2.1 (g.o.2.2.2.1.mono (by omega)) q.o⟩
  |false=>
   have l:bR st sn b text now=(0,fC (b.foldl (bp sn now) st) sn text):=by unfold bR;rw[if_neg (by rw[hcf];decide)]
   rw[l]at m y;clear l hcf
   go_region_law (first
     | (refine aF rfl 56 _ _ rfl #[.pointer (some ⟨C,0,none⟩),.agg #[.string ⟨sn.toArray⟩,.int .i64 p,.slice t b.length x],.string ⟨text.toArray⟩,.int .i64 now] (by go_simp) ?_;refine (m.o _ ((Kp.refl _ wd).drew)).mono ?_;rintro e w3 ⟨H,D,t2,t3,t4,t5,E⟩;obtain⟨_,rfl⟩:=E.resolve_right (by rintro⟨h,_⟩;cases h);have g:=ae (An D (An t2 (An t3 t5)));clear D t2 t3 t4 t5 E)
     | (refine aF rfl 35 _ _ rfl #[.nilIface] (by go_simp) ?_;refine (pQ w3).mono ?_;rintro e w4 ⟨rfl,A⟩;have q:=ae A;clear A))
   all_goals go_wp2
   all_goals go_ret
   all_goals
    rw[y.o];exact⟨rfl,xJ (f.o.trans i) (r.o.kp (Kp.refl _ wd).drew) ((Kp.refl _ wd).drew) g.o.1 g.o.2.1 g.o.2.2.1 (g.o.2.2.2.mono (by omega)) q.o⟩
end
end Go.Proofs.YtocligpfmfmihaaGreatDoor
