import Derived.Test.YtocligpfmfmihaaGreatDoorPr11G
set_option maxHeartbeats 8000000
set_option maxRecDepth 20000
namespace Go.Proofs.YtocligpfmfmihaaGreatDoor
open Go.Proofs.Tryz
section
open Go Go.RowKit Go.Maps Go.WideMaps Go.Sort Go.Shelf
attribute [local go_sem] Oper.semAt_some
theorem x8{X:World}{q:Nat}{v:Value}{o:Obj}(h:q < X.heap.size):(X.setCell ⟨q,0,none⟩ v).alloc o=(X.alloc o).setCell ⟨q,0,none⟩ v:=by
 unfold World.setCell World.alloc;congr 1
 apply Array.ext_getElem?;intro j;simp only[Array.getElem?_push,Array.getElem?_modify,Array.size_modify];by_cases a:j=X.heap.size
 ·subst a
  have:q≠X.heap.size:=by omega
  simp[this]
 ·simp[a]
theorem ro{W w X Y:World}{q z:Nat}{old:Bool}{till:Int}{m:List (Bs×J)}{n:Nat}{pre:List (Fin n)}{ev x y:Value}(hXY:Kp (fun _=>False) X Y)(hwY:Kp (fun _=>False) w Y)(hq:X.heap[q]? =some (.cells #[x] 28))(hz:X.heap[z]? =some (.cells #[y] 61))(hqz:q≠z)(hwq:w.heap.size≤q)(hwz:w.heap.size≤z)(he:Ech W Y ev)(hn:aI old till m=none):
  KeepsOthers X ((Y.setCell ⟨q,0,none⟩ (.slice none 0 0)).setCell ⟨z,0,none⟩ ev).drew∧KIx W w q z old till m n .ret pre ((Y.setCell ⟨q,0,none⟩ (.slice none 0 0)).setCell ⟨z,0,none⟩ ev).drew:=
 pj (Y:=Y.drew) hXY.drew hwY.drew hq hz hqz hwq hwz (he.up (Kp.refl _ _).drew) hn
theorem BO{W w X:World}{o:Obj}{q z:Nat}{old:Bool}{till:Int}{m:List (Bs×J)}{n:Nat}{pre:List (Fin n)}{ev x y:Value}(hXY:Kp (fun _=>False) X (X.alloc o))(hwY:Kp (fun _=>False) w (X.alloc o))(hq:X.heap[q]? =some (.cells #[x] 28))(hz:X.heap[z]? =some (.cells #[y] 61))(hqz:q≠z)(hwq:w.heap.size≤q)(hwz:w.heap.size≤z)(he:Ech W (X.alloc o) ev)(hn:aI old till m=none):
  KeepsOthers X (((X.setCell ⟨q,0,none⟩ (.slice none 0 0)).alloc o).setCell ⟨z,0,none⟩ ev).drew∧KIx W w q z old till m n .ret pre (((X.setCell ⟨q,0,none⟩ (.slice none 0 0)).alloc o).setCell ⟨z,0,none⟩ ev).drew:=by
 rw[x8 (ag hq)];exact ro hXY hwY hq hz hqz hwq hwz he hn
theorem dh{w:World}{B:Nat}{v:Value}{n:Nat}{xs:List Value}(h:w.ownsRow B 35 4 v n xs){k:Nat}(a:v.ownBlock=some k):B≤k∧∃c,w.heap[k]? =some (.cells c 35):=by
 rcases h.2 with⟨rfl,_⟩ | ⟨g,d,b,rfl,e,f,_⟩
 ·cases a
 ·injection a with a
  subst a;exact⟨e,b,f⟩
theorem zq{X0 X1 X5 X6:World}{kb:Nat}{old:Bool}{till:Int}{m:List (Bs×J)}{n:Nat}{pre:List (Fin n)}{x:Fin n}{vv v':Value}{ks:List Ky}{kk:Ky}
  (K0:Kp (· =kb) X0 X1) (h15:Kp (fun _=>False) X1 X5) (row:X1.ownsRow X0.heap.size 35 4 vv ks.length (ks.flatMap kyC)) (hk1:X1.heap[kb]? =some (.cells #[vv] 28)) (hkb:kb < X0.heap.size)
  (y1:X6.ownsRow X0.heap.size 35 4 v' (ks.length+1) (ks.flatMap kyC ++kyC kk)) (y2:X5.grownBy X6 vv.ownBlock) (hF:aI old till ((pre ++[x]).map fun i=>cD m i.val)=some (ks ++[kk])) :
  KeepsOthers X1 (X6.setCell ⟨kb,0,none⟩ v')∧KpT X0.heap.size kb X1 (X6.setCell ⟨kb,0,none⟩ v')∧KIv X0 kb old till m n (pre ++[x]) (X6.setCell ⟨kb,0,none⟩ v'):=by
 have b:Kp (fun k=>k=kb∨vv.ownBlock=some k) X1 (X6.setCell ⟨kb,0,none⟩ v'):=
  Kp.setCell (S:=fun k=>k=kb∨vv.ownBlock=some k) (p:=⟨kb,0,none⟩) ((h15.mono (fun _ _ h=>h.elim)).grown y2 (fun k e _=>Or.inr e)) (fun _=>Or.inl rfl) _
 have q:X6.heap[kb]? =some (.cells #[vv] 28):=by
  rw[y2.block kb (Nat.lt_of_lt_of_le (ag hk1) h15.size) ?_]
  ·exact h15.heap hk1
  ·intro e
   have:=(dh row e.symm).1;omega
 refine⟨m9 b ?_,⟨b.size, ?_, ?_⟩,v',ks ++[kk],d8 q _, ?_,hF, ?_⟩
 ·rintro k (rfl | e)
  ·exact⟨_,_,_,hk1⟩
  ·obtain⟨_,c,d⟩:=dh row e
   exact⟨_,_,_,d⟩
 ·intro k c t fz a l o
  refine b.block k (ag a) ?_;rintro (e | e)
  ·exact o e
  ·obtain⟨_,f,d⟩:=dh row e
   rw[d]at a;injection a with a
   injection a with _ a _
   exact l a.symm
 ·intro k s cl u a
  refine b.block k (ag a) ?_;rintro (rfl | e)
  ·rw[hk1]at a;injection a with a;cases a
  ·obtain⟨_,f,d⟩:=dh row e
   rw[d]at a;injection a with a;cases a
 ·have g:List.flatMap kyC (ks ++[kk])=ks.flatMap kyC ++kyC kk:=by simp
  rw[g,List.length_append];refine ap y1 ?_;intro j r;have:=(dh y1 r).1;rw[af (by exact (show j≠kb by omega))]
 ·refine K0.and b ?_
  rintro k hk (e | e)
  ·exact e
  ·have:=(dh row e).1
   omega
theorem mE(W:World)(hN:NG2 W)(w:World)(hW:Below W.heap.size W w)(l:List (Bs×J))(b:Nat)(k:Bs)(hk:k.length≤139000000000000)(ho:Oz w l b)
  (fn:Nat) (cap:Array Value) (P:World→Prop) (old:Bool) (till:Int) (hone:yq W fn cap P old till) (hent:∀args w,(callFunc fn args).run prog w=.ok (.enter fn args) w) (hPs:∀w w',P w→Kp (fun _=>False) w w'→P w') (hP:P w)
  (hch:∀m,dt (ai k l)=some m→Srt m∧m.length≤1000∧∀p ∈ m,p.1.length≤1000) :
  Calls prog 175 #[.map (some b),.string ⟨k.toArray⟩,.func (.func fn) #[] cap] w fun e w'=>KuR W w ((dt (ai k l)).bind (aI old till)) e w':=by
 obtain⟨en,aE,bb⟩:=hN.sml 13 (by simp);refine (callsIn_wide (n:=8)).1 ?_;refine callsIn_of_wp_marks func175 rfl trivial ?_ rfl;simp only[ntmps175,List.size_toArray,List.length_cons,List.length_nil,Nat.reduceAdd,Nat.reduceSub,Array.replicate_succ,Array.replicate_zero,List.push_toArray,List.append_toArray,List.nil_append,List.cons_append];have bz:Fence.wide.fn 170:=trivial;have bA:Fence.wide.fn 217:=trivial;have K0:Kp (fun _=>False) w ((((w.alloc (.cells #[.string ⟨k.toArray⟩] 9)).alloc (.cells #[.func (.func fn) #[] cap] 312)).alloc (.cells #[.slice none 0 0] 28)).alloc (.cells #[.nilIface] 61)):=((((Kp.refl _ w).alloc _).alloc _).alloc _).alloc _;obtain⟨n0,f0,q0,z0⟩:=yX w (.cells #[.string ⟨k.toArray⟩] 9) (.cells #[.func (.func fn) #[] cap] 312) (.cells #[.slice none 0 0] 28) (.cells #[.nilIface] 61);have M:=ae (kT W hN _ (am hW K0) l b k hk (ho.up K0));gi_wp2_with fail
 generalize ((((w.alloc (.cells #[.string ⟨k.toArray⟩] 9)).alloc (.cells #[.func (.func fn) #[] cap] 312)).alloc (.cells #[.slice none 0 0] 28)).alloc (.cells #[.nilIface] 61))=w0 at *;refine (callsIn_wide.2 M.o).mono ?_;rintro e w1 ⟨K1,h1⟩;have az:=ae (K0.trans K1);have n1:=K1.heap n0;have f1:=K1.heap f0;have q1:=K1.heap q0;have z1:=K1.heap z0;have aS:=ag z1;clear M K1 n0 f0 q0 z0 K0
 cases hof:dt (ai k l) with
 |none=>
  rw[hof]at h1;obtain⟨ev,rfl,T⟩:=h1;obtain⟨tt,u,rfl⟩:=T.iface;have Ka:Kp (fun _=>False) w1 (w1.alloc (.cells #[.map none] 71)):=(Kp.refl _ _).alloc _;have q2:=Ka.heap q1;have z2:=Ka.heap z1;obtain⟨G,bp⟩:=aj q2;obtain⟨H,bq⟩:=aj z2;have HZ:=ae (An hof (An (T.up Ka) (az.o.trans Ka)));clear hof T hch;gi_wp2_with fail
  obtain⟨s1,s2⟩:=pF (a:=.slice none 0 0) (b:=.iface tt u) q2 z2 (by omega);refine⟨_,kr _ rfl rfl s1 s2, ?_⟩;rw[HZ.o.1];exact⟨pE HZ.o.2.2 (by omega) (by omega),_,rfl,De HZ.o.2.1 q2 z2 (by decide) (by decide)⟩
 |some m=>
  rw[hof]at h1;obtain⟨lb,rfl,aK⟩:=h1;obtain⟨aQ,bB,aH⟩:=hch m hof;gi_wp2_with (gi_at_call 170;refine (callsIn_wide.2 (lJ _ _)).mono ?_;rintro e w' ⟨rfl,rfl⟩)
  have KX:Kp (fun _=>False) w1 (((w1.alloc (.cells #[.map (some lb)] 71)).alloc (.cells #[.slice none 0 0] 28)).alloc (.cells #[.map (some lb)] 71)):=(((Kp.refl _ _).alloc _).alloc _).alloc _;obtain⟨x1,x2,x3⟩:=lU w1 (.cells #[.map (some lb)] 71) (.cells #[.slice none 0 0] 28) (.cells #[.map (some lb)] 71);have ac:(((w1.alloc (.cells #[.map (some lb)] 71)).alloc (.cells #[.slice none 0 0] 28)).alloc (.cells #[.map (some lb)] 71)).heap.size=w1.heap.size+3:=by simp
  generalize (((w1.alloc (.cells #[.map (some lb)] 71)).alloc (.cells #[.slice none 0 0] 28)).alloc (.cells #[.map (some lb)] 71))=X0 at *;have nX:=KX.heap n1;have fX:=KX.heap f1;have qX:=KX.heap q1;have zX:=KX.heap z1;have a7:=aK.up KX;have O:=az.o.trans KX;obtain⟨b',d,e',bt,U,s⟩:=a7.shape;cases e'
  have ar:=Repm.len s;have bc:Srt d:=iV (Repm.keys m d s) aQ
  have a6:∀p ∈ d,p.1.length≤139000000000000:=by
   intro p hp;obtain⟨j,v,rfl⟩:=List.getElem_of_mem hp;obtain⟨q,r1,r2,r3,r4⟩:=Repm.get m d j v s;rw[r3];have:=aH q r2;omega
  have a0:∀p ∈ d,∃t u,p.2=.iface t u:=by
   intro p hp;obtain⟨j,v,rfl⟩:=List.getElem_of_mem hp;obtain⟨q,r1,r2,r3,r4⟩:=Repm.get m d j v s;exact Rep.iface r4
  have aZ:=U.lt;clear n1 f1 q1 z1;have aY:KIv X0 (w1.heap.size+1) old till m d.length [] X0:=⟨_,[],x2,⟨by simp,Or.inl ⟨rfl,rfl⟩⟩,rfl,Kp.refl _ _⟩
  refine wpIn_rangeFunc_ownF (α:=Fin d.length) rfl (by decide) (gf:=213) (lb:= #[.pointer (some ⟨w1.heap.size+1+1,0,none⟩)]) rfl trivial (enters_of func213 (by kernel_rfl) rfl)
   (encs:=gV d) (Kp:=KpT X0.heap.size (w1.heap.size+1)) (S:=fun xs=>xs=List.finRange d.length) (Sp:=fun _=>True) (N:=d.length) (w0:=X0)
   (fun lr J Jx W1 hbl hJ _ hY h0=>zv 7 (by decide) lr (w1.heap.size+1+1) lb X0.heap.size (w1.heap.size+1) d bc (by omega) a6 a0 J Jx W1 hJ hY ((hbl.block _ (by omega)).trans x3) (by omega) (by have:=hbl.size;omega) (ay U (hbl.block _ (by omega))) aZ h0)
   KpT.t (KpT.b (Nat.le_refl _)) (Below.refl _ _) (fun _=>rfl)
   (KIv X0 (w1.heap.size+1) old till m d.length) (KIx W w (w.heap.size+1+1) (w.heap.size+1+1+1) old till m d.length) KIv.own (fun c=>KIx.own c O.size) aY
   (fun x=>{ tmps:= #[Value.map (some b),Value.string ⟨k.toArray⟩,Value.func (Fn.func fn) #[] cap,undef,Value.pointer (some ⟨w.heap.size,0,none⟩),Value.pointer (some ⟨w.heap.size+1,0,none⟩),Value.pointer (some ⟨w.heap.size+1+1,0,none⟩),Value.pointer (some ⟨w.heap.size+1+1+1,0,none⟩),Value.pointer (some ⟨w1.heap.size,0,none⟩),Value.nilIface,Value.pointer (some ⟨w1.heap.size+1,0,none⟩),.string ⟨d[x].1.toArray⟩,undef,undef,undef,Value.tuple #[Value.map (some lb),Value.nilIface],Value.map (some b),Value.string ⟨k.toArray⟩,Value.tuple #[Value.map (some lb),Value.nilIface],Value.map (some lb),Value.nilIface,Value.nilIface,Value.bool false,undef,Value.map (some lb),Value.func (Fn.func 213) #[] #[Value.pointer (some ⟨w1.heap.size+1+1,0,none⟩)],.string ⟨d[x].1.toArray⟩,d[x].2,undef,undef,undef,undef,undef,undef,undef,undef,undef,undef,undef,undef,undef,undef,undef,undef,undef,undef,undef,undef,undef,undef,undef,undef,undef,undef,undef,undef,undef,undef,undef,undef,undef,undef,undef,undef],defers:=[] }) ?assign ?body ?done ?stop
  case assign=>
   intro l x W K hK;simp only[gV];gi_wp2
   exact hK
  case body=>
   rintro lr pre x X ⟨vv,L,i1,i2,i3,i4⟩ bj;have a8:=Repm.get m d x.val x.2 s;obtain⟨p,aN,aO,aP,ba⟩:=a8;have aF:d[x].1=p.1:=aP;generalize d[x].2=xv;generalize d[x].1=xk at aF ⊢;subst aF;clear aP ba;have ak:cD m x.val=p:=by unfold cD;rw[aN];rfl
   have aL:=lG m aQ x.val p aN;have aG:=zl old till p.1 p.2
   have aR:aI old till ((pre ++[x]).map fun i=>cD m i.val)=(some L).bind fun r=>(dB old till p.1 p.2).map fun k=>r ++[k]:=by
    rw[List.map_append,List.map_cons,List.map_nil,ak,←i3];exact ij old till _ p.1 p.2
   have aM:dB old till p.1 p.2=none→aI old till m=none:=ow aO;have a5:p.1.length≤139000000000000:=by have:=aH p aO;omega
   have B:Kp (fun _=>False) w X:=O.and i4 (by intro i hi e;omega);have eN:∀j o,j≠w1.heap.size+1→X0.heap[j]? =some o→X.heap[j]? =some o:=fun j o v h=>(i4.block j (ag h) v).trans h
   have nY:=eN _ _ (by omega) nX;have fY:=eN _ _ (by omega) fX;have qY:=eN _ _ (by omega) qX;have zY:=eN _ _ (by omega) zX;have lY:=eN _ _ (by omega) x1;obtain⟨cn,_⟩:=aj nY;obtain⟨cf,_⟩:=aj fY;obtain⟨cq,gq⟩:=aj qY;obtain⟨cz,gz⟩:=aj zY;obtain⟨cl,_⟩:=aj lY;have bh:Oz X m lb:=Rep.mono (fun j v=>by have:=i4.size;have:=KX.size;omega) _ (Rep.frame (w:=w1) (fun j v=>(i4.block j (by have:=KX.size;omega) (by omega)).trans (KX.block j v (by simp))) _ aK);have hc:=Below.cl (am hW B) aE;have HE:Hid (Ech W X (ax en)):=Ech.base en bb;unfold ax at hc HE;have HS:=ae (An aR (An aM (An aG aL)));have HR:=ae (An i2 (An i4 (An B bh)));have A:=ae (An qY zY)
   have ah:L.length=pre.length:=by
    have:=congrArg List.length (de i3).1;simpa using this
   clear aR aM aG aL i3 ak;gi_wp2_with fail
   refine⟨trivial, ?_⟩;refine (CallsIn.inRound lr (callsIn_wide.2 (m6 p.1 X))).mono ?_;rintro e X1 ⟨rfl,rfl⟩
   cases hnm:cd p.1 with
   |false=>
    have E:=ae (HS.o.2.1 (by rw[HS.o.2.2.1,hnm];rfl));clear hnm;have KB:Kp (fun _=>False) X1 (X1.alloc (.cells #[.string ⟨k.toArray⟩,.iface 415 (.pointer (some en))] 252)):=(Kp.refl _ _).alloc _;have au:w.heap.size+1+1≠w.heap.size+1+1+1:=by omega
    obtain⟨G,Q⟩:=aj (KB.heap A.o.1);obtain⟨H,R⟩:=aj (KB.heap A.o.2)
    have bg:((X1.setCell ⟨w.heap.size+1+1,0,none⟩ (.slice none 0 0)).alloc (.cells #[.string ⟨k.toArray⟩,.iface 415 (.pointer (some en))] 252)).heap[w.heap.size+1+1+1]? =some (.cells #[.nilIface] 61):=by
     rw[Below.heap_alloc _ _ _ (by rw[World.size_setCell];exact ag A.o.2),af (by exact au.symm)];exact A.o.2
    obtain⟨aW,aX⟩:=aj bg
    have bw:(X1.setCell ⟨w.heap.size+1+1,0,none⟩ (.slice none 0 0)).cell? ⟨13,0,none⟩=some (.iface 415 (.pointer (some en))):=by
     have bu:13 < W.heap.size:=bk aE;have bv:=hW.size;simp only[World.cell?]at hc ⊢;rw[af (by exact (show 13≠w.heap.size+1+1 by omega))];exact hc
    have bx:(X1.setCell ⟨w.heap.size+1+1,0,none⟩ (.slice none 0 0)).cell? ⟨w.heap.size,0,none⟩=some (.string ⟨k.toArray⟩):=by
     simp only[World.cell?]at cn ⊢;rw[af (by exact (show w.heap.size≠w.heap.size+1+1 by omega))];exact cn
    gi_wp2
    gi_region
    all_goals gi_wp2
    all_goals first
     |exact ro KB (HR.o.2.2.1.trans KB) A.o.1 A.o.2 au (by omega) (by omega) (.mem _ _ _ (heap_alloc_new X1 _) (HE.o.up KB)) E.o
     |exact BO KB (HR.o.2.2.1.trans KB) A.o.1 A.o.2 au (by omega) (by omega) (.mem _ _ _ (heap_alloc_new X1 _) (HE.o.up KB)) E.o
   |true=>
    have aC:=ae hnm;clear hnm;have M:=ae (kT W hN X1 (am hW HR.o.2.2.1) m lb p.1 a5 HR.o.2.2.2);gi_wp2_with fail
    refine (CallsIn.inRound lr (callsIn_wide.2 M.o)).mono ?_;rintro e X2 ⟨K2,h2⟩;rw[HS.o.2.2.2]at h2;have nZ:=K2.heap nY;have fZ:=K2.heap fY;have aa:=ae (An (K2.heap A.o.1) (K2.heap A.o.2));have kZ:=K2.heap i1;obtain⟨aV,_⟩:=aj nZ;obtain⟨aU,_⟩:=aj fZ;obtain⟨G,Q⟩:=aj aa.o.1;obtain⟨H,R⟩:=aj aa.o.2;obtain⟨F,I⟩:=aj kZ;clear M cn cf cq gq cz gz cl hc HE;have y:=ae (HR.o.2.2.1.trans K2);have aA:=ae K2;clear K2 nY fY qY zY
    cases hob:dt (some p.2) with
    |none=>
     rw[hob]at h2;obtain⟨ev,rfl,T⟩:=h2;obtain⟨tt,u,rfl⟩:=T.iface;have E:=ae (HS.o.2.1 (by rw[HS.o.2.2.1,hob];simp));have ao:=ae T;clear T hob;gi_wp2
     exact pj aA.o y.o A.o.1 A.o.2 (by omega) (by omega) (by omega) ao.o E.o
    |some mm=>
     rw[hob]at h2;obtain⟨mb,rfl,a9⟩:=h2;have HC:=ae (hone X2 mm mb p.1 (am hW y.o) (hPs _ _ hP y.o) a9);gi_wp2_with fail
     refine⟨trivial, ?_⟩;refine (CallsIn.inRound lr (callsIn_wide.2 HC.o)).mono ?_;rintro e X3 ⟨K3,h3⟩;have ab:=ae (An (K3.heap aa.o.1) (K3.heap aa.o.2));have av:=K3.heap kZ;clear HC F I G Q H R aV aU nZ fZ kZ;obtain⟨G,Q⟩:=aj ab.o.1;obtain⟨H,R⟩:=aj ab.o.2;obtain⟨F,I⟩:=aj av;have aB:=ae (y.o.trans K3);have Z:=ae (aA.o.trans K3);clear K3
     cases hon:lM old till p.1 mm with
     |none=>
      rw[hon]at h3;obtain⟨a1,a2,a3,a4,ev,rfl,T⟩:=h3;obtain⟨tt,u,rfl⟩:=T.iface;have E:=ae (HS.o.2.1 (by rw[HS.o.2.2.1,aC.o,hob];simpa using hon));have ao:=ae T;clear T hob hon G Q H R F I;have f:Kp (fun _=>False) X3 ((X3.alloc (.cells #[.string a1,.string a2,.bool a3,.int .i64 a4] 35)).alloc (.cells #[.string ⟨p.1.toArray⟩,.iface tt u] 252)):=((Kp.refl _ _).alloc _).alloc _;obtain⟨bn,bs⟩:=aj (f.heap ab.o.1);obtain⟨aW,aX⟩:=aj (f.heap ab.o.2);gi_wp2
      exact pj (Z.o.trans f) (aB.o.trans f) A.o.1 A.o.2 (by omega) (by omega) (by omega) (.mem _ _ _ (by have h:=heap_alloc_new (X3.alloc (.cells #[.string a1,.string a2,.bool a3,.int .i64 a4] 35)) (.cells #[.string ⟨p.1.toArray⟩,.iface tt u] 252);rw[World.size_alloc]at h;exact h) (ao.o.up f)) E.o
     |some kk=>
      rw[hon]at h3;replace h3:e=.returned (.tuple #[.agg #[.string ⟨kk.id.toArray⟩,.string ⟨kk.key.toArray⟩,.bool kk.old,.int .i64 kk.till],.nilIface]):=h3;subst h3;have aT:=ae (show dB old till p.1 p.2=some kk by rw[HS.o.2.2.1,aC.o,hob];simpa using hon);clear hob hon F I G Q H R;have C:=HR.o.1;have V:X3.ownsRow X0.heap.size 35 4 vv L.length (L.flatMap kyC):=ap C (fun j v=>Z.o.block j (C.lt j v).2 (by simp));have f:Kp (fun _=>False) X3 (X3.alloc (.cells #[.string ⟨kk.id.toArray⟩,.string ⟨kk.key.toArray⟩,.bool kk.old,.int .i64 kk.till] 35)):=(Kp.refl _ _).alloc _;have aq:Kp (fun _=>False) X3 ((X3.alloc (.cells #[.string ⟨kk.id.toArray⟩,.string ⟨kk.key.toArray⟩,.bool kk.old,.int .i64 kk.till] 35)).alloc (.cells #[.string ⟨kk.id.toArray⟩,.string ⟨kk.key.toArray⟩,.bool kk.old,.int .i64 kk.till] 35)):=f.alloc _;have an:=(V.alloc (.cells #[.string ⟨kk.id.toArray⟩,.string ⟨kk.key.toArray⟩,.bool kk.old,.int .i64 kk.till] 35)).alloc (.cells #[.string ⟨kk.id.toArray⟩,.string ⟨kk.key.toArray⟩,.bool kk.old,.int .i64 kk.till] 35);obtain⟨F,I⟩:=aj (f.heap av);obtain⟨i0,hi,be,aS,bf⟩:=info_parts jH;have bF:=Z.o.size;have bE:=HR.o.2.1.size;have bl:pre.length < 100000:=by omega
      gi_wp2_with (gi_at_builtin;(refine wpListIn_append_own_at _ rfl _ _ 28 rfl X0.heap.size 35 i0 (.agg #[.string ⟨#[]⟩,.string ⟨#[]⟩,.bool false,.int .i64 0]) 4 48 underlying28 hi be aS bf rfl (by decide) _ _ _ rfl an ⟨X3.heap.size+1,0,none⟩ 1 1 (kyC kk) rfl rfl ?c1 (by intro u hu;simp[kyC]at hu;rcases hu with rfl | rfl | rfl | rfl <;> rfl) (by unfold maxLen;omega) (by omega) (by simp;omega) ?_))
      case c1=>
       intro j u v;rcases j with _ | _ | _ | _ | j
       all_goals simp[kyC]at v
       all_goals subst v
       all_goals simp[Addr.add]
      intro v' X6 y1 y2 _ _;rw[←ac,←ah]at y1;obtain⟨bH,bI,rfl,_⟩:=aJ y1
      have k6:X6.heap[w1.heap.size+1]? =some (.cells #[vv] 28):=by
       have h9:=aq.heap av;rw[y2.block _ (ag h9) ?_]
       ·exact h9
       ·intro e
        have:=(dh V e.symm).1;omega
      obtain⟨bm,br⟩:=aj k6;have aw:=ae (zq (m:=m) (old:=old) (till:=till) (pre:=pre) (x:=x) HR.o.2.1 (Z.o.trans aq) C i1 (by omega) y1 y2 (by rw[HS.o.1,aT.o];rfl));clear y1 y2 F I an V C f aq;gi_wp2
      have ad:=aw.o;rw[ac,ah]at ad;exact ad
  case done=>
   rintro D ys X hD rfl ⟨vv,L,i1,i2,i3,i4⟩ hK;rw[qd m d.length ar]at i3;have B:Kp (fun _=>False) w X:=O.and i4 (by intro i hi e;omega);have qY:=(i4.block _ (ag qX) (by omega)).trans qX;have zY:=(i4.block _ (ag zX) (by omega)).trans zX;obtain⟨ck,_⟩:=aj i1;obtain⟨cq,gq⟩:=aj qY;obtain⟨cz,gz⟩:=aj zY;obtain⟨va,vc,rfl,_⟩:=aJ i2;have HZ:=ae (An hof i3);clear hof i3;gi_wp2_with fail
   obtain⟨s1,s2⟩:=pF (a:=.slice va L.length vc) (b:=.nilIface) qY zY (by omega);have bD:=ag qX;have bG:=ag zX
   have aD:((X.setCell ⟨w.heap.size+1+1,0,none⟩ (.slice va L.length vc)).setCell ⟨w.heap.size+1+1+1,0,none⟩ .nilIface).heap[D]? =some (.deferred (some [])):=by
    rw[af (by exact (show D≠w.heap.size+1+1+1 by omega)),af (by exact (show D≠w.heap.size+1+1 by omega))];exact hK
   have al:((X.setCell ⟨w.heap.size+1+1,0,none⟩ (.slice va L.length vc)).setCell ⟨w.heap.size+1+1+1,0,none⟩ .nilIface).ownsRow X0.heap.size 35 4 (.slice va L.length vc) L.length (L.flatMap kyC):=by
    refine ap i2 ?_;intro j v;have:=(i2.lt j v).1;rw[af (by exact (show j≠w.heap.size+1+1+1 by omega)),af (by exact (show j≠w.heap.size+1+1 by omega))]
   have KY:=pE (a:=.slice va L.length vc) (b:=.nilIface) (q:=w.heap.size+1+1) (z:=w.heap.size+1+1+1) B (by omega) (by omega);generalize ((X.setCell ⟨w.heap.size+1+1,0,none⟩ (.slice va L.length vc)).setCell ⟨w.heap.size+1+1+1,0,none⟩ .nilIface)=Y at *;have hg:=grownBy_putObj' Y D (.deferred none);have hr:∀r,some D=some r→∃o:Obj,Y.heap[r]? =some o∧o.isCells=false:=fun r e=>by cases e;exact⟨_,aD,rfl⟩
   refine⟨by simp,.inl ⟨_,_,rfl,run_takeDeferred aD, ?_⟩⟩;refine⟨_,kr _ rfl rfl (bC hg hr s1) (bC hg hr s2), ?_⟩;rw[HZ.o.1];show KuR W w (aI old till m) _ _
   rw[HZ.o.2];have bd:=O.size;refine⟨KY.gr hg (fun r e=>by cases e;omega),_,rfl,cr (by omega) (ap al ?_)⟩;intro k' e;obtain⟨_,⟨e1,_⟩ | ⟨g,bi,bo,e1,_,hh,_⟩⟩:=al
   ·rw[e1]at e;cases e
   ·rw[e1]at e
    injection e with e
    subst e;rw[bC hg hr hh,hh]
  case stop=>
   rintro D c pre X hD _ ⟨rfl,ev,i1,i2,i3,i4,i5⟩ hK;gi_wp2_with fail
   have hg:=grownBy_putObj' X D (.deferred none);have hr:∀r,some D=some r→∃o:Obj,X.heap[r]? =some o∧o.isCells=false:=fun r e=>by cases e;exact⟨_,hK,rfl⟩
   have bd:=O.size;refine⟨by simp,.inl ⟨_,_,rfl,run_takeDeferred hK, ?_⟩⟩;refine⟨_,kr _ rfl rfl (bC hg hr i1) (bC hg hr i2), ?_⟩;rw[hof];show KuR W w (aI old till m) _ _
   rw[i4];exact⟨i5.gr hg (fun r e=>by cases e;omega),_,rfl,i3.old (fun k c hk=>(bC hg hr hk).trans hk.symm)⟩
end
section
open Go Go.RowKit Go.Maps Go.WideMaps Go.MuLone
attribute [local go_sem] Oper.semAt_some
def TiR(W w:World)(F:Nat→Prop)(kb:Nat)(r:Nat×Ldg)(c:Nat)(e:Ending)(w':World):Prop:=∃F':Nat→Prop,Kp F w w'∧(∀k,F' k→F k∨w.heap.size≤k)∧(∀k,F' k→k < w'.heap.size)∧(∀k,F k→F' k)∧KN w' F' kb r.2 c ∧
 ((r.1=0∧e=.returned .nilIface)∨(r.1=6∧∃ev,e=.returned ev∧Chd W w' ev 6∧∃t u,ev=.iface t u))
theorem pd(b:Nat)(w:World):Kp (fun j=>j=b) w (held b w):=Kp.setCell (S:=fun j=>j=b) (p:=⟨b,0,none⟩) (Kp.refl _ _) (fun _=>rfl) _
theorem mF{S:Nat→Prop}{w X:World}{b mb ib:Nat}(h:w.heap[b]? =some (dT mb ib))(hS:¬S b)(K:Kp S (held b w) X):
  X.cell? ⟨b,0,none⟩=some (.int .i32 1)∧X.frozen? ⟨b,0,none⟩=false∧Kp S w (X.setCell ⟨b,0,none⟩ (.int .i32 0)):=by
 have e:(held b w).heap.size=w.heap.size:=World.size_setCell _ _ _;have d:=(K.block b (by rw[e];exact ag h) hS).trans (mY h);refine⟨by simp[World.cell?,d],by simp[World.frozen?,d],K.os,K.tape,K.output, ?_, ?_⟩
 ·rw[World.size_setCell,←e];exact K.size
 ·intro k f c
  by_cases a:k=b
  ·subst a
   rw[h];simp[World.setCell,Array.getElem?_modify,d,dT]
  ·rw[af (by exact a),K.block k (by omega) c,bW a]
theorem vJ{X:World}{q:Nat}{v:Value}{o:Obj}(h:q < X.heap.size):(X.setCell ⟨q,0,none⟩ v).alloc o=(X.alloc o).setCell ⟨q,0,none⟩ v:=ip h
theorem KN.mono{w:World}{F:Nat→Prop}{kb:Nat}{st:Ldg}{c c':Nat}(h:KN w F kb st c)(hc:c≤c'):KN w F kb st c':=by
 obtain⟨f,d,i,e,a,b,g,h⟩:=h;exact⟨f,d,i,e,a,b,g,⟨h.kblk,h.ms,h.mi,h.ss,h.si,h.look,h.vain,fun s t hs=>⟨(h.srv s t hs).1,Nat.le_trans (h.srv s t hs).2 hc⟩,h.non,h.inj,h.off,h.mbib,Nat.le_trans h.lsm hc,Nat.le_trans h.lim hc,h.fk,h.fm,h.fi,h.fs⟩⟩
theorem Chd.setk{W X:World}{ev:Value}{n b:Nat}{cs:Array Value}{v:Value}(h:Chd W X ev n)(hb:X.heap[b]? =some (.cells cs 177)):Chd W (X.setCell ⟨b,0,none⟩ v) ev n:=by
 obtain⟨a,i,f,e⟩:=h;refine⟨a,i,f.up ?_,e⟩;intro j c t d g
 have:j≠b:=by
  rintro rfl;rw[hb]at d;injection d with d
  injection d with _ e _
  subst e;revert g
  decide
 rw[af (by exact this)];exact d
theorem Ed{W w w':World}{F:Nat→Prop}{kb:Nat}{st:Ldg}{c n:Nat}{t:TypeId}{u:Value}(K:Kp (fun _=>False) w w')(hF:∀k,F k→k < w.heap.size)(h:KN w F kb st c)(he:Chd W w' (.iface t u) 6):
  TiR W w F kb (6,st) (c+n+1) (.returned (.iface t u)) w':=
 ⟨F,K.mono (fun _ _ h=>h.elim),fun _ h=>Or.inl h,fun k h=>Nat.lt_of_lt_of_le (hF k h) K.size,fun _ h=>h,(h.kp hF K).mono (by omega),Or.inr ⟨rfl,_,rfl,he,_,_,rfl⟩⟩
theorem DM{W w w':World}{F:Nat→Prop}{kb mb ib:Nat}{sm im:List (Bs×Value)}{Bf Qf:Bs→Nat}{qm:Bs→List (Bs×Value)}{st:Ldg}{c sb qb n:Nat}{qn:List (Bs×Value)}{sn text:Bs}{ks:List Ky}{now:Int}(h:KNs w F kb mb ib sm im Bf Qf qm st c)(hF:∀k,F k→k < w.heap.size)
  (K:Kp (fun j=>j=qb∨j=sb∨j=mb) w w') (hm:w'.ownsMap prog 9 Rv mb n (dm (aC sn (.pointer (some ⟨sb,0,none⟩)) sm)))
  (hs:SV w' sb qb text qn (ks.foldl (fM now) (st.keys sn))) (hq:qn.length≤c+ks.length) (g:(∃t,st.docs sn=some t∧sb=Bf sn∧qb=Qf sn)∨(st.docs sn=none∧w.heap.size≤sb∧w.heap.size≤qb)) :
  TiR W w F kb (0,fC (ks.foldl (bp sn now) st) sn text) (c+ks.length+1) (.returned .nilIface) w':=by
 have b:∀k,k < w.heap.size→k=sb∨k=qb→F k:=by
  intro k a e;rcases g with⟨t,f,rfl,rfl⟩ | ⟨_,d,i⟩
  ·rcases e with rfl | rfl
   ·exact (h.fs sn t f).1
   ·exact (h.fs sn t f).2
  ·omega
 refine⟨fun k=>F k∨k=sb∨k=qb,K.mono ?_, ?_, ?_,fun _ h=>Or.inl h,h.learned ?_ hm hs hq g,Or.inl ⟨rfl,rfl⟩⟩
 ·rintro k a (rfl | rfl | rfl)
  ·exact b _ a (Or.inr rfl)
  ·exact b _ a (Or.inl rfl)
  ·exact h.fm
 ·rintro k (a | a)
  ·exact Or.inl a
  ·rcases Nat.lt_or_ge k w.heap.size with d | d
   ·exact Or.inl (b k d a)
   ·exact Or.inr d
 ·rintro k (a | rfl | rfl)
  ·exact Nat.lt_of_lt_of_le (hF k a) K.size
  ·exact ag hs.blk
  ·exact hs.own.lt
 ·intro k a d i l
  exact K.block k a (by rintro (e | e | e) <;> contradiction)
theorem CM{w:World}{sb qb:Nat}{t text:Bs}(h:w.heap[sb]? =some (eJ qb t)):(w.setCell ⟨sb,1,none⟩ (.string ⟨text.toArray⟩)).heap[sb]? =some (eJ qb text):=by
 unfold eJ at *;simp[World.setCell,Array.getElem?_modify,h]
theorem sD(W:World)(hN:NG3 W)(w:World)(hW:Below W.heap.size W w)(F:Nat→Prop)(hFl:∀k,F k→W.heap.size≤k∧k < w.heap.size)(kb:Nat)(st:Ldg)(c:Nat)(hKN:KN w F kb st c)(sn:Bs)(u:Int)(text:Bs)(now:Int)(hnow : -9223372036854775808≤now)(B:Nat)(v:Value)(ks:List Ky)(row:w.ownsRow B 35 4 v ks.length (ks.flatMap kyC))(hsn:sn.length≤2000000)(hkl:∀k ∈ ks,k.id.length≤2000000)(hc:c+ks.length≤900000000):
  Calls prog 56 #[.pointer (some ⟨kb,0,none⟩),.agg #[.string ⟨sn.toArray⟩,.int .i64 u,v],.string ⟨text.toArray⟩,.int .i64 now] w fun e w'=>TiR W w F kb (bR st sn ks text now) (c+ks.length+1) e w':=by
 obtain⟨s,ib,U,im,Bf,Qf,qm,l⟩:=hKN;obtain⟨V,Z,rfl,aU⟩:=aJ row;have K0:Kp (fun _=>False) w (w.alloc (.cells #[.string ⟨sn.toArray⟩,.int .i64 u,.slice V ks.length Z] 30)):=(Kp.refl _ _).alloc _;have I0:=heap_alloc_new w (.cells #[.string ⟨sn.toArray⟩,.int .i64 u,.slice V ks.length Z] 30);have q:=l.frame (fun k hf=>K0.block k (hFl k hf).2 (by simp));obtain⟨c0,c2,c3,f0⟩:=gu q.kblk;have a5:=l.lt;have bj:(w.alloc (.cells #[.string ⟨sn.toArray⟩,.int .i64 u,.slice V ks.length Z] 30)).heap.size=w.heap.size+1:=by simp
 have HV:=ae (An aU (An row hkl));have HF:=ae hFl;clear aU row hkl hFl;go_enter_defers func56,ntmps56
 go_wp2_with (go_at_call 96;refine (lock_free Tryz.muLib ⟨kb,0,none⟩ _ c0 f0).mono ?_;rintro e w' ⟨rfl,rfl⟩)
 have aV:((w.setCell ⟨kb,0,none⟩ (.int .i32 1)).alloc (.cells #[.string ⟨sn.toArray⟩,.int .i64 u,.slice V ks.length Z] 30))=held kb (w.alloc (.cells #[.string ⟨sn.toArray⟩,.int .i64 u,.slice V ks.length Z] 30)):=vJ a5.1;rw[aV];clear aV;generalize (w.alloc (.cells #[.string ⟨sn.toArray⟩,.int .i64 u,.slice V ks.length Z] 30))=w0 at *;have LF:Hid (∀(S:Nat→Prop),¬S kb→∀X,Kp S (held kb w0) X→X.cell? ⟨kb,0,none⟩=some (.int .i32 1)∧X.frozen? ⟨kb,0,none⟩=false∧Kp S w0 (X.setCell ⟨kb,0,none⟩ (.int .i32 0))):=fun S hS X K=>mF q.kblk hS K
 obtain⟨d0,d2,d3,g0⟩:=fy q.kblk;have I1:(held kb w0).heap[w.heap.size]? =some (.cells #[.string ⟨sn.toArray⟩,.int .i64 u,.slice V ks.length Z] 30):=(bW (by omega)).trans I0;have aS:(held kb w0).heap.size=w0.heap.size:=World.size_setCell _ _ _;have D:∀k,k < w.heap.size→k≠kb→(held kb w0).heap[k]? =w.heap[k]? :=fun k A h2=>(bW h2).trans (K0.block k A (by simp))
 have bc:W.heap.size≤kb:=(HF.o kb l.fk).1;have B1:Below W.heap.size W (held kb w0):=⟨(pd kb w0).os.trans (K0.os.trans hW.os),(pd kb w0).tape.trans (K0.tape.trans hW.tape),(pd kb w0).output.trans (K0.output.trans hW.output),by rw[aS];have:=hW.size;omega,fun k h=>(D k (Nat.lt_of_lt_of_le h hW.size) (by omega)).trans (hW.block k h)⟩
 have ai:(held kb w0).ownsRow B 35 4 (.slice V ks.length Z) ks.length (ks.flatMap kyC):=ap HV.o.2.1 (fun k e=>D k (HV.o.2.1.lt k e).2 (by
   rintro rfl;obtain⟨_,cc,ar⟩:=dh HV.o.2.1 e;have C:=l.kblk;rw[ar]at C;unfold dT at C;injection C with C
   injection C with _ h2 _
   revert h2
   decide))
 have az:(held kb w0).ownsMap prog 9 Rv s U.length (dm U):=ay q.ms (bW (bw q.ms q.kblk));have r:=gG underlying168 vU (held kb w0).drew U s U.length sn (by omega) (ay az rfl);rw[l.look sn]at r;have bb:=ae D;have I:=ae az;have aD:=ae ai;have aW:=ae B1;have x:=ae l;have bf:=l.lt.1;have ad:∀t,st.docs sn=some t→SV (held kb w0) (Bf sn) (Qf sn) t (qm sn) (st.keys sn)∧(qm sn).length≤c:=fun t n=>⟨(l.srv sn t n).1.frame (D _ (l.lt.2.2.2 sn t n).1 (oN (l.srv sn t n).1.blk l.kblk)) (D _ (l.lt.2.2.2 sn t n).2 (bw (l.srv sn t n).1.own l.kblk)),(l.srv sn t n).2⟩
 have G:=ae ad;have aB:=ae (mY q.kblk);generalize held kb w0=w1 at *;obtain⟨x0,x1,x2,aa,ab,ac,R⟩:=ba I1;clear D az ai B1 l q c0 c2 c3 f0 ad
 have a6:∀(w:World),(Instr.makeMap 180 none).run prog w=.ok (.map (some w.heap.size)) (w.alloc (.map #[] 0)):=by
  intro w;simp[Instr.makeMap,Result.andThen]
 rcases n:st.docs sn with _ | t
 case' none=>
  rw[n]at r;replace r:(Instr.lookup 168 (.map (some s)) (.string ⟨sn.toArray⟩) true).run prog w1.drew=.ok (.tuple #[.pointer none,.bool false]) w1.drew:=r;go_region
  go_wp2_with fail
  have PK:∃(b d:Nat) (t0:Bs) (T:List (Bs×Value)) (X:World),X=((w1.alloc (.map #[] 0)).alloc (.cells #[.map (some (w.heap.size+1)),.string ⟨#[]⟩] 182)).drew∧b=w.heap.size+1+1∧Kp (fun _=>False) w1 X∧SV X b d t0 T (st.keys sn)∧T.length≤c∧((∃t,st.docs sn=some t∧b=Bf sn∧d=Qf sn)∨(st.docs sn=none∧w.heap.size≤b∧w.heap.size≤d)):=by
   have aO:w1.heap.size=w.heap.size+1:=by omega
   refine⟨_,w.heap.size+1,[],[],_,rfl,rfl,(((Kp.refl _ _).alloc _).alloc _).drew,⟨?_, ?_,List.Pairwise.nil, ?_⟩,Nat.zero_le _,Or.inr ⟨n,by omega,by omega⟩⟩
   ·have h:=heap_alloc_new (w1.alloc (.map #[] 0)) (.cells #[.map (some (w.heap.size+1)),.string ⟨#[]⟩] 182)
    rw[World.size_alloc,aO]at h;exact h
   ·have h0:(w1.alloc (.map #[] 0)).ownsMap prog 9 Rv w1.heap.size 0 (dm []):=by simpa[dm] using World.ownsMap_made w1 prog 9 Rv
    rw[aO]at h0;exact ay h0 (by exact Below.heap_alloc (w1.alloc (.map #[] 0)) _ _ h0.lt)
   ·intro i
    rw[x.o.non sn n i];rfl
 case' some=>
  rw[n]at r;replace r:(Instr.lookup 168 (.map (some s)) (.string ⟨sn.toArray⟩) true).run prog w1.drew=.ok (.tuple #[.pointer (some ⟨Bf sn,0,none⟩),.bool true]) w1.drew:=r;go_region
  go_wp2_with fail
  have PK:∃(b d:Nat) (t0:Bs) (T:List (Bs×Value)) (X:World),X=w1.drew∧b=Bf sn∧Kp (fun _=>False) w1 X∧SV X b d t0 T (st.keys sn)∧T.length≤c∧((∃t,st.docs sn=some t∧b=Bf sn∧d=Qf sn)∨(st.docs sn=none∧w.heap.size≤b∧w.heap.size≤d)):=
   ⟨Bf sn,Qf sn,t,qm sn,w1.drew,rfl,rfl,(Kp.refl _ _).drew,(G.o t n).1.kp (Kp.refl _ _).drew,(G.o t n).2,Or.inl ⟨t,n,rfl,rfl⟩⟩
 all_goals
  obtain⟨b,d,t0,T,X,hX,aQ,KX,aq,bg,aC⟩:=PK;rw[←hX,←aQ];have HO:=ae aC;clear hX aQ aC n r a6 G;have aA:=ae (nL W hN X (am aW.o KX) b d t0 T _ aq B _ ks (an aD.o KX (by simp)) HV.o.2.2);refine aA.o.mono ?_;rintro e X1 ⟨K1,A⟩;have z:=KX.trans K1;have J:=aq.kp K1;clear aA K1 KX aq;rcases A with⟨hb,rfl⟩ | ⟨hb,ev,rfl,he,tt,uu,rfl⟩
  case' inr=>
   have N:bR st sn ks text now=(6,st):=by
    unfold bR;rw[if_pos];exact hb
   have HT:=ae (An N he);have lf:=LF.o (fun _=>False) (by simp) X1 z;have E:=ae lf;have aX:=ae (z.heap aB.o);clear N he hb z J;go_wp2;refine leaves_cons (f:=97) (args:= #[.pointer (some ⟨kb,0,none⟩)]) (by simp) (by simp[go_sem]) ?_;refine (unlock_deferred Tryz.muLib ⟨kb,0,none⟩ .returning _ E.o.1 E.o.2.1).mono ?_;rintro e u' w'' ⟨rfl,rfl,rfl⟩;refine⟨_,results_tmp rfl _ _ _, ?_⟩;rw[HT.o.1];exact Ed (K0.trans E.o.2.2) (fun k h=>(HF.o k h).2) ⟨_,_,_,_,_,_,_,x.o⟩ (HT.o.2.setk (aX.o))
  case' inl=>
   have ao:=z.heap I1;clear x0 x1 x2 aa ab ac R;obtain⟨x0,x1,x2,aa,ab,ac,R⟩:=ba ao;have y:=ae J;have H:=ae z;have P:=ae ao;have a7:=J.ne;have bi:=J.own.lt
   have N:bR st sn ks text now=(0,fC (ks.foldl (bp sn now) st) sn text):=by
    unfold bR;rw[if_neg];intro h;have a0:iZ st sn ks=false:=hb;rw[a0]at h;cases h
   have HT:=ae N;have O:=an aD.o z (by simp);have be:=iM O;have aE:=ae O;clear hb J z ao N O;go_wp2_with fail
   go_loopg [46] ks.length (fun gg a wr=>∃(i:Nat),gg=ks.length - i∧i≤ks.length∧a=.int .i64 (i:Int)∧Kp (fun j=>j=d) X1 wr∧∃qi,SV wr b d t0 qi ((ks.take i).foldl (fM now) (st.keys sn))∧qi.length≤T.length+i)
   case atStart=>exact⟨0,rfl,by omega,rfl,Kp.refl _ _,T,y.o,by omega⟩
   case round=>
    obtain⟨i,aH,bd,rfl,Kr,qi,m,bh⟩:=hrel;have HG:=ae aH;clear aH;by_cases aK:i < ks.length
    ·have aI:decide ((i:Int) < (ks.length:Int))=true:=by simp;omega
     obtain⟨k,l⟩:∃k,ks[i]? =some k:=⟨ks[i],List.getElem?_eq_getElem aK⟩;obtain⟨g,rfl,_⟩:=HV.o.1 (by omega)
     obtain⟨c0,c1,c2,c3⟩:=eC (an aE.o Kr (by
       intro j hj e;subst e;obtain⟨_,cc,ar⟩:=dh aE.o hj;exact bw y.o.own ar rfl)) i k l
     have C:=HV.o.2.2 k (List.mem_of_getElem? l);have Ka:Kp (fun _=>False) wr (wr.alloc (.cells #[.string ⟨k.id.toArray⟩,.string ⟨k.key.toArray⟩,.bool k.old,.int .i64 k.till] 35)):=(Kp.refl _ _).alloc _;have Ia:=heap_alloc_new wr (.cells #[.string ⟨k.id.toArray⟩,.string ⟨k.key.toArray⟩,.bool k.old,.int .i64 k.till] 35);have aP:=m.kp Ka;obtain⟨k0,k1,k2,k3,_,_,_,_,a4⟩:=ey Ia
     have aT:(ks.take (i+1)).foldl (fM now) (st.keys sn)=fM now ((ks.take i).foldl (fM now) (st.keys sn)) k:=by
      rw[gS l,List.foldl_append];rfl
     have aZ:=ae aT;have HA:=ae (An Kr (An Ka aP));clear aT l Kr m aP;have aY:=ae hnow;go_wp2_with fail
     generalize (wr.alloc (.cells #[.string ⟨k.id.toArray⟩,.string ⟨k.key.toArray⟩,.bool k.old,.int .i64 k.till] 35))=wk at *;refine lX ?_
     go_region_law (first
       | (refine aF rfl 100 _ _ rfl #[.agg #[.string ⟨k.id.toArray⟩,.string ⟨k.key.toArray⟩,.bool k.old,.int .i64 k.till],.int .i64 now] (by go_simp) ?_;refine (rq k now aY.o _).mono ?_;rintro e wl ⟨rfl,Kl⟩;have aj:=ae (((Kp.refl (fun _=>False) wk).drew).trans Kl);obtain⟨k0,k1,k2,k3,_,_,_,_,a4⟩:=ey (aj.o.heap Ia);clear Kl)
       | (refine aF rfl 99 _ _ rfl #[.pointer (some ⟨b,0,none⟩),.agg #[.string ⟨k.id.toArray⟩,.string ⟨k.key.toArray⟩,.bool k.old,.int .i64 k.till],.int .i64 (bX now k)] (by go_simp) ?_;refine (CP _ b d t0 qi _ (HA.o.2.2.kp aj.o) k C (by omega) now).mono ?_;rintro e wt ⟨rfl,Kt,a8,aR,aN⟩;have al:=ae (An Kt (An aR aN));clear Kt aR aN))
     all_goals refine vq ?_
     all_goals go_wp2
     all_goals go_roundg (ks.length - (i+1))
     all_goals first
      | (rw[HG.o];omega)
      | (refine⟨i+1,rfl,by omega,ak (by omega),(HA.o.1.trans ((HA.o.2.1.trans aj.o).mono (fun _ _ h=>h.elim))).trans al.o.1,a8, ?_,by have:=al.o.2.2;omega⟩;rw[aZ.o];exact al.o.2.1)
    ·have aI:decide ((i:Int) < (ks.length:Int))=false:=by simp;omega
     have a3:i=ks.length:=by omega
     rw[a3,List.take_of_length_le (Nat.le_refl _)]at m;have M:=H.o.heap aB.o;have au:kb≠d:=fun e=>bw y.o.own M e.symm
     have av:b≠kb:=by
      rintro rfl;have A:=y.o.blk;rw[M]at A;unfold eJ at A;injection A with A
      injection A with _ h2 _
      revert h2
      decide
     have aL:s≠d:=by
      rcases HO.o with⟨t,n,_,rfl⟩ | ⟨_,_,h2⟩
      ·exact fun e=>(x.o.off sn t n).1 e.symm
      ·have:=x.o.ms.lt
       omega
     have aM:s≠b:=fun e=>bw (ay I.o (H.o.block _ I.o.lt (by simp))) y.o.blk e
     have a2:w.heap.size≠b:=by
      intro e;have A:=y.o.blk;rw[←e,P.o]at A;unfold eJ at A;injection A with A
      injection A with _ h2 _
      revert h2
      decide
     have a1:w.heap.size≠d:=fun e=>bw y.o.own P.o e.symm
     obtain⟨s0,s1,s2⟩:=fd m.blk;have KY:Kp (fun j=>j=d∨j=b∨j=s) X1 (wr.setCell ⟨b,1,none⟩ (.string ⟨text.toArray⟩)):=Kp.setCell (S:=fun j=>j=d∨j=b∨j=s) (p:=⟨b,1,none⟩) (Kr.mono (fun _ _ h=>Or.inl h)) (fun _=>Or.inr (Or.inl rfl)) _;have aw:(wr.setCell ⟨b,1,none⟩ (.string ⟨text.toArray⟩)).heap[kb]? =some (.cells #[.int .i32 1,.int .u32 0,.map (some s),.map (some ib)] 177):=(af (by exact Ne.symm av)).trans ((Kr.block kb (ag M) au).trans M);have aG:(wr.setCell ⟨b,1,none⟩ (.string ⟨text.toArray⟩)).heap[w.heap.size]? =some (.cells #[.string ⟨sn.toArray⟩,.int .i64 u,.slice V ks.length Z] 30):=(af (by exact a2)).trans ((Kr.block _ (ag P.o) a1).trans P.o);have ax:(wr.setCell ⟨b,1,none⟩ (.string ⟨text.toArray⟩)).ownsMap prog 9 Rv s U.length (dm U):=ay I.o ((af (by exact aM)).trans ((Kr.block s (Nat.lt_of_lt_of_le I.o.lt H.o.size) aL).trans (H.o.block s I.o.lt (by simp))));have Q:SV (wr.setCell ⟨b,1,none⟩ (.string ⟨text.toArray⟩)) b d text qi (ks.foldl (fM now) (st.keys sn)):=⟨CM m.blk,ay m.own (af (by exact a7)),m.srt,m.look⟩;go_wp2_with fail
     generalize (wr.setCell ⟨b,1,none⟩ (.string ⟨text.toArray⟩))=Y at *;have y2:Y.cell? ⟨kb,2,none⟩=some (.map (some s)):=by simp[World.cell?,aw]
     clear s0 s1 s2 x0 x1 x2 aa ab ac R;obtain⟨x0,x1,x2,aa,ab,ac,R⟩:=ba aG;have a9:=x.o.lsm;obtain⟨w9,bk,o9,g9⟩:=(show Y.drew.ownsMap prog 9 Rv s U.length (dm U) from ay ax rfl).update ed underlying168 (by unfold maxLen;omega) (dj (show sn.length≤139000000000000 by omega)) (show Rv (.pointer (some ⟨b,0,none⟩))=some (.held (.pointer (some ⟨b,0,none⟩)),[]) from rfl);rw[iB sn _ U x.o.ss]at o9;have K9:Kp (fun j=>j=d∨j=b∨j=s) w1 w9:=((H.o.mono (fun _ _ h=>h.elim)).trans KY.drew).grown g9 (fun j e _=>by cases e;exact Or.inr (Or.inr rfl));have ah:SV w9 b d text qi (ks.foldl (fM now) (st.keys sn)):=Q.frame (g9.block b (ag Q.blk) (by intro e;injection e with e;exact aM e.symm)) (g9.block d Q.own.lt (by intro e;injection e with e;exact aL e.symm));have L:kb≠s:=fun e=>bw ax aw e.symm
     have lf:=LF.o (fun j=>j=d∨j=b∨j=s) (fun h=>h.elim (fun e=>au e) (fun h=>h.elim (fun e=>av e.symm) (fun e=>L e))) w9 K9;have E:=ae (An lf (An o9 (An ah (An av (An au L)))));clear lf K9 ah o9 g9 ax Q KY aw aG m M L;go_region
     go_wp2;refine leaves_cons (f:=97) (args:= #[.pointer (some ⟨kb,0,none⟩)]) (by simp) (by simp[go_sem]) ?_;refine (unlock_deferred Tryz.muLib ⟨kb,0,none⟩ .returning _ E.o.1.1 E.o.1.2.1).mono ?_;rintro e u' w'' ⟨rfl,rfl,rfl⟩;refine⟨_,results_tmp rfl _ _ _, ?_⟩;rw[HT.o];exact DM x.o (fun k h=>(HF.o k h).2) ((K0.mono (fun _ _ h=>h.elim)).trans E.o.1.2.2) (ay E.o.2.1 (af (by exact Ne.symm E.o.2.2.2.2.2))) (E.o.2.2.1.frame (af (by exact E.o.2.2.2.1)) (af (by exact Ne.symm E.o.2.2.2.2.1))) (by omega) HO.o
end
end Go.Proofs.YtocligpfmfmihaaGreatDoor
