import Derived.Test.YtocligpfmfmihaaGreatDoorMpG
import Derived.StringKeys
set_option maxRecDepth 20000
namespace Go.Proofs.YtocligpfmfmihaaGreatDoor
open Go.Proofs.Tryz
section
open Go Go.RowKit Go.Maps
theorem uI(u:Bool)(d:Nat)(l:List UInt8):az u d (sk l)=az u d l:=by
 cases d <;> simp only[az,oM]
theorem ArrI.keep{lo rb ab bb:Nat}{x:List J}{w1 w2:World}(hrb:rb < lo)(h0:lo≤ab)(h0':lo≤bb)(h:ArrI lo rb ab bb x w1)(hk:Kp (· =rb) w1 w2):ArrI lo rb ab bb x w2:=by
 obtain⟨sv,j,G,b,i2,i3,i4,i5,i⟩:=h;have l:=hk.size;refine⟨sv,j,G,(hk.block ab (ag b) (by omega)).trans b,(hk.block bb (ag i2) (by omega)).trans i2,an i3 hk (fun k e=>by have:=(i3.lt k e).1;omega),Reps.frame ?_ x i4, ?_,i⟩
 ·intro k a
  obtain⟨c,d,f,g⟩:=i5 k a;exact hk.block k d (by omega)
 ·intro k a
  obtain⟨c,d,f,g⟩:=i5 k a;exact⟨c,by omega,f,g⟩
theorem Bg(W:World)(rb:Nat)(s:ByteArray)(d:Nat)(hv:jn W d)(w0:World)(ab bb:Nat)(hab:ab≠bb)(hrb:rb < w0.heap.size)(h0:w0.heap.size≤ab)(h0':w0.heap.size≤bb):
  One W rb s d w0 (pEl (az false (6 - d))) (ArrI w0.heap.size rb ab bb) List.length 205 (.pointer (some ⟨ab,0,none⟩)) (.pointer (some ⟨bb,0,none⟩)) where
 keep x w1 w2 h hk:=h.keep hrb h0 h0' hk
 shr:=pp (iv _)
 skp x l:=by simp only[pEl,uI]
 ent w:=by kernel_rfl
 inc x l y r h:=by
  unfold pEl at h;simp only[Option.map_eq_some_iff,Prod.mk.injEq]at h;obtain⟨z,_,rfl,_⟩:=h;simp
 call x w1 k1 hm hr hI hk:=by
  cases hp:az false (6 - d) (ah s k1) with
  |none=>
   refine (tg W rb s d hv w0 ab bb x w1 k1 hr hI hk hp).mono ?_;intro e w2 h;exact dR (by simp[pEl,hp]) h
  |some z=>
   obtain⟨j,r⟩:=z;have a:pEl (az false (6 - d)) x (ah s k1)=some (x ++[j],r):=by simp[pEl,hp]
   rw[a];exact th W rb s d hv w0 ab bb hab hrb h0 h0' x w1 k1 hr hI hk j r hp hm
theorem pW(w:World)(a b c:Obj):(((w.alloc a).alloc b).alloc c).heap[w.heap.size]? =some a:=by
 rw[Below.heap_alloc _ _ _ (by simp;omega),Below.heap_alloc _ _ _ (by simp)];exact heap_alloc_new w a
theorem wV(w:World)(a b c:Obj):(((w.alloc a).alloc b).alloc c).heap[w.heap.size+1]? =some b:=by
 rw[Below.heap_alloc _ _ _ (by simp)];have:=heap_alloc_new (w.alloc a) b;simpa using this
theorem pX(w:World)(a b c:Obj):(((w.alloc a).alloc b).alloc c).heap[w.heap.size+1+1]? =some c:=by
 have:=heap_alloc_new ((w.alloc a).alloc b) c;simpa using this
theorem Bh(W:World)(rb:Nat)(s:ByteArray)(d:Nat)(hd:d < 6)(hv:jn W (d+1))(k:Nat)(w:World)(hr:St W w rb s k d)(t:List UInt8)(hl:sk (ah s k)=91 :: t):
  Calls prog 160 #[.pointer (some ⟨rb,0,none⟩)] w fun e w'=>
   Res W rb s d w (bD (pEl (az false (6 - (d+1)))) 93 [] t) (fun w' l v=>Rep w' (fun b=>w.heap.size≤b∧b < w'.heap.size) (.arr l) (.iface 228 v)) e w':=by
 have u:rb < w.heap.size:=hr.rdr.facts.2.2.2.2.2;have D:=ae hl;clear hl;go_enter func160,ntmps160;go_wp2_with fail
 have y:Kp (· =rb) w (((w.alloc (.cells #[.pointer (some ⟨rb,0,none⟩)] 201)).alloc (.cells #[] 59)).alloc (.cells #[.slice (some ⟨w.heap.size+1,0,none⟩) 0 0] 228)):=(((Kp.refl _ _).alloc _).alloc _).alloc _;have A:=hr.keep (S:=fun _=>False) ((((Kp.refl _ _).alloc (.cells #[.pointer (some ⟨rb,0,none⟩)] 201)).alloc (.cells #[] 59)).alloc (.cells #[.slice (some ⟨w.heap.size+1,0,none⟩) 0 0] 228)) (by simp) (by simp)
 have x:ArrI w.heap.size rb (w.heap.size+1+1) w.heap.size [] (((w.alloc (.cells #[.pointer (some ⟨rb,0,none⟩)] 201)).alloc (.cells #[] 59)).alloc (.cells #[.slice (some ⟨w.heap.size+1,0,none⟩) 0 0] 228)):=by
  refine⟨_,[],fun _=>False,pX w _ _ _,pW w _ _ _,⟨rfl,Or.inr ⟨w.heap.size+1,0, #[],rfl,by omega,wV w _ _ _,Nat.le_refl _,by unfold maxLen;omega,rfl,rfl⟩⟩,by rw[Reps],by simp, ?_⟩;intro k i;simp only[Value.ownBlock,Option.some.injEq]at i;exact⟨by simp,by omega,by omega⟩
 refine (qs W rb s k d w _ _ _ _ _ _ _ (Bg W rb s (d+1) hv w (w.heap.size+1+1) w.heap.size (by omega) u (by omega) (Nat.le_refl _)) A [] rfl x y hd 91 93 91 93 rfl rfl (by decide) (by decide) t D.o).mono ?_;rintro e w2 ⟨B,f⟩;clear x y A
 cases hp:bD (pEl (az false (6 - (d+1)))) 93 [] t with
 |none=>
  rw[hp]at f;obtain⟨p,K,g,m,rfl,q⟩:=f;exact⟨rfl,aX hp ⟨B,p,K,g,m,rfl,q⟩⟩
 |some z=>
  obtain⟨l,r⟩:=z;rw[hp]at f;obtain⟨rfl,⟨sv,L,G,C,i2,i3,i4,i5,J⟩,N,E,c⟩:=f
  have a:Rep w2 (fun b=>w.heap.size≤b∧b < w2.heap.size) (.arr l) (.iface 228 sv):=by
   rw[Rep];refine⟨sv,L,rfl,⟨i3.1, ?_⟩,fun b hb=>i3.lt b hb,Reps.mono (fun k i=>⟨(i5 k i).1,(i5 k i).2.1⟩) l i4⟩;rcases i3.2 with h | ⟨g,j,n,H,_,I⟩
   ·exact Or.inl h
   ·exact Or.inr ⟨g,j,n,H,Nat.zero_le _,I⟩
  obtain⟨M,F⟩:=aj C;have Z:=ae (An a (An c hp));clear C i2 i3 i4 i5 J a c hp F;go_wp2;go_ret;exact aU Z.o.2.2 B Z.o.1 E Z.o.2.1
end
section
open Go Go.RowKit Go.Maps Go.WideMaps
def ObjI(lo rb mb ob bb:Nat)(a:List (Bs×J))(w:World):Prop:=
 ∃m G,w.heap[ob]? =some (.cells #[.map (some mb)] 71)∧w.heap[bb]? =some (.cells #[.pointer (some ⟨rb,0,none⟩)] 201) ∧
  w.ownsMap prog 9 Rv mb m.length (dm m)∧Repm w G (ofL a) m∧(∀k,G k→lo≤k∧k < w.heap.size∧k≠ob∧k≠bb∧k≠mb)∧Nod a∧m.length≤a.length
theorem kQ(w:World):(zeroValue 59).run prog w=.ok .nilIface w:=by kernel_rfl
theorem xf{o:List UInt8}(h:o.length≤2400):keyOf prog 9 (.string ⟨o.toArray⟩)=some (.string o):=by
 have:=keyOf_string_mk (P:=prog) underlying9 (s:=⟨o.toArray⟩) (by unfold maxLen;show o.toArray.size≤_;simp;omega);simpa using this
theorem ObjI.keep{lo rb mb ob bb:Nat}{a:List (Bs×J)}{w1 w2:World}(hrb:rb < lo)(h0:lo≤mb)(h1:lo≤ob)(h2:lo≤bb)(h:ObjI lo rb mb ob bb a w1)(hk:Kp (· =rb) w1 w2):ObjI lo rb mb ob bb a w2:=by
 obtain⟨m,G,c,i2,i3,i4,i5,g,i⟩:=h;have j:=hk.size;refine⟨m,G,(hk.block ob (ag c) (by omega)).trans c,(hk.block bb (ag i2) (by omega)).trans i2,ay i3 (hk.block mb i3.lt (by omega)),Repm.frame ?_ _ i4, ?_,g,i⟩
 ·intro k b
  obtain⟨d,e,f⟩:=i5 k b;exact hk.block k e (by omega)
 ·intro k b
  obtain⟨d,e,f⟩:=i5 k b;exact⟨d,by omega,f⟩
theorem BW{lo rb mb ob bb:Nat}{a:List (Bs×J)}{j:J}{key:Bs}{v:Value}{m:List (Bs×Value)}{G:Nat→Prop}{w1 w2 w3:World}(hrb:rb < lo)(h0:lo≤mb)(h1:lo≤ob)(h2:lo≤bb)(hne:mb≠ob∧mb≠bb∧ob≠bb)
  (i1:w1.heap[ob]? =some (.cells #[.map (some mb)] 71)) (i2:w1.heap[bb]? =some (.cells #[.pointer (some ⟨rb,0,none⟩)] 201))
  (i3:w1.ownsMap prog 9 Rv mb m.length (dm m)) (i4:Repm w1 G (ofL a) m) (i5:∀k,G k→lo≤k∧k < w1.heap.size∧k≠ob∧k≠bb∧k≠mb) (i6:Nod a) (i7:m.length≤a.length)
  (hnew:ai key a=none) (g1:Kp (· =rb) w1 w2) (g3:Rep w2 (fun b=>w1.heap.size≤b∧b < w2.heap.size) j v) (B1:w2.grownBy w3 (some mb))
  (y1:w3.ownsMap prog 9 Rv mb (m.length+1) ((dm m).put (.string key) (.held v))) :
  ObjI lo rb mb ob bb (a ++[(key,j)]) w3:=by
 have o:=g1.size;have q:=B1.size;have s:=i3.lt;have f:Srt m:=iV (Repm.keys _ _ i4) (fR a);rw[iB key v m f]at y1
 have old:∀k,G k→w3.heap[k]? =w1.heap[k]? :=by
  intro k c;obtain⟨i,d,r,u,w⟩:=i5 k c;rw[B1.block k (by omega) (by intro e;injection e with e;omega),g1.block k d (by omega)]
 have g:∀k,w1.heap.size≤k∧k < w2.heap.size→w3.heap[k]? =w2.heap[k]? :=by
  rintro k ⟨i,d⟩;rw[B1.block k d (by intro e;injection e with e;omega)]
 have n:(aC key v m).length≤m.length+1:=by
  have:∀l:List (Bs×Value),(aC key v l).length≤l.length+1:=by
   intro l
   induction l with
   |nil=>simp[aC]
   |cons p l ih=>
    obtain⟨b,x⟩:=p;unfold aC;split
    ·simp
    ·split
     ·simp
     ·simpa using ih
  exact this m
 refine⟨aC key v m,fun k=>G k∨(w1.heap.size≤k∧k < w2.heap.size), ?_, ?_,d9 y1, ?_, ?_,(eV a key j).2 ⟨i6,hnew⟩, ?_⟩
 ·have h:=ag i1
  rw[B1.block ob (by omega) (by intro e;injection e with e;omega),g1.block ob h (by omega)];exact i1
 ·have h:=ag i2
  rw[B1.block bb (by omega) (by intro e;injection e with e;omega),g1.block bb h (by omega)];exact i2
 ·rw[eY]
  exact Repm.ins (Rep.mono (fun k c=>Or.inr c) j (Rep.frame g j g3)) _ _ (Repm.mono (fun k c=>Or.inl c) _ (Repm.frame old _ i4))
 ·have h:=ag i1
  have t:=ag i2;rintro k (c | ⟨hk1,hk2⟩)
  ·obtain⟨i,d,r⟩:=i5 k c
   exact⟨i,by omega,r⟩
  ·exact⟨by omega,by omega,by omega,by omega,by omega⟩
 ·rw[List.length_append];simp;omega
theorem Dy(W:World)(rb:Nat)(s:ByteArray)(d:Nat)(hv:jn W d)(w0:World)(mb ob bb:Nat)(hrb:rb < w0.heap.size)(h0:w0.heap.size≤mb)(h1:w0.heap.size≤ob)(h2:w0.heap.size≤bb)(hne:mb≠ob∧mb≠bb∧ob≠bb)
  (a:List (Bs×J)) (w1:World) (k1:Nat) (ha:a.length≤700) (hr:St W w1 rb s k1 d) (hI:ObjI w0.heap.size rb mb ob bb a w1) (hk:Kp (· =rb) w0 w1) :
  Calls prog 203 #[.pointer (some ⟨bb,0,none⟩),.pointer (some ⟨ob,0,none⟩)] w1 fun e w2=>Ser W rb s d w0 (bq false (az false (6 - d)) a (ah s k1)) (ObjI w0.heap.size rb mb ob bb) e w2:=by
 obtain⟨m,G,p,i2,i3,i4,i5,y,D⟩:=hI;generalize hl:ah s k1=l;have HL:=ae hl;clear hl;obtain⟨T,fb⟩:=aj i2;clear fb;go_enter func203,ntmps203;go_wp2_with fail
 refine (gi W rb s k1 d _ hr).mono ?_;rintro e w2 ⟨rfl,a1,k2,S2,a3⟩;rw[HL.o]at a3;have A3:=ae a3;clear a3;have K2:=hk.trans a1;have I2:ObjI w0.heap.size rb mb ob bb a w2:=ObjI.keep hrb h0 h1 h2 ⟨m,G,p,i2,i3,i4,i5,y,D⟩ a1;clear p i2 i3 i4 i5 y D T hr;obtain⟨m,G,p,i2,i3,i4,i5,y,D⟩:=I2;obtain⟨T,fb⟩:=aj i2;clear fb;by_cases C:(sk l).head? =some 34
 ·obtain⟨t,ht⟩:∃t,sk l=34 :: t:=by
   cases hst:sk l with
   |nil=>rw[hst]at C;cases C
   |cons c q=>
    rw[hst]at C;simp only[List.head?_cons,Option.some.injEq]at C;exact⟨q,by rw[C]⟩
  have HT:=ae ht;clear C ht;go_wp2_with fail
  refine (rU W rb s k2 d _ S2 t (A3.o.trans HT.o)).mono ?_;rintro e w3 ⟨b1,S⟩;have K3:=K2.trans b1;have I3:ObjI w0.heap.size rb mb ob bb a w3:=ObjI.keep hrb h0 h1 h2 ⟨m,G,p,i2,i3,i4,i5,y,D⟩ b1;clear p i2 i3 i4 i5 y D T
  cases hp:br false t with
  |none=>
   rw[hp]at S;obtain⟨f,E,g,b,rfl,q⟩:=S;refine⟨rfl,dR ?_ ⟨K3,f,E,g,b,rfl,Nat.le_trans K2.size q.1,q.2⟩⟩;simp[bq,HT.o,hp]
  |some z=>
   obtain⟨key,r⟩:=z;rw[hp]at S;obtain⟨_,k3,rfl,⟨rfl,aa⟩,S3,b4⟩:=S;have X:=ae (An hp b4);clear hp b4 m G;obtain⟨m,G,p,i2,i3,i4,i5,y,D⟩:=I3
   have B:Maps.has (dm m) (.string key)=(ai key a).isSome:=by
    rw[qP,←eU key a y];rcases Repm.look key _ _ i4 with⟨e1,e2⟩ | ⟨v,x,e1,e2,_⟩ <;> rw[e1,e2] <;> rfl
   obtain⟨lv,ao,I,af⟩:=i3.look_ok ed underlying71 (kQ w3) (R:=Rv) (zd:=.held .nilIface) (zp:=[]) rfl (xf aa);rw[B]at I;clear af;obtain⟨T,_⟩:=aj i2;obtain⟨co,_⟩:=aj p;have I3:=ae (An p (An i2 (An i3 (An i4 (An i5 (An y D))))));clear p i2 i3 i4 i5 y D B
   cases hlq:ai key a with
   |some x0=>
    rw[hlq]at I;have LQ:=ae hlq;clear hlq;obtain⟨am,hg,he⟩:=S3.err 18 (by decide) (by decide);go_wp2_with (go_at_call 111;refine (cV rb s k3 d _ S3.rdr _ _).mono ?_;rintro e w' ⟨rfl,rfl⟩)
    exact⟨rfl,dR (by simp[bq,HT.o,X.o.1,LQ.o]) (bL K3 he)⟩
   |none=>
    rw[hlq]at I;have LQ:=ae hlq;clear hlq;by_cases M:(sk r).head? =some 58
    ·obtain⟨q,C⟩:∃q,sk r=58 :: q:=by
      cases hst:sk r with
      |nil=>rw[hst]at M;cases M
      |cons c q=>
       rw[hst]at M;simp only[List.head?_cons,Option.some.injEq]at M;exact⟨q,by rw[M]⟩
     have Y:=ae C;clear M C;have ab:bq false (az false (6 - d)) a l=(az false (6 - d) q).map fun x=>(a ++[(key,x.1)],x.2):=by simp[bq,HT.o,X.o.1,LQ.o,Y.o]
     have PM:=ae ab;clear ab;go_wp2_with fail
     refine (kE W rb s k3 d _ S3 58 58 rfl q (by rw[X.o.2];exact Y.o)).mono ?_;rintro e V ⟨rfl,d1,U,Q,d3⟩;have D3:=ae d3;have O:=K3.trans d1;have n:ObjI w0.heap.size rb mb ob bb a V:=ObjI.keep hrb h0 h1 h2 ⟨m,G,I3.o⟩ d1;clear d3 I T co I3 S3 m G;obtain⟨m,G,p,i2,i3,i4,i5,y,D⟩:=n;obtain⟨T,_⟩:=aj i2;obtain⟨co,_⟩:=aj p;have n:=ae (An p (An i2 (An i3 (An i4 (An i5 (An y D))))));clear p i2 i3 i4 i5 y D
     cases hvp:az false (6 - d) q with
     |none=>
      have VP:Hid (az false (6 - d) (ah s U)=none):=by rw[D3.o];exact hvp
      have PN:Hid (bq false (az false (6 - d)) a l=none):=by rw[PM.o,hvp];rfl
      clear hvp;go_wp2_with fail
      refine wp_region_any (by kernel_rfl) ?_;change wpAny _ _ _ _ _ _ _ (World.drew _)
      refine wpAny_take (i:=1) (v:=.string ⟨key.toArray⟩) rfl (by kernel_rfl) (by kernel_rfl) (by kernel_rfl) (fun _ _ _ h=>h) (Or.inl ⟨by rfl, ?_⟩) ?_
      ·intro w
       go_simp
      refine wpAny_ready (rs:=[0,2]) (by kernel_rfl) (by simp) ?_;refine AllReady.cons rfl (fun K hK=> ?_) ?_
      ·go_simp
       refine hK _ _ ?_;clear hK K;refine wpAny_ready (rs:=[2]) (by kernel_rfl) (by simp) ?_;refine AllReady.cons rfl (fun K hK=> ?_) AllReady.nil;go_simp
       refine hK _ _ ?_;clear hK K;refine wpAny_ready (rs:=[3]) (by kernel_rfl) (by simp) ?_;refine AllReady.cons rfl (fun K hK=> ?_) AllReady.nil
       (refine dG rfl 109 #[.pointer (some ⟨rb,0,none⟩)] (by go_simp) ?_;refine (hv rb s U _ (Q.drewN 1)).mono ?_;rintro e L ⟨P,A⟩;have H:Kp (· =rb) V L:=((Kp.refl _ _).drewN 1).trans P;rw[VP.o]at A;obtain⟨f,E,g,b,rfl,N⟩:=A;exact⟨rfl,dR PN.o ⟨O.trans H,f,E,g,b,rfl,Nat.le_trans O.size N.1,N.2⟩⟩)
      refine AllReady.cons rfl (fun K hK=> ?_) AllReady.nil;go_simp
      refine hK _ _ ?_;clear hK K;refine wpAny_ready (rs:=[0,3]) (by kernel_rfl) (by simp) ?_;refine AllReady.cons rfl (fun K hK=> ?_) ?_
      ·go_simp
       refine hK _ _ ?_;clear hK K;refine wpAny_ready (rs:=[3]) (by kernel_rfl) (by simp) ?_;refine AllReady.cons rfl (fun K hK=> ?_) AllReady.nil
       (refine dG rfl 109 #[.pointer (some ⟨rb,0,none⟩)] (by go_simp) ?_;refine (hv rb s U _ (Q.drewN 1)).mono ?_;rintro e L ⟨P,A⟩;have H:Kp (· =rb) V L:=((Kp.refl _ _).drewN 1).trans P;rw[VP.o]at A;obtain⟨f,E,g,b,rfl,N⟩:=A;exact⟨rfl,dR PN.o ⟨O.trans H,f,E,g,b,rfl,Nat.le_trans O.size N.1,N.2⟩⟩)
      refine AllReady.cons rfl (fun K hK=> ?_) AllReady.nil
      (refine dG rfl 109 #[.pointer (some ⟨rb,0,none⟩)] (by go_simp) ?_;refine (hv rb s U _ (Q.drewN 1)).mono ?_;rintro e L ⟨P,A⟩;have H:Kp (· =rb) V L:=((Kp.refl _ _).drewN 1).trans P;rw[VP.o]at A;obtain⟨f,E,g,b,rfl,N⟩:=A;exact⟨rfl,dR PN.o ⟨O.trans H,f,E,g,b,rfl,Nat.le_trans O.size N.1,N.2⟩⟩)
     |some z=>
      obtain⟨j,rr⟩:=z;have VP:Hid (az false (6 - d) (ah s U)=some (j,rr)):=by rw[D3.o];exact hvp
      have PN:Hid (bq false (az false (6 - d)) a l=some (a ++[(key,j)],rr)):=by rw[PM.o,hvp];rfl
      clear hvp;go_wp2_with fail
      go_region_law (refine dG rfl 109 #[.pointer (some ⟨rb,0,none⟩)] (by go_simp) ?_;refine (hv rb s U _ (Q.drewN 1)).mono ?_;rintro e L ⟨P,A⟩;have H:Kp (· =rb) V L:=((Kp.refl _ _).drewN 1).trans P;rw[VP.o]at A;obtain⟨vv,k5,rfl,g3,g4,g5⟩:=A;obtain⟨tt,u,rfl⟩:=Rep.iface g3;have ak:L.heap[ob]? =some (.cells #[.map (some mb)] 71):=(H.block ob (ag n.o.1) (by omega)).trans n.o.1;obtain⟨an,_⟩:=aj ak;have ac:=ay n.o.2.2.1 (H.block mb n.o.2.2.1.lt (by omega));obtain⟨w6,al,ad,F⟩:=ac.store ed underlying71 (by have:=n.o.2.2.2.2.2.2;unfold maxLen;omega) (xf aa) (val:=.iface tt u) (d:=.held (.iface tt u)) (ps:=[]) rfl)
      all_goals
       have Z:=ae (BW hrb h0 h1 h2 hne n.o.1 n.o.2.1 n.o.2.2.1 n.o.2.2.2.1 n.o.2.2.2.2.1 n.o.2.2.2.2.2.1 n.o.2.2.2.2.2.2 LQ.o H g3 F.grown ad);have B6:Kp (fun k=>k=mb) L w6:=(Kp.refl _ _).grown F.grown (fun k hk _=>by injection hk with hk;exact hk.symm);have S6:St W w6 rb s k5 d:=g4.keep B6 (fun i hi=>by have:=Q.old.size;have:=Q.ge;omega) (by omega);have K6:Kp (· =rb) w0 w6:=(O.trans H).and B6 (fun i hi e=>by omega);clear al;go_wp2;go_end0
       exact kN PN.o K6 Z.o S6 g5
    ·have HC:=ae M
     clear M;go_wp2_with fail
     refine (ur W rb s k3 d _ S3 58 58 rfl (by decide) (by rw[X.o.2];exact HC.o)).mono ?_;rintro e V ⟨d1,d2⟩;obtain⟨f,E,g,b,rfl,q⟩:=d2;refine⟨rfl,dR ?_ ⟨K3.trans d1,f,E,g,b,rfl,Nat.le_trans K3.size q.1,q.2⟩⟩;unfold bq;rw[HT.o];simp only[if_true,X.o.1,LQ.o,Option.isSome_none,Bool.false_eq_true,if_false]
     cases hst:sk r with
     |nil=>rfl
     |cons c q=>
      have:=HC.o;rw[hst]at this;simp only[List.head?_cons,Option.some.injEq]at this;simp[this]
 ·have Y:=ae C
  clear C;go_wp2_with fail
  refine (vC W rb s k2 d _ S2 (by rw[A3.o];exact Y.o)).mono ?_;rintro e w3 ⟨b1,S⟩;obtain⟨f,E,g,b,rfl,q⟩:=S;refine⟨rfl,dR ?_ ⟨K2.trans b1,f,E,g,b,rfl,Nat.le_trans K2.size q.1,q.2⟩⟩;unfold bq
  cases hst:sk l with
  |nil=>rfl
  |cons c q=>
   have:=Y.o;rw[hst]at this;simp only[List.head?_cons,Option.some.injEq]at this;simp[this]
theorem ux(u:Bool)(pv:Bs→Option (J×Bs))(a:List (Bs×J))(l:List UInt8):bq u pv a (sk l)=bq u pv a l:=by simp only[bq,oM]
theorem BX(W:World)(rb:Nat)(s:ByteArray)(d:Nat)(hv:jn W d)(w0:World)(mb ob bb:Nat)(hrb:rb < w0.heap.size)(h0:w0.heap.size≤mb)(h1:w0.heap.size≤ob)(h2:w0.heap.size≤bb)(hne:mb≠ob∧mb≠bb∧ob≠bb):
  One W rb s d w0 (bq false (az false (6 - d))) (ObjI w0.heap.size rb mb ob bb) List.length 203 (.pointer (some ⟨bb,0,none⟩)) (.pointer (some ⟨ob,0,none⟩)) where
 keep x w1 w2 h hk:=h.keep hrb h0 h1 h2 hk
 shr:=ns (iv _)
 skp x l:=ux _ _ _ _
 ent w:=by kernel_rfl
 inc x l y r h:=by
  unfold bq at h
  repeat' split at h
  all_goals first | (cases h;done) | skip
  simp only[Option.map_eq_some_iff,Prod.mk.injEq]at h;obtain⟨z,_,rfl,_⟩:=h;simp
 call x w1 k1 hm hr hI hk:=Dy W rb s d hv w0 mb ob bb hrb h0 h1 h2 hne x w1 k1 hm hr hI hk
theorem zD(W:World)(rb:Nat)(s:ByteArray)(d:Nat)(hd:d < 6)(hv:jn W (d+1))(k:Nat)(w:World)(hr:St W w rb s k d)(t:List UInt8)(hl:sk (ah s k)=123 :: t):
  Calls prog 159 #[.pointer (some ⟨rb,0,none⟩)] w fun e w'=>
   Res W rb s d w (bD (bq false (az false (6 - (d+1)))) 125 [] t) (fun w' l v=>Rep w' (fun b=>w.heap.size≤b∧b < w'.heap.size) (.obj (ofL l)) (.iface 71 v)) e w':=by
 have n:rb < w.heap.size:=hr.rdr.facts.2.2.2.2.2;have B:=ae hl;have j:= @run_makeMap prog;clear hl;go_enter func159,ntmps159;go_wp2_with fail
 clear j;have u:Kp (· =rb) w (((w.alloc (.cells #[.pointer (some ⟨rb,0,none⟩)] 201)).alloc (.map #[] 0)).alloc (.cells #[.map (some (w.heap.size+1))] 71)):=(((Kp.refl _ _).alloc _).alloc _).alloc _;have x:=hr.keep (S:=fun _=>False) ((((Kp.refl _ _).alloc (.cells #[.pointer (some ⟨rb,0,none⟩)] 201)).alloc (.map #[] 0)).alloc (.cells #[.map (some (w.heap.size+1))] 71)) (by simp) (by simp)
 have p:ObjI w.heap.size rb (w.heap.size+1) (w.heap.size+1+1) w.heap.size [] (((w.alloc (.cells #[.pointer (some ⟨rb,0,none⟩)] 201)).alloc (.map #[] 0)).alloc (.cells #[.map (some (w.heap.size+1))] 71)):=by
  refine⟨[],fun _=>False,pX w _ _ _,pW w _ _ _, ?_,by simp only[ofL,List.foldl_nil];rw[Repm],by simp,by simp[Nod],by simp⟩;have E:=World.ownsMap_made (w.alloc (.cells #[.pointer (some ⟨rb,0,none⟩)] 201)) prog 9 Rv;refine ay (w:=(w.alloc (.cells #[.pointer (some ⟨rb,0,none⟩)] 201)).alloc (.map #[] 0)) ?_ (Below.heap_alloc _ _ _ (by simp));simpa[dm] using E
 refine (qs W rb s k d w _ _ _ _ _ _ _ (BX W rb s (d+1) hv w (w.heap.size+1) (w.heap.size+1+1) w.heap.size n (by omega) (by omega) (Nat.le_refl _) ⟨by omega,by omega,by omega⟩) x [] rfl p u hd 123 125 123 125 rfl rfl (by decide) (by decide) t B.o).mono ?_;rintro e w2 ⟨y,f⟩;clear p u x
 cases hp:bD (bq false (az false (6 - (d+1)))) 125 [] t with
 |none=>
  rw[hp]at f;obtain⟨i,H,g,h,rfl,q⟩:=f;exact⟨rfl,aX hp ⟨y,i,H,g,h,rfl,q⟩⟩
 |some z=>
  obtain⟨l,r⟩:=z;rw[hp]at f;obtain⟨rfl,⟨m,G,A,i2,i3,i4,i5,F,J⟩,K,C,c⟩:=f
  have a:Rep w2 (fun b=>w.heap.size≤b∧b < w2.heap.size) (.obj (ofL l)) (.iface 71 (.map (some (w.heap.size+1)))):=by
   rw[Rep];exact⟨w.heap.size+1,m,rfl,⟨by omega,i3.lt⟩,i3,Repm.mono (fun k hk=>⟨(i5 k hk).1,(i5 k hk).2.1⟩) _ i4⟩
  obtain⟨I,D⟩:=aj A;have Z:=ae (An a (An c hp));clear A i2 i3 i4 i5 F a c hp D;go_wp2;go_ret;exact aU Z.o.2.2 y Z.o.1 C Z.o.2.1
theorem ww(f:FuncId)(W:World)(rb:Nat)(s:ByteArray)(k:Nat)(w:World)(hr:St W w rb s k 6)(t:List UInt8)(q:UInt8)(hl:sk (ah s k)=q :: t)(m:(f=159∧q=123)∨(f=160∧q=91)):
  Calls prog f #[.pointer (some ⟨rb,0,none⟩)] w fun e w'=>Kp (· =rb) w w'∧eP W w w' e:=by
 rcases m with⟨rfl,rfl⟩ | ⟨rfl,rfl⟩
 ·have d:=ae hl
  have j:= @run_makeMap prog;clear hl;go_enter func159,ntmps159;go_wp2_with fail
  clear j;have h:=hr.keep (S:=fun _=>False) ((((Kp.refl _ _).alloc (.cells #[.pointer (some ⟨rb,0,none⟩)] 201)).alloc (.map #[] 0)).alloc (.cells #[.map (some (w.heap.size+1))] 71)) (by simp) (by simp);have c:Kp (· =rb) w (((w.alloc (.cells #[.pointer (some ⟨rb,0,none⟩)] 201)).alloc (.map #[] 0)).alloc (.cells #[.map (some (w.heap.size+1))] 71)):=(((Kp.refl _ _).alloc _).alloc _).alloc _;refine (lS W rb s k _ h _ 123 125 123 rfl t d.o).mono ?_;rintro e w2 ⟨i,b,l,g,a,rfl,q⟩;exact⟨rfl,c.trans i,b,l,g,a,rfl,Nat.le_trans c.size q.1,q.2⟩
 ·have d:=ae hl
  clear hl;go_enter func160,ntmps160;go_wp2_with fail
  have h:=hr.keep (S:=fun _=>False) ((((Kp.refl _ _).alloc (.cells #[.pointer (some ⟨rb,0,none⟩)] 201)).alloc (.cells #[] 59)).alloc (.cells #[.slice (some ⟨w.heap.size+1,0,none⟩) 0 0] 228)) (by simp) (by simp);have c:Kp (· =rb) w (((w.alloc (.cells #[.pointer (some ⟨rb,0,none⟩)] 201)).alloc (.cells #[] 59)).alloc (.cells #[.slice (some ⟨w.heap.size+1,0,none⟩) 0 0] 228)):=(((Kp.refl _ _).alloc _).alloc _).alloc _;refine (lS W rb s k _ h _ 91 93 91 rfl t d.o).mono ?_;rintro e w2 ⟨i,b,l,g,a,rfl,q⟩;exact⟨rfl,c.trans i,b,l,g,a,rfl,Nat.le_trans c.size q.1,q.2⟩
theorem zK{n:Nat}{l t:List UInt8}(h:sk l=123 :: t):az false (n+1) l=(bD (bq false (az false n)) 125 [] t).map fun x=>(.obj (ofL x.1),x.2):=by rw[az,h];rfl
theorem zI{n:Nat}{l t:List UInt8}(h:sk l=91 :: t):az false (n+1) l=(bD (pEl (az false n)) 93 [] t).map fun x=>(.arr x.1,x.2):=by rw[az,h];rfl
theorem qh{l t:List UInt8}{c:UInt8}(h:sk l=c :: t)(hc:c=123∨c=91):az false 0 l=none:=by rw[az,h];simp[hc]
theorem zL{n:Nat}{l t:List UInt8}{c:UInt8}(h:sk l=c :: t)(h1:c≠123)(h2:c≠91):az false n l=cE false c t:=by
 cases n <;> rw[az,h] <;> simp[h1,h2]
theorem zJ{n:Nat}{l:List UInt8}(h:sk l=[]):az false n l=none:=by
 cases n <;> rw[az,h]
theorem zW{w:World}{F:Nat→Prop}{x:J}{v:Value}(h:AG x v):Rep w F x v:=by
 rcases h with⟨rfl,rfl⟩ | ⟨b,rfl,rfl⟩ <;> rw[Rep]
theorem Cq{w:World}{F:Nat→Prop}{o:Bs}:Rep w F (.str o) (.iface 137 (.string ⟨o.toArray⟩)):=by rw[Rep]
theorem uJ{w:World}{F:Nat→Prop}{n:Int}:Rep w F (.num n) (.iface 224 (.int .i64 n)):=by rw[Rep]
theorem oQ(W:World)(d:Nat)(hd:d≤6)(hv:d < 6→jn W (d+1)):jn W d:=by
 intro B s k w hr;generalize hl:ah s k=l;have HL:=ae hl;clear hl;have HV:=ae hv;clear hv
 cases hsk:sk l with
 |nil=>
  have G:=ae hsk;clear hsk;go_enter func109,ntmps109;go_wp2_with fail
  refine (gi W B s k d _ hr).mono ?_;rintro e w1 ⟨rfl,X,m,Q,a3⟩;have C:Hid (ah s m=[]):=by rw[HL.o,G.o]at a3;exact a3
  clear a3;go_wp2_with fail
  refine (jO W B s m d _ Q 0 (by rw[C.o];rfl)).mono ?_;rintro e w2 ⟨rfl,H,Y⟩;have h:=X.trans Y;clear Q;have z0:((0:UInt8).toNat:Int)=0:=rfl;rw[z0];go_wp2_with fail
  refine (eS _ 0).mono ?_;rintro e w3 ⟨rfl,rfl⟩;have z1:aW 0=false:=rfl;rw[z1];go_wp2_with fail
  refine (yo W B s m d _ H).mono ?_;rintro e w3 ⟨i,f⟩;have z2:b7 (ah s m)=none:=by rw[C.o];rfl
  rw[z2]at f;obtain⟨b,n,g,a,rfl,q⟩:=f;exact⟨rfl,aX (zJ G.o) ⟨h.trans i,b,n,g,a,rfl,Nat.le_trans h.size q.1,q.2⟩⟩
 |cons c t=>
  have G:=ae hsk;clear hsk;go_enter func109,ntmps109;go_wp2_with fail
  refine (gi W B s k d _ hr).mono ?_;rintro e w1 ⟨rfl,X,m,Q,a3⟩;have C:Hid (ah s m=c :: t):=by rw[HL.o,G.o]at a3;exact a3
  clear a3;have L:sk (c :: t)=c :: t:=by rw[←G.o,oM]
  have U:=ae L;clear L;have aa:c.toNat < 256:=c.toNat_lt;go_wp2_with fail
  refine (jO W B s m d _ Q c (ek C.o).2.1).mono ?_;rintro e w2 ⟨rfl,H,Y⟩;have h:=X.trans Y;clear Q;by_cases u:c=123
  ·subst u
   by_cases E:d < 6
   ·go_wp2_with fail
    refine (zD W B s d E (HV.o E) m _ H t (by rw[C.o];exact U.o)).mono ?_;rintro e w3 ⟨i,f⟩;have D:az false (6 - d) l=(bD (bq false (az false (6 - (d+1)))) 125 [] t).map fun x=>(.obj (ofL x.1),x.2):=by rw[show 6 - d=(6 - (d+1))+1 by omega];exact zK G.o
    cases hp:bD (bq false (az false (6 - (d+1)))) 125 [] t with
    |none=>
     rw[hp]at f D;obtain⟨b,n,g,a,rfl,q⟩:=f;exact⟨rfl,aX D ⟨h.trans i,b,n,g,a,rfl,Nat.le_trans h.size q.1,q.2⟩⟩
    |some z=>
     obtain⟨y,r⟩:=z;rw[hp]at f D;obtain⟨v,R,rfl,M,F,p⟩:=f;have Z:=ae (An D (An M p));clear D hp M p;go_wp2;go_ret;exact aU Z.o.1 (h.trans i) (Rep.mono (fun k hk=>⟨Nat.le_trans h.size hk.1,hk.2⟩) _ Z.o.2.1) F Z.o.2.2
   ·obtain rfl:d=6:=by omega
    go_wp2_with fail
    refine (ww 159 W B s m _ H t 123 (by rw[C.o];exact U.o) (Or.inl ⟨rfl,rfl⟩)).mono ?_;rintro e w3 ⟨i,b,n,g,a,rfl,q⟩;exact⟨rfl,aX (qh G.o (Or.inl rfl)) ⟨h.trans i,b,n,g,a,rfl,Nat.le_trans h.size q.1,q.2⟩⟩
  have ac:((c.toNat:Int) == 123)=false:=u8n u;have P:=ae u;clear u;by_cases J:c=91
  ·subst J
   by_cases E:d < 6
   ·go_wp2_with fail
    refine (Bh W B s d E (HV.o E) m _ H t (by rw[C.o];exact U.o)).mono ?_;rintro e w3 ⟨i,f⟩;have D:az false (6 - d) l=(bD (pEl (az false (6 - (d+1)))) 93 [] t).map fun x=>(.arr x.1,x.2):=by rw[show 6 - d=(6 - (d+1))+1 by omega];exact zI G.o
    cases hp:bD (pEl (az false (6 - (d+1)))) 93 [] t with
    |none=>
     rw[hp]at f D;obtain⟨b,n,g,a,rfl,q⟩:=f;exact⟨rfl,aX D ⟨h.trans i,b,n,g,a,rfl,Nat.le_trans h.size q.1,q.2⟩⟩
    |some z=>
     obtain⟨y,r⟩:=z;rw[hp]at f D;obtain⟨v,R,rfl,M,F,p⟩:=f;have Z:=ae (An D (An M p));clear D hp M p;go_wp2;go_ret;exact aU Z.o.1 (h.trans i) (Rep.mono (fun k hk=>⟨Nat.le_trans h.size hk.1,hk.2⟩) _ Z.o.2.1) F Z.o.2.2
   ·obtain rfl:d=6:=by omega
    go_wp2_with fail
    refine (ww 160 W B s m _ H t 91 (by rw[C.o];exact U.o) (Or.inr ⟨rfl,rfl⟩)).mono ?_;rintro e w3 ⟨i,b,n,g,a,rfl,q⟩;exact⟨rfl,aX (qh G.o (Or.inr rfl)) ⟨h.trans i,b,n,g,a,rfl,Nat.le_trans h.size q.1,q.2⟩⟩
  have af:((c.toNat:Int) == 91)=false:=u8n J;have e1:az false (6 - d) l=cE false c t:=zL G.o P.o J;have K:=ae e1;clear J e1;by_cases I:c=34
  ·subst I
   go_wp2_with fail
   refine (rU W B s m d _ H t C.o).mono ?_;rintro e w3 ⟨i,f⟩
   cases hp:br false t with
   |none=>
    rw[hp]at f;obtain⟨b,n,g,a,rfl,q⟩:=f;exact⟨rfl,aX (by rw[K.o];simp[cE,hp]) ⟨h.trans i,b,n,g,a,rfl,Nat.le_trans h.size q.1,q.2⟩⟩
   |some z=>
    obtain⟨y,r⟩:=z;rw[hp]at f;obtain⟨v,R,rfl,⟨rfl,_⟩,F,p⟩:=f;have Z:=ae (An hp p);clear hp p;go_wp2;go_ret;exact aU (x:=.str y) (r:=r) (by rw[K.o];simp[cE,Z.o.1]) (h.trans i) Cq F Z.o.2
  have ad:((c.toNat:Int) == 34)=false:=u8n I;have N:=ae I;clear I
  cases hdg:aW c with
  |true=>
   have S:((c.toNat:Int) == 45)=false:=by
    have ab:c≠45:=by rintro rfl;exact absurd hdg (by decide)
    exact u8n ab
   have O:Hid (c=45∨aW c=true):=Or.inr hdg;have T:=ae hdg;clear hdg;go_wp2_with fail
   refine (eS _ c).mono ?_;rintro e w3 ⟨rfl,rfl⟩;rw[T.o];go_wp2_with fail
   refine (rD W B s m d _ H c t C.o O.o).mono ?_;rintro e w3 ⟨i,f⟩;have j:cE false c t=(eA (c :: t)).map fun x=>(.num x.1,x.2):=by rw[cE,if_neg N.o,if_pos O.o]
   cases hp:eA (c :: t) with
   |none=>
    rw[hp]at f j;obtain⟨b,n,g,a,rfl,q⟩:=f;exact⟨rfl,aX (K.o.trans j) ⟨h.trans i,b,n,g,a,rfl,Nat.le_trans h.size q.1,q.2⟩⟩
   |some z=>
    obtain⟨y,r⟩:=z;rw[hp]at f j;obtain⟨v,R,rfl,rfl,F,p⟩:=f;have Z:=ae (An (K.o.trans j) p);clear hp p j;go_wp2;go_ret;exact aU Z.o.1 (h.trans i) uJ F Z.o.2
  |false=>
   have T:=ae hdg;clear hdg;by_cases A:c=45
   ·have S:((c.toNat:Int) == 45)=true:=by subst A;rfl
    have O:Hid (c=45∨aW c=true):=Or.inl A;clear A;go_wp2_with fail
    refine (rD W B s m d _ H c t C.o O.o).mono ?_;rintro e w3 ⟨i,f⟩;have j:cE false c t=(eA (c :: t)).map fun x=>(.num x.1,x.2):=by rw[cE,if_neg N.o,if_pos O.o]
    cases hp:eA (c :: t) with
    |none=>
     rw[hp]at f j;obtain⟨b,n,g,a,rfl,q⟩:=f;exact⟨rfl,aX (K.o.trans j) ⟨h.trans i,b,n,g,a,rfl,Nat.le_trans h.size q.1,q.2⟩⟩
    |some z=>
     obtain⟨y,r⟩:=z;rw[hp]at f j;obtain⟨v,R,rfl,rfl,F,p⟩:=f;have Z:=ae (An (K.o.trans j) p);clear hp p j;go_wp2;go_ret;exact aU Z.o.1 (h.trans i) uJ F Z.o.2
   have S:((c.toNat:Int) == 45)=false:=u8n A;have V:=ae A;clear A;go_wp2_with fail
   refine (eS _ c).mono ?_;rintro e w3 ⟨rfl,rfl⟩;rw[T.o];go_wp2_with fail
   refine (yo W B s m d _ H).mono ?_;rintro e w3 ⟨i,f⟩;have j:cE false c t=b7 (ah s m):=by rw[cE,if_neg N.o,if_neg (by rw[T.o];simpa using V.o),C.o]
   cases hp:b7 (ah s m) with
   |none=>
    rw[hp]at f j;obtain⟨b,n,g,a,rfl,q⟩:=f;exact⟨rfl,aX (K.o.trans j) ⟨h.trans i,b,n,g,a,rfl,Nat.le_trans h.size q.1,q.2⟩⟩
   |some z=>
    obtain⟨y,r⟩:=z;rw[hp]at f j;obtain⟨v,R,rfl,M,F,p⟩:=f;have Z:=ae (An (K.o.trans j) (An M p));clear hp M p j;go_wp2;go_ret;exact aU Z.o.1 (h.trans i) (zW Z.o.2.1) F Z.o.2.2
theorem CQ(W:World):∀n d,d+n=6→jn W d:=by
 intro n
 induction n with
 |zero=>intro d h;exact oQ W d (by omega) (fun h'=>by omega)
 |succ n ih=>intro d h;exact oQ W d (by omega) (fun _=>ih (d+1) (by omega))
end
end Go.Proofs.YtocligpfmfmihaaGreatDoor
