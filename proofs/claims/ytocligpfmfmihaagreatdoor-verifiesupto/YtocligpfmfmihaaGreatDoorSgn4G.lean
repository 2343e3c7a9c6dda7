import Derived.Test.YtocligpfmfmihaaGreatDoorPr12G
import Derived.Deep.RegionHeld
set_option maxHeartbeats 4000000
set_option maxRecDepth 20000
namespace Go.Proofs.YtocligpfmfmihaaGreatDoor
open Go.Proofs.Tryz
section
open Go Go.RowKit Go.Maps Go.WideMaps
theorem qt{l:List (Bs×J)}{s:Bs}(hp:dk s=some (.obj l))(hl:s.length≤600)(sv id sig:Bs)(h1:sv.length≤2000000)(h2:id.length≤2000000)(h3:sig.length≤2000000):
  cnt (.obj (eM l sv id sig))≤2000∧(cJ (.obj (eM l sv id sig))).length≤90000000:=by
 have c:=eD hp;have a:=fS (.obj l);simp only[cnt]at a ⊢;have e:=hZ kSig l;have f:=hZ sv (aq kSig l);have d:=jW id (.str sig) (aq sv (aq kSig l));have i2:=jW sv (.obj (aC id (.str sig) (aq sv (aq kSig l)))) (aq kSig l);have i3:=jW kSig (.obj (aC sv (.obj (aC id (.str sig) (aq sv (aq kSig l)))) (aq kSig l))) l;simp only[cnt]at d i2 i3;have t0:=(ix l).2;have o:=qv kSig l;have t2:=qv sv (aq kSig l);have u1:=mp id (.str sig) (aq sv (aq kSig l));have u2:=mp sv (.obj (aC id (.str sig) (aq sv (aq kSig l)))) (aq kSig l);have u3:=mp kSig (.obj (aC sv (.obj (aC id (.str sig) (aq sv (aq kSig l)))) (aq kSig l))) l;have g:=(ix (aC id (.str sig) (aq sv (aq kSig l)))).1;have h:=(ix (aC sv (.obj (aC id (.str sig) (aq sv (aq kSig l)))) (aq kSig l))).1;have b:=(ix (eM l sv id sig)).1;have i:=l4 id;have j:=l4 sig;have k:=l4 sv;have m:=l4 kSig;have n:kSig.length=10:=rfl;simp only[aD,List.length_append,List.length_cons]at u1 u2 u3;have z:(cJ (.str sig)).length=(cU sig).length:=by rw[cJ]
 rw[z]at u1;unfold eM at b ⊢;constructor
 ·omega
 ·omega
end
section
open Go Go.RowKit Go.Maps Go.WideMaps Go.MuLone
attribute [local go_sem] Oper.semAt_some
theorem pi(w:World)(F:Nat→Prop)(kb:Nat)(st:Ldg)(c:Nat)(h:KN w F kb st c)(s i:Bs)(hs:s.length≤2000000)(hi:i.length≤2000000)(at':Int):
  Calls prog 64 #[.pointer (some ⟨kb,0,none⟩),.string ⟨s.toArray⟩,.string ⟨i.toArray⟩,.int .i64 at'] w fun e w'=>e=.returned (.tuple #[.string ⟨((bT st s i at').getD []).toArray⟩,.bool (bT st s i at').isSome])∧Kp (fun _=>False) w w':=by
 obtain⟨j,g,d,o,l,m,k,a⟩:=h;have b:=a.look s
 cases hd:st.docs s with
 |none=>
  rw[hd]at b;have n:bT st s i at'=none:=by unfold bT;rw[a.non s hd i];rfl
  rw[n];refine (zj w kb j g d.length d a.kblk a.ms s i hs at' b).mono ?_;rintro e w' ⟨rfl,rfl⟩;exact⟨rfl,Kp.refl _ _⟩
 |some t=>
  rw[hd]at b;have f:=(a.srv s t hd).1;exact xe w kb j g d.length (l s) (m s) (k s).length t d (k s) a.kblk a.ms s i hs hi at' b f.blk f.own (st.keys s i) (f.look i)
theorem D1(w:World)(F:Nat→Prop)(nb:Nat)(nm id ky:Bs)(srcs:List Bs)(st:Ldg)(c:Nat)(hP:PN w F nb nm id ky srcs st c)(s i:Bs)(hs:s.length≤2000000)(hi:i.length≤2000000)(at':Int):
  Calls prog 32 #[.pointer (some ⟨nb,0,none⟩),.string ⟨s.toArray⟩,.string ⟨i.toArray⟩,.int .i64 at'] w fun e w'=>e=.returned (.tuple #[.string ⟨((bT st s i at').getD []).toArray⟩,.bool (bT st s i at').isSome])∧Kp (fun _=>False) w w':=by
 obtain⟨a,f,l,hp⟩:=hP;have b:=ae (pi w a f st c hp.kn s i hs hi at');obtain⟨g,h,n2,j,k⟩:=cX hp.nblk;clear hp;go_enter func32,ntmps32;go_wp2_with fail
 refine b.o.mono ?_;rintro e w' ⟨rfl,K⟩;have d:=ae K;clear K;go_wp2;go_ret2
 exact⟨rfl,d.o⟩
theorem Bx{W w:World}(hN:NG3 W){a:Addr}(ha:W.cell? ⟨3,0,none⟩=some (ax a)):Chd W w (ax a) 8:=by
 obtain⟨e,c,t,b,d⟩:=hN.n2.lay 3 (by simp[bh]);rw[ha]at b;unfold ax at b;injection b with b
 injection b with _ b
 injection b with b
 injection b with b
 subst b;exact⟨a,[],.nil,⟨c,t,d⟩,hN.dis _ (by simp[bh]) _ (by simp[bh]) (by decide) a ha,hN.dis _ (by simp[bh]) _ (by simp[bh]) (by decide) a ha,.unk (by simp) (hN.dis _ (by simp[bh]) _ (by simp[bh]) (by decide) a ha) (by simp) ha⟩
theorem xm(W:World)(hN:NG3 W)(w:World)(hW:Below W.heap.size W w)(F:Nat→Prop)(kb:Nat)(hkW:W.heap.size≤kb)(st:Ldg)(c:Nat)(h:KN w F kb st c)(s:Bs)(hs:s.length≤2000000):
  Calls prog 142 #[.pointer (some ⟨kb,0,none⟩),.string ⟨s.toArray⟩] w fun e w'=>Kp (fun _=>False) w w'∧match st.docs s with
   |none=>∃tt uu,e=.returned (.tuple #[.string ⟨#[]⟩,.iface tt uu])∧Chd W w' (.iface tt uu) 8
   |some t=>e=.returned (.tuple #[.string ⟨t.toArray⟩,.nilIface]):=by
 obtain⟨k,D,p,E,q,v,G,d⟩:=h
 obtain⟨ea,hea⟩:∃ea,W.cell? ⟨3,0,none⟩=some (ax ea):=by
  obtain⟨a,_,_,h,_⟩:=hN.n2.lay 3 (by simp[bh]);exact⟨a,h⟩
 obtain⟨l,x,y,m⟩:=gu d.kblk;obtain⟨z,A,B,C⟩:=fy d.kblk;have r:3 < W.heap.size:=bk hea
 have i:(held kb w).cell? ⟨3,0,none⟩=some (ax ea):=by
  have n:=Below.cl hW hea;unfold World.cell? at n ⊢;rw[bW (by show 3≠kb;omega)];exact n
 have b:=gG underlying168 vU (held kb w) p k p.length s (by omega) (ay d.ms (bW (bw d.ms d.kblk)));rw[d.look s]at b;have g:=ae (fun X (hX:Kp (fun _=>False) (held kb w) X)=>kx d.kblk hX);unfold ax at i
 cases hd:st.docs s with
 |none=>
  rw[hd]at b;replace b:(Instr.lookup 168 (.map (some k)) (.string ⟨s.toArray⟩) true).run prog (held kb w)=.ok (.tuple #[.pointer none,.bool false]) (held kb w):=b;unfold held at *;clear hd;go_enter_defers func142,ntmps142
  go_wp2_with (go_at_call 96;refine (lock_free Tryz.muLib ⟨kb,0,none⟩ _ l m).mono ?_;rintro e w' ⟨rfl,rfl⟩)
  go_region
  all_goals go_wp2
  all_goals refine leaves_cons (f:=97) (args:= #[.pointer (some ⟨kb,0,none⟩)]) (by simp) (by simp[go_sem]) ?_
  all_goals refine (unlock_deferred Tryz.muLib ⟨kb,0,none⟩ .returning _ (g.o _ (Kp.refl _ _).drew).1 (g.o _ (Kp.refl _ _).drew).2.1).mono ?_
  all_goals rintro e u w'' ⟨rfl,rfl,rfl⟩
  all_goals exact⟨_,results_tmp2 rfl _ _ _,(g.o _ (Kp.refl _ _).drew).2.2,_,_,rfl,Bx hN hea⟩
 |some t=>
  rw[hd]at b;replace b:(Instr.lookup 168 (.map (some k)) (.string ⟨s.toArray⟩) true).run prog (held kb w)=.ok (.tuple #[.pointer (some ⟨q s,0,none⟩),.bool true]) (held kb w):=b;have j:=(d.srv s t hd).1;obtain⟨H,I,_⟩:=fd ((bW (oN j.blk d.kblk)).trans j.blk);clear j hd;unfold held at *;go_enter_defers func142,ntmps142
  go_wp2_with (go_at_call 96;refine (lock_free Tryz.muLib ⟨kb,0,none⟩ _ l m).mono ?_;rintro e w' ⟨rfl,rfl⟩)
  refine leaves_cons (f:=97) (args:= #[.pointer (some ⟨kb,0,none⟩)]) (by simp) (by simp[go_sem]) ?_;refine (unlock_deferred Tryz.muLib ⟨kb,0,none⟩ .returning _ (g.o _ (Kp.refl _ _)).1 (g.o _ (Kp.refl _ _)).2.1).mono ?_;rintro e u w'' ⟨rfl,rfl,rfl⟩;exact⟨_,results_tmp2 rfl _ _ _,(g.o _ (Kp.refl _ _)).2.2,rfl⟩
theorem lR(a b:ByteArray):(cQ a b).size=8:=by
 unfold cQ iD;show (List.toArray _).size=8
 simp
def CoR(W w:World)(t nm id ky:Bs)(e:Ending)(w':World):Prop:=Kp (fun _=>False) w w' ∧
 ((∃n tt uu,aM t=.error n∧e=.returned (.tuple #[.map none,.iface tt uu])∧EV W w' (.iface tt uu) n) ∨
  (∃l,aM t=.ok l∧SgR W w l nm id (cQ ⟨ky.toArray⟩ ⟨(aA l).toArray⟩).data.toList e w'))
theorem qz(W:World)(hN:NG W)(w:World)(hW:Below W.heap.size W w)(nb kb:Nat)(nm id ky:Bs)(so:Value)(K:w.heap[nb]? =some (me nm id ky so kb))(t:Bs)(h1:nm.length≤2000000)(h2:id.length≤2000000)(h3:ky.length≤2000000):
  Calls prog 143 #[.pointer (some ⟨nb,0,none⟩),.string ⟨t.toArray⟩] w fun e w'=>CoR W w t nm id ky e w':=by
 have M:(⟨t.toArray⟩:ByteArray).data.toList=t:=by simp
 have H:=ae (iT W hN ⟨t.toArray⟩ w hW);rw[M]at H;clear M;go_enter func143,ntmps143;go_wp2_with fail
 refine H.o.mono ?_;rintro e w1 ⟨v,⟨l,b,d,rfl,O⟩ | ⟨n,R,d,rfl,E,tt,u,rfl⟩⟩
 ·have I:Oz w1 l b:=Rep.mono (fun j hj=>hj.2) _ O
  obtain⟨hp,N⟩:=eX d;obtain⟨g,F⟩:=eD hp;have B:(cJ (.obj l)).length≤600:=Nat.le_trans F N;obtain⟨f1,f2,f3,f4⟩:=iY g B;have D:=fS (.obj l);simp only[cnt]at D;have C:bZ l≤1000000:=by omega
  have G:=v.heap K;obtain⟨Y,Z,n2,n3,n4⟩:=cX G;have c:=ae v;have L:=ae (An I (An d (An g C)));have p:Hid (∀X,Kp (fun _=>False) w1 X→Calls prog 40 #[.map (some b)] X fun e w'=>e=.returned (.string ⟨(aA l).toArray⟩)∧Kp (fun _=>False) X w'):=fun X hX=>jr W hN X (am hW (c.o.trans hX)) _ l b (I.up hX) (fun _ h=>h) f1 f2 f3
  obtain⟨tl,htl⟩:∃tl:Bs,cQ ⟨ky.toArray⟩ ⟨(aA l).toArray⟩=⟨tl.toArray⟩:=⟨_,rfl⟩
  have S:tl.length=8:=by
   have:=lR ⟨ky.toArray⟩ ⟨(aA l).toArray⟩;rw[htl,aN]at this;exact this
  have q:Hid (∀X,Calls prog 52 #[.string ⟨ky.toArray⟩,.string ⟨(aA l).toArray⟩] X fun e w'=>e=.returned (.string ⟨tl.toArray⟩)∧Kp (fun _=>False) X w'):=fun X=>by
   refine (nC ⟨ky.toArray⟩ ⟨(aA l).toArray⟩ X (by rw[aN];omega) (by rw[aN];omega)).mono ?_;rintro e w' ⟨rfl,K⟩;exact⟨by rw[htl],Kp.of_below K⟩
  have k:=ae htl
  have s:Hid (∀X,Kp (fun _=>False) w1 X→Calls prog 43 #[.map (some b),.string ⟨nm.toArray⟩,.string ⟨id.toArray⟩,.string ⟨tl.toArray⟩] X fun e w'=>SgR W X l nm id tl e w'):=fun X hX=>by
   have h:=ym W hN X (am hW (c.o.trans hX)) l b (I.up hX) g C ⟨nm.toArray⟩ ⟨id.toArray⟩ ⟨tl.toArray⟩ (by rw[aN];omega) (by rw[aN];omega) (by rw[aN];omega);simpa using h
  have a:Hid (∀X,Kp (fun _=>False) w1 X→Kp (fun _=>False) w1 X∧X.cell? ⟨nb,0,none⟩=some (.string ⟨nm.toArray⟩)∧X.cell? ⟨nb,1,none⟩=some (.string ⟨id.toArray⟩)∧X.cell? ⟨nb,2,none⟩=some (.string ⟨ky.toArray⟩)):=fun X hX=>by
   obtain⟨T,U,V,_⟩:=cX (hX.heap G);exact⟨hX,T,U,V⟩
  clear I d g hp N F B f1 f2 f3 f4 D O htl H v Y Z n2 n3 n4
  cases hvd:(Lib.validD nm && Lib.validD id && Lib.validD tl) with
  |true=>
   have r:=ae hvd;clear hvd;go_wp2_with fail
   go_region_held (fun X=>Kp (fun _=>False) w1 X∧X.cell? ⟨nb,0,none⟩=some (.string ⟨nm.toArray⟩)∧X.cell? ⟨nb,1,none⟩=some (.string ⟨id.toArray⟩)∧X.cell? ⟨nb,2,none⟩=some (.string ⟨ky.toArray⟩))
    (first | exact a.o _ (Kp.refl _ w1).drew | exact a.o _ f.o.1 | exact a.o _ i.o | exact a.o _ m.o)
    (first
      | (go_at_call 40;refine (p.o _ (Kp.refl _ w1).drew).mono ?_;rintro e w2 ⟨rfl,x⟩;have m:=ae (((Kp.refl (fun _=>False) w1).drew).trans x);clear x)
      | (go_at_call 52;refine (q.o _).mono ?_;rintro e w3 ⟨rfl,y⟩;have i:=ae (m.o.trans y);clear y)
      | (go_at_call 43;refine (s.o _ i.o).mono ?_;rintro e w4 ⟨z,A⟩;obtain⟨_,Q,rfl,P⟩:=A.resolve_right (by rintro⟨h,_⟩;rw[r.o]at h;cases h);have f:=ae (An (i.o.trans z) P);clear z A P))
   all_goals go_wp2
   all_goals go_ret2
   all_goals exact⟨c.o.trans f.o.1,Or.inr ⟨l,L.o.2.1,c.o.trans f.o.1,Or.inl ⟨by rw[k.o];simpa using r.o,Q,rfl,by rw[k.o];simpa using f.o.2⟩⟩⟩
  |false=>
   have r:=ae hvd;clear hvd;go_wp2_with fail
   go_region_held (fun X=>Kp (fun _=>False) w1 X∧X.cell? ⟨nb,0,none⟩=some (.string ⟨nm.toArray⟩)∧X.cell? ⟨nb,1,none⟩=some (.string ⟨id.toArray⟩)∧X.cell? ⟨nb,2,none⟩=some (.string ⟨ky.toArray⟩))
    (first | exact a.o _ (Kp.refl _ w1).drew | exact a.o _ f.o.1 | exact a.o _ i.o | exact a.o _ m.o)
    (first
      | (go_at_call 40;refine (p.o _ (Kp.refl _ w1).drew).mono ?_;rintro e w2 ⟨rfl,x⟩;have m:=ae (((Kp.refl (fun _=>False) w1).drew).trans x);clear x)
      | (go_at_call 52;refine (q.o _).mono ?_;rintro e w3 ⟨rfl,y⟩;have i:=ae (m.o.trans y);clear y)
      | (go_at_call 43;refine (s.o _ i.o).mono ?_;rintro e w4 ⟨z,A⟩;obtain⟨_,R,rfl,E,tt,uu,rfl⟩:=A.resolve_left (by rintro⟨h,_⟩;rw[r.o]at h;cases h);have f:=ae (An (i.o.trans z) E);clear z A E))
   all_goals go_wp2
   all_goals go_ret2
   all_goals exact⟨c.o.trans f.o.1,Or.inr ⟨l,L.o.2.1,c.o.trans f.o.1,Or.inr ⟨by rw[k.o];simpa using r.o,_,rfl,f.o.2,_,_,rfl⟩⟩⟩
 ·have J:=ae (An d (An E v))
  clear E d v H;go_wp2;go_ret2
  exact⟨J.o.2.2,Or.inl ⟨n,_,_,J.o.1,rfl,J.o.2.1⟩⟩
end
end Go.Proofs.YtocligpfmfmihaaGreatDoor
