import Derived.Test.YtocligpfmfmihaaGreatDoorSgn4G
set_option maxHeartbeats 4000000
set_option maxRecDepth 20000
namespace Go.Proofs.YtocligpfmfmihaaGreatDoor
open Go.Proofs.Tryz
section
open Go Go.RowKit Go.Maps
attribute [local go_sem] Oper.semAt_some
theorem xr(t:Bs):(bU t).1.length≤602:=by
 unfold bU
 cases ho:aM t with
 |error e=>show ([]:Bs).length≤_;simp
 |ok l=>
  obtain⟨hp,c⟩:=eX ho;have a:=eD hp;have b:=jT l;show (aA l).length≤_
  unfold aA;omega
theorem Bl{st:Ldg}{L:List Kn}{D:List (Bs×Bs)}{A:List (Bs×Int)}{s:Bs}{n:Nat}{p:Bs×Bs}(hA:Abs st L D A)(hp:D[n]? =some p)(hix:bv (isS s) D=some n):st.docs s=some p.2:=by
 obtain⟨q,a,c,b⟩:=fB hix;rw[hp]at a;injection a with a
 subst a;rw[hA.docs];unfold asc;rw[b];rfl
theorem yI{st:Ldg}{L:List Kn}{D:List (Bs×Bs)}{A:List (Bs×Int)}{s:Bs}(hA:Abs st L D A)(hix:bv (isS s) D=none):st.docs s=none:=by
 rw[hA.docs];unfold asc;rw[fA hix];rfl
def jC(W:World):Prop:=∀(s:ByteArray) (sv id sig:Bs),sv.length≤2000000→id.length≤2000000→sig.length≤2000000→∀w:World,Below W.heap.size W w →
  Calls prog 19 #[.string s,.string ⟨sv.toArray⟩,.string ⟨id.toArray⟩,.string ⟨sig.toArray⟩] w fun e w'=>e=.returned (.tuple #[.string ⟨(bB s.data.toList sv id sig).1.toArray⟩,.int .i64 ((bB s.data.toList sv id sig).2:Int)])∧Kp (fun _=>False) w w'
theorem xK(W:World)(hG:GL W)(hSg:jC W)(w:World)(hW:Below W.heap.size W w)(F:Nat→Prop)(b:Nat)(nm id ky:Bs)(so:Value)(st:Ldg)(c:Nat)(hR:RN w F b nm id ky so st c)(s:Bs)(h1:nm.length≤2000000)(h2:id.length≤2000000)(h3:ky.length≤2000000):
  Calls prog 87 #[.pointer (some ⟨b,0,none⟩),.string ⟨s.toArray⟩] w fun e w'=>CT w (cP st nm id ky s) e w':=by
 obtain⟨l,d,a,L,D,A,S,k,_⟩:=hR;obtain⟨da,dc,rfl,ab,B⟩:=aY S.rd;have H:=ae (An S (An k B));have N:=ae hSg;clear S k B hSg;go_enter func87,ntmps87;go_wp2_with fail
 go_loopg [6] D.length (fun gg q wx=>∃(i:Nat),gg=D.length - i∧i≤D.length∧q=.int .i64 (i:Int)∧Kp (fun _=>False) w wx∧∀(j:Nat) (p:Bs×Bs),j < i→D[j]? =some p→p.1≠s)
 case atStart=>exact⟨0,rfl,by omega,rfl,Kp.refl _ _,fun _ _ h=>absurd h (by omega)⟩
 case round=>
  obtain⟨i3,m,aa,rfl,r,f⟩:=hrel;have v:=H.o.1.kp r;obtain⟨Z,f1,f2,f3,f4,f5,f6⟩:=cL v.blk;have g:=ae (An m (An r (An v f)));clear m r f v;by_cases C:i3 < D.length
  ·have t:(i3:Int) < (D.length:Int):=by omega
   obtain⟨p,hp⟩:∃p,D[i3]? =some p:=⟨D[i3],List.getElem?_eq_getElem C⟩;obtain⟨dg,rfl,_⟩:=H.o.2.2 (by omega);obtain⟨V,Y⟩:=mX g.o.2.2.1.rd i3 p hp;have G:=ae hp;clear hp;by_cases y:p.1=s
   ·have Q:(p.1 == s)=true:=by simpa using y
    have k:cP st nm id ky s=bB p.2 nm id (cQ ⟨ky.toArray⟩ ⟨(bU p.2).1.toArray⟩).data.toList:=by
     unfold cP;rw[Bl H.o.2.1 G.o (j5 G.o y g.o.2.2.2)]
    have z:=ae k;clear y k;have K:=ae (vF W hG ⟨p.2.toArray⟩ wr (am hW g.o.2.1));have P:(⟨p.2.toArray⟩:ByteArray).data.toList=p.2:=by simp
    rw[P]at K;have R:=xr p.2;obtain⟨mm,hmm⟩:∃mm:Bs,(bU p.2).1=mm:=⟨_,rfl⟩;obtain⟨mn,hmn⟩:∃mn:Nat,(bU p.2).2=mn:=⟨_,rfl⟩;rw[hmm,hmn]at K;rw[hmm]at z R;obtain⟨sg,hsg⟩:∃sg:Bs,(cQ ⟨ky.toArray⟩ ⟨mm.toArray⟩).data.toList=sg:=⟨_,rfl⟩
    have ac:sg.length=8:=by
     have:=lR ⟨ky.toArray⟩ ⟨mm.toArray⟩;rw[←hsg,kY];exact this
    have E:cQ ⟨ky.toArray⟩ ⟨mm.toArray⟩=⟨sg.toArray⟩:=by rw[←hsg]
    have M:Hid (∀X:World,Calls prog 49 #[.string ⟨ky.toArray⟩,.string ⟨mm.toArray⟩] X fun e w'=>e=.returned (.string ⟨sg.toArray⟩)∧w'=X):=fun X=>by
     rw[←E];exact gI ⟨ky.toArray⟩ ⟨mm.toArray⟩ X (by rw[aN];omega) (by rw[aN];omega)
    rw[hsg]at z;have n:=N.o ⟨p.2.toArray⟩ nm id sg h1 h2 (by omega);rw[P,←z.o]at n;have I:=ae n;clear hmm hmn hsg E n P;go_wp2_with fail
    refine K.o.mono ?_;rintro e w1 ⟨rfl,O⟩;have x:=g.o.2.2.1.kp O;clear Z f1 f2 f3 f4 f5 f6 V Y;obtain⟨Z,f1,f2,f3,f4,f5,f6⟩:=cL x.blk;obtain⟨V,Y⟩:=mX x.rd i3 p G.o;have T:=ae (g.o.2.1.trans O);clear O x;go_wp2_with fail
    refine (M.o _).mono ?_;rintro e w2 ⟨rfl,rfl⟩;go_wp2_with fail
    go_region_law (refine aF rfl 19 _ _ rfl #[.string ⟨p.2.toArray⟩,.string ⟨nm.toArray⟩,.string ⟨id.toArray⟩,.string ⟨sg.toArray⟩] (by go_simp) ?_;refine (I.o _ (am hW T.o.drew)).mono ?_;rintro e w3 ⟨rfl,U⟩;have J:=ae (T.o.drew.trans U);clear U)
    all_goals go_wp2
    all_goals go_ret2
    all_goals exact⟨rfl,J.o⟩
   ·have Q:(p.1 == s)=false:=by simpa using y
    have HE:=ae y;clear y;go_wp2;go_roundg (D.length - (i3+1))
    all_goals first
     | (rw[g.o.1];omega)
     |exact⟨i3+1,rfl,by omega,ak (by omega),g.o.2.1,fun j q hj u=>by
       rcases Nat.lt_or_ge j i3 with h | h
       ·exact g.o.2.2.2 j q h u
       ·have:j=i3:=by omega
        subst this;rw[G.o]at u;injection u with u
        subst u;exact HE.o⟩
  ·have t:¬(i3:Int) < (D.length:Int):=by omega
   have k:cP st nm id ky s=([],8):=by
    unfold cP;rw[yI H.o.2.1 (j4 (fun j q hj u=>g.o.2.2.2 j q (by omega) u))]
   have z:=ae k;clear k;go_wp2;go_ret2
   rw[z.o];exact⟨rfl,g.o.2.1⟩
end
end Go.Proofs.YtocligpfmfmihaaGreatDoor
