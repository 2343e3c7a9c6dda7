import Derived.Test.YtocligpfmfmihaaGreatDoorRef5
import Derived.Test.YtocligpfmfmihaaGreatDoorRef16G
set_option maxHeartbeats 4000000
set_option maxRecDepth 20000
namespace Go.Proofs.YtocligpfmfmihaaGreatDoor
open Go.Proofs.Tryz
section
open Go Go.RowKit
variable{W w w':World}{rb k:Nat}{s:ByteArray}{bad:Bool}
def NmR(W w:World)(rb:Nat)(s:ByteArray)(o:Option (Int×Bs))(e:Ending)(w':World):Prop:=
 ∃v:Int,e=.returned (.int .i64 v)∧Kp (· =rb) w w'∧∃k' bad',Rs W w' rb s k' bad'∧match o with | some (x,r)=>bad'=false∧v=x∧ah s k'=r | none=>bad'=true
theorem gv{o:Option (Int×Bs)}{k':Nat}{x:Int}{r:Bs}(ho:o=some (x,r))(hk:Kp (· =rb) w w')(hs:Rs W w' rb s k' false)(hr:ah s k'=r):NmR W w rb s o (.returned (.int .i64 x)) w':=by
 subst ho;exact⟨_,rfl,hk,k',false,hs,rfl,rfl,hr⟩
theorem bz{o:Option (Int×Bs)}{k':Nat}{v:Int}(ho:o=none)(hk:Kp (· =rb) w w')(hs:Rs W w' rb s k' true):NmR W w rb s o (.returned (.int .i64 v)) w':=by
 subst ho;exact⟨_,rfl,hk,k',true,hs,rfl⟩
theorem qC{c:UInt8}(h:¬(48≤(c.toNat:Int)∧(c.toNat:Int)≤57)):aW c=false:=by
 cases hd:aW c with
 |false=>rfl
 |true=>exact absurd (jG hd).2 h
theorem wF{c:UInt8}(h:48≤(c.toNat:Int))(h':(c.toNat:Int)≤57):aW c=true:=by
 unfold aW;simp[UInt8.le_iff_toNat_le];omega
theorem iA{c:UInt8}{t:Bs}(h:aW c=false):dgs (c :: t)=[]:=by simp[dgs,h]
end
section
open Go Go.RowKit
variable{W w w':World}{rb k:Nat}{s:ByteArray}{bad:Bool}
theorem vG(h:Rs W w rb s k false)(l:Bs)(hl:ah s k=45 :: l)(k1:Nat)(hk1e:k1=k+1):
  Calls prog 129 #[.pointer (some ⟨rb,0,none⟩)] w fun e w'=>NmR W w rb s (eW true (ah s k1)) e w':=by
 have af:=h.sz;have ab:=h.good rfl;obtain⟨c0,c1,c2,f1,f2,hb⟩:=h.facts;obtain⟨ac,Q,ad,_⟩:=ek hl;have N:=ae Q;clear hl Q ad;go_enter func129,ntmps129;go_wp2_with fail
 refine (dP h).mono ?_;rintro e w1 ⟨rfl,R,rfl⟩;rw[N.o];go_wp2;rw[show ((k:Int)+1)=(k1:Int) by omega];have h1:Rs W ((w.drewN R).setCell ⟨rb,1,none⟩ (.int .i64 (k1:Int))) rb s k1 false:=(h.drewN R).at k1 (by omega) (fun _=>by omega);have K1:Kp (· =rb) w ((w.drewN R).setCell ⟨rb,1,none⟩ (.int .i64 (k1:Int))):=Kp.setCell (p:=⟨rb,1,none⟩) ((Kp.refl (· =rb) w).drewN R) (fun _=>rfl) _;have K:k1≤s.size:=by omega
 clear N h c0 c1 c2 f1 f2 hb ac ab hk1e;generalize (w.drewN R).setCell ⟨rb,1,none⟩ (.int .i64 (k1:Int))=w1 at *
 go_loopg [4] (s.size - k1+1) (fun g a wr=>∃(k' n:Nat) (b:Bool),g=(if b then 0 else s.size - k'+1)∧k1≤k'∧k'≤s.size∧a=.int .i64 (n:Int)∧Rs W wr rb s k' b∧Kp (· =rb) w wr ∧
   n=aO (s.extract k1 k').data.toList∧n≤90071992547409919∧(∀c ∈ (s.extract k1 k').data.toList,aW c=true)∧b=(decide (9007199254740991 < n) || (decide (k1+1 < k') && decide (nxt (ah s k1)=48))))
 case atStart=>
  have e0:(s.extract k1 k1).data.toList=[]:=by rw[Lib.extract_data];simp
  have q:¬(k1+1 < k1):=by omega
  have q0:false=(decide (9007199254740991 < 0) || (decide (k1+1 < k1) && decide (nxt (ah s k1)=48))):=by simp[q]
  exact⟨k1,0,false,rfl,Nat.le_refl _,K,rfl,h1,K1,by rw[e0];rfl,by omega,by rw[e0];simp,q0⟩
 case round=>
  clear h1 K1;obtain⟨k',n,b,hg,F,M,rfl,f,i,H,P,J,r⟩:=hrel;obtain⟨c0,c1,c2,f1,f2,hb⟩:=f.facts;have B:=ae (An hg (An H (An J r)));clear hg H J r
  have ex:(b=false→dgs (ah s k')=[])→eW true (ah s k1)=if k'=k1∨n=0 then none else if b then none else some (-(n:Int),ah s k'):=by
   intro G;obtain⟨_,H,J,r⟩:=B.o
   cases hb':b with
   |true=>
    rw[hb']at r;rw[rC F M J]
    ·simp
    ·rw[←H]
     simp only[Bool.true_eq,Bool.or_eq_true,decide_eq_true_eq,Bool.and_eq_true]at r;unfold bK;omega
   |false=>
    rw[hb']at r;simp only[Bool.false_eq,Bool.or_eq_false_iff,decide_eq_false_iff_not,Bool.and_eq_false_iff]at r;rw[us F M J (G hb') (by rw[←H];unfold bK;omega) (by rcases r.2 with q | q;exact Or.inl (by omega);exact Or.inr q),←H];simp
  have m:=ae ex;clear ex;by_cases y:k' < s.size
  ·have hd:decide ((k':Int) < (s.size:Int))=true:=by simp;omega
   have z:=bn y;have A:=jY F y;generalize hcc:s[k']=c at *;have S:=ae (An hcc (An z A));clear z A;by_cases g1:48≤(c.toNat:Int)
   ·have Z:decide (48≤(c.toNat:Int))=true:=by simp;omega
    by_cases g2:(c.toNat:Int)≤57
    ·have aa:decide ((c.toNat:Int)≤57)=true:=by simp;omega
     cases hb':b with
     |true=>
      subst hb';have t:=ae (m.o (fun e=>by cases e));clear m;go_wp2;go_quiet (fail)
      by_cases d:k'=k1
      ·have u:((k':Int) == (k1:Int))=true:=by simp;omega
       have o:=t.o;rw[if_pos (Or.inl d)]at o;have O:=ae o;clear o d;go_wp2;go_ret;exact bz O.o (Kp.setCell (p:=⟨rb,2,none⟩) (i.drewN _) (fun _=>rfl) _) ((f.drewN _).turn true (fun e=>by cases e))
      ·have u:((k':Int) == (k1:Int))=false:=by simp;omega
       by_cases j:n=0
       ·have o:=t.o
        rw[if_pos (Or.inr j)]at o;have O:=ae o;have v:((n:Int) == 0)=true:=by simp;omega
        clear o d j;go_wp2;go_ret;exact bz O.o (Kp.setCell (p:=⟨rb,2,none⟩) (i.drewN _) (fun _=>rfl) _) ((f.drewN _).turn true (fun e=>by cases e))
       ·have v:((n:Int) == 0)=false:=by simp;omega
        have o:=t.o;rw[if_neg (by rintro (h | h);exact d h;exact j h)]at o;have O:=ae o;clear o d j;go_wp2;go_ret;exact bz O.o (i.drewN _) (f.drewN _)
     |false=>
      subst hb'
      have nb:n≤9007199254740991:=by
       have:=B.o.2.2.2;simp only[Bool.false_eq,Bool.or_eq_false_iff,decide_eq_false_iff_not]at this;omega
      have E:aO (s.extract k1 (k'+1)).data.toList=10*n+(c.toNat - 48):=by
       rw[S.o.2.2,jf,←B.o.2.1];omega
      have D:∀x ∈ (s.extract k1 (k'+1)).data.toList,aW x=true:=by
       rw[S.o.2.2];intro x hx;rcases List.mem_append.1 hx with h | h
       ·exact B.o.2.2.1 x h
       ·obtain rfl:x=c:=by simpa using h
        exact wF g1 g2
      have C:=ae (An E D);clear E D
      have nx:∀hk:k1 < s.size,((s[k1].toNat:Int) == 48)=decide (nxt (ah s k1)=48):=by
       intro hk;rw[bn hk];have:=u8b s[k1] 48;simp only[UInt8.reduceToNat,Int.cast_ofNat_Int]at this;rw[this];rw[Bool.eq_iff_iff];simp[nxt]
      have L:k1 < s.size:=by omega
      have NX:=ae (nx L);clear nx;have T:=ae (An nb P);clear P;go_wp2;go_quiet (fail)
      go_wp2;go_quiet (fail)
      by_cases b1:(9007199254740991:Int) < 10*(n:Int)+((c.toNat:Int) - 48)
      ·have U:decide ((9007199254740991:Int) < 10*(n:Int)+((c.toNat:Int) - 48))=true:=by simpa using b1
       go_wp2;go_roundg 0
       case measure=>rw[B.o.1];simp
       case rel=>
        refine⟨k'+1,10*n+(c.toNat - 48),true,rfl,by omega,y,ak (by omega),((f.drewN _).turn true (fun e=>by cases e)).at (k'+1) (by omega) (fun e=>by cases e),Kp.setCell (p:=⟨rb,1,none⟩) (Kp.setCell (p:=⟨rb,2,none⟩) (i.drewN _) (fun _=>rfl) _) (fun _=>rfl) _,C.o.1.symm,by have:=T.o;omega,C.o.2, ?_⟩;have q:9007199254740991 < 10*n+(c.toNat - 48):=by omega
        simp[q]
      ·have V:¬9007199254740991 < 10*n+(c.toNat - 48):=by omega
       have U:decide ((9007199254740991:Int) < 10*(n:Int)+((c.toNat:Int) - 48))=false:=by simpa using b1
       by_cases b2:k1 < k'
       ·have X:(k1:Int) < (k':Int):=by omega
        have I:k1+1 < k'+1:=by omega
        cases b3:decide (nxt (ah s k1)=48) with
        |true=>
         have Y:=NX.o.trans b3;go_wp2;go_roundg 0
         case measure=>rw[B.o.1];simp
         case rel=>
          exact⟨k'+1,10*n+(c.toNat - 48),true,rfl,by omega,y,ak (by omega),((f.drewN _).turn true (fun e=>by cases e)).at (k'+1) (by omega) (fun e=>by cases e),Kp.setCell (p:=⟨rb,1,none⟩) (Kp.setCell (p:=⟨rb,2,none⟩) (i.drewN _) (fun _=>rfl) _) (fun _=>rfl) _,C.o.1.symm,by have:=T.o;omega,C.o.2,by rw[b3];simp[I]⟩
        |false=>
         have Y:=NX.o.trans b3;go_wp2;go_roundg (s.size - (k'+1)+1)
         case measure=>rw[B.o.1];simp;omega
         case rel=>
          exact⟨k'+1,10*n+(c.toNat - 48),false,by simp,by omega,y,ak (by omega),((f.drewN _).turn false (fun _=>by omega)).at (k'+1) (by omega) (fun _=>by omega),Kp.setCell (p:=⟨rb,1,none⟩) (Kp.setCell (p:=⟨rb,2,none⟩) (i.drewN _) (fun _=>rfl) _) (fun _=>rfl) _,C.o.1.symm,by have:=T.o;omega,C.o.2,by rw[b3];simp;omega⟩
       ·have X:¬(k1:Int) < (k':Int):=by omega
        have I:¬k1+1 < k'+1:=by omega
        go_wp2;go_roundg (s.size - (k'+1)+1)
        case measure=>rw[B.o.1];simp;omega
        case rel=>
         exact⟨k'+1,10*n+(c.toNat - 48),false,by simp,by omega,y,ak (by omega),((f.drewN _).turn false (fun _=>by omega)).at (k'+1) (by omega) (fun _=>by omega),Kp.setCell (p:=⟨rb,1,none⟩) (Kp.setCell (p:=⟨rb,2,none⟩) (i.drewN _) (fun _=>rfl) _) (fun _=>rfl) _,C.o.1.symm,by have:=T.o;omega,C.o.2,by simp[b2,V]⟩
    ·have aa:decide ((c.toNat:Int)≤57)=false:=by simp;omega
     have t:=ae (m.o (fun _=>by rw[S.o.2.1];exact iA (qC (by omega))));clear m;go_wp2;go_quiet (fail)
     by_cases d:k'=k1
     ·have u:((k':Int) == (k1:Int))=true:=by simp;omega
      have o:=t.o;rw[if_pos (Or.inl d)]at o;have O:=ae o;clear o d;go_wp2;go_ret;exact bz O.o (Kp.setCell (p:=⟨rb,2,none⟩) (i.drewN _) (fun _=>rfl) _) ((f.drewN _).turn true (fun e=>by cases e))
     ·have u:((k':Int) == (k1:Int))=false:=by simp;omega
      by_cases j:n=0
      ·have o:=t.o
       rw[if_pos (Or.inr j)]at o;have O:=ae o;have v:((n:Int) == 0)=true:=by simp;omega
       clear o d j;go_wp2;go_ret;exact bz O.o (Kp.setCell (p:=⟨rb,2,none⟩) (i.drewN _) (fun _=>rfl) _) ((f.drewN _).turn true (fun e=>by cases e))
      ·have v:((n:Int) == 0)=false:=by simp;omega
       have o:=t.o;rw[if_neg (by rintro (h | h);exact d h;exact j h)]at o;have O:=ae o;clear o d j;go_wp2;go_ret
       cases b with
       |true=>exact bz O.o (i.drewN _) (f.drewN _)
       |false=>exact gv O.o (i.drewN _) (f.drewN _) rfl
   ·have Z:decide (48≤(c.toNat:Int))=false:=by simp;omega
    have t:=ae (m.o (fun _=>by rw[S.o.2.1];exact iA (qC (by omega))));clear m;go_wp2;go_quiet (fail)
    by_cases d:k'=k1
    ·have u:((k':Int) == (k1:Int))=true:=by simp;omega
     have o:=t.o;rw[if_pos (Or.inl d)]at o;have O:=ae o;clear o d;go_wp2;go_ret;exact bz O.o (Kp.setCell (p:=⟨rb,2,none⟩) (i.drewN _) (fun _=>rfl) _) ((f.drewN _).turn true (fun e=>by cases e))
    ·have u:((k':Int) == (k1:Int))=false:=by simp;omega
     by_cases j:n=0
     ·have o:=t.o
      rw[if_pos (Or.inr j)]at o;have O:=ae o;have v:((n:Int) == 0)=true:=by simp;omega
      clear o d j;go_wp2;go_ret;exact bz O.o (Kp.setCell (p:=⟨rb,2,none⟩) (i.drewN _) (fun _=>rfl) _) ((f.drewN _).turn true (fun e=>by cases e))
     ·have v:((n:Int) == 0)=false:=by simp;omega
      have o:=t.o;rw[if_neg (by rintro (h | h);exact d h;exact j h)]at o;have O:=ae o;clear o d j;go_wp2;go_ret
      cases b with
      |true=>exact bz O.o (i.drewN _) (f.drewN _)
      |false=>exact gv O.o (i.drewN _) (f.drewN _) rfl
  ·have hd:decide ((k':Int) < (s.size:Int))=false:=by simp;omega
   have t:=ae (m.o (fun _=>by rw[dx (by omega)];rfl));clear m;go_wp2;go_quiet (fail)
   by_cases d:k'=k1
   ·have u:((k':Int) == (k1:Int))=true:=by simp;omega
    have o:=t.o;rw[if_pos (Or.inl d)]at o;have O:=ae o;clear o d;go_wp2;go_ret;exact bz O.o (Kp.setCell (p:=⟨rb,2,none⟩) (i.drewN _) (fun _=>rfl) _) ((f.drewN _).turn true (fun e=>by cases e))
   ·have u:((k':Int) == (k1:Int))=false:=by simp;omega
    by_cases j:n=0
    ·have o:=t.o
     rw[if_pos (Or.inr j)]at o;have O:=ae o;have v:((n:Int) == 0)=true:=by simp;omega
     clear o d j;go_wp2;go_ret;exact bz O.o (Kp.setCell (p:=⟨rb,2,none⟩) (i.drewN _) (fun _=>rfl) _) ((f.drewN _).turn true (fun e=>by cases e))
    ·have v:((n:Int) == 0)=false:=by simp;omega
     have o:=t.o;rw[if_neg (by rintro (h | h);exact d h;exact j h)]at o;have O:=ae o;clear o d j;go_wp2;go_ret
     cases b with
     |true=>exact bz O.o (i.drewN _) (f.drewN _)
     |false=>exact gv O.o (i.drewN _) (f.drewN _) rfl
end
section
open Go Go.RowKit
variable{W w w':World}{rb k:Nat}{s:ByteArray}{bad:Bool}
theorem vH(k1:Nat)(h:Rs W w rb s k1 false)(hl:nxt (ah s k1)≠45):
  Calls prog 129 #[.pointer (some ⟨rb,0,none⟩)] w fun e w'=>NmR W w rb s (eW false (ah s k1)) e w':=by
 have aa:=h.sz;have V:=h.good rfl;obtain⟨c0,c1,c2,f1,f2,hb⟩:=h.facts;have K:=u8n hl;simp only[UInt8.reduceToNat,Int.cast_ofNat_Int]at K;clear hl;go_enter func129,ntmps129;go_wp2_with fail
 refine (dP h).mono ?_;rintro e w1 ⟨rfl,N,rfl⟩;go_wp2;have h1:=h.drewN N;have X:Kp (· =rb) w (w.drewN N):=(Kp.refl _ _).drewN N;clear h c0 c1 c2 f1 f2 hb K;generalize w.drewN N=w1 at *;have G:k1≤s.size:=V
 go_loopg [4] (s.size - k1+1) (fun g a wr=>∃(k' n:Nat) (b:Bool),g=(if b then 0 else s.size - k'+1)∧k1≤k'∧k'≤s.size∧a=.int .i64 (n:Int)∧Rs W wr rb s k' b∧Kp (· =rb) w wr ∧
   n=aO (s.extract k1 k').data.toList∧n≤90071992547409919∧(∀c ∈ (s.extract k1 k').data.toList,aW c=true)∧b=(decide (9007199254740991 < n) || (decide (k1+1 < k') && decide (nxt (ah s k1)=48))))
 case atStart=>
  have e0:(s.extract k1 k1).data.toList=[]:=by rw[Lib.extract_data];simp
  have q:¬(k1+1 < k1):=by omega
  have q0:false=(decide (9007199254740991 < 0) || (decide (k1+1 < k1) && decide (nxt (ah s k1)=48))):=by simp[q]
  exact⟨k1,0,false,rfl,Nat.le_refl _,G,rfl,h1,X,by rw[e0];rfl,by omega,by rw[e0];simp,q0⟩
 case round=>
  clear h1 X;obtain⟨k',n,b,hg,A,I,rfl,j,k,D,J,F,i⟩:=hrel;obtain⟨c0,c1,c2,f1,f2,hb⟩:=j.facts;have B:=ae (An hg (An D (An F i)));clear hg D F i
  have ex:(b=false→dgs (ah s k')=[])→eW false (ah s k1)=if k'=k1 then none else if b then none else some ((n:Int),ah s k'):=by
   intro C;obtain⟨_,D,F,i⟩:=B.o
   cases hb':b with
   |true=>
    rw[hb']at i;rw[rC A I F]
    ·simp
    ·rw[←D]
     simp only[Bool.true_eq,Bool.or_eq_true,decide_eq_true_eq,Bool.and_eq_true]at i;unfold bK;omega
   |false=>
    rw[hb']at i;simp only[Bool.false_eq,Bool.or_eq_false_iff,decide_eq_false_iff_not,Bool.and_eq_false_iff]at i;rw[us A I F (C hb') (by rw[←D];unfold bK;omega) (by rcases i.2 with q | q;exact Or.inl (by omega);exact Or.inr q),←D];simp
  have f:=ae ex;clear ex;by_cases m:k' < s.size
  ·have hd:decide ((k':Int) < (s.size:Int))=true:=by simp;omega
   have t:=bn m;have u:=jY A m;generalize hcc:s[k']=c at *;have L:=ae (An hcc (An t u));clear t u;by_cases g1:48≤(c.toNat:Int)
   ·have T:decide (48≤(c.toNat:Int))=true:=by simp;omega
    by_cases g2:(c.toNat:Int)≤57
    ·have U:decide ((c.toNat:Int)≤57)=true:=by simp;omega
     cases hb':b with
     |true=>
      subst hb';have r:=ae (f.o (fun e=>by cases e));clear f;go_wp2;go_quiet (fail)
      by_cases d:k'=k1
      ·have l:((k':Int) == (k1:Int))=true:=by simp;omega
       have o:=r.o;rw[if_pos d]at o;have O:=ae o;clear o d;go_wp2;go_ret;exact bz O.o (Kp.setCell (p:=⟨rb,2,none⟩) (k.drewN _) (fun _=>rfl) _) ((j.drewN _).turn true (fun e=>by cases e))
      ·have l:((k':Int) == (k1:Int))=false:=by simp;omega
       have o:=r.o;rw[if_neg d]at o;have O:=ae o;clear o d;go_wp2;go_ret;exact bz O.o (k.drewN _) (j.drewN _)
     |false=>
      subst hb'
      have nb:n≤9007199254740991:=by
       have:=B.o.2.2.2;simp only[Bool.false_eq,Bool.or_eq_false_iff,decide_eq_false_iff_not]at this;omega
      have z:aO (s.extract k1 (k'+1)).data.toList=10*n+(c.toNat - 48):=by
       rw[L.o.2.2,jf,←B.o.2.1];omega
      have y:∀x ∈ (s.extract k1 (k'+1)).data.toList,aW x=true:=by
       rw[L.o.2.2];intro x hx;rcases List.mem_append.1 hx with h | h
       ·exact B.o.2.2.1 x h
       ·obtain rfl:x=c:=by simpa using h
        exact wF g1 g2
      have v:=ae (An z y);clear z y
      have nx:∀hk:k1 < s.size,((s[k1].toNat:Int) == 48)=decide (nxt (ah s k1)=48):=by
       intro hk;rw[bn hk];have:=u8b s[k1] 48;simp only[UInt8.reduceToNat,Int.cast_ofNat_Int]at this;rw[this];rw[Bool.eq_iff_iff];simp[nxt]
      have H:k1 < s.size:=by omega
      have Y:=ae (nx H);clear nx;have M:=ae (An nb J);clear J;go_wp2;go_quiet (fail)
      go_wp2;go_quiet (fail)
      by_cases Z:(9007199254740991:Int) < 10*(n:Int)+((c.toNat:Int) - 48)
      ·have P:decide ((9007199254740991:Int) < 10*(n:Int)+((c.toNat:Int) - 48))=true:=by simpa using Z
       go_wp2;go_roundg 0
       case measure=>rw[B.o.1];simp
       case rel=>
        refine⟨k'+1,10*n+(c.toNat - 48),true,rfl,by omega,m,ak (by omega),((j.drewN _).turn true (fun e=>by cases e)).at (k'+1) (by omega) (fun e=>by cases e),Kp.setCell (p:=⟨rb,1,none⟩) (Kp.setCell (p:=⟨rb,2,none⟩) (k.drewN _) (fun _=>rfl) _) (fun _=>rfl) _,v.o.1.symm,by have:=M.o;omega,v.o.2, ?_⟩;have q:9007199254740991 < 10*n+(c.toNat - 48):=by omega
        simp[q]
      ·have Q:¬9007199254740991 < 10*n+(c.toNat - 48):=by omega
       have P:decide ((9007199254740991:Int) < 10*(n:Int)+((c.toNat:Int) - 48))=false:=by simpa using Z
       by_cases b2:k1 < k'
       ·have R:(k1:Int) < (k':Int):=by omega
        have E:k1+1 < k'+1:=by omega
        cases b3:decide (nxt (ah s k1)=48) with
        |true=>
         have S:=Y.o.trans b3;go_wp2;go_roundg 0
         case measure=>rw[B.o.1];simp
         case rel=>
          exact⟨k'+1,10*n+(c.toNat - 48),true,rfl,by omega,m,ak (by omega),((j.drewN _).turn true (fun e=>by cases e)).at (k'+1) (by omega) (fun e=>by cases e),Kp.setCell (p:=⟨rb,1,none⟩) (Kp.setCell (p:=⟨rb,2,none⟩) (k.drewN _) (fun _=>rfl) _) (fun _=>rfl) _,v.o.1.symm,by have:=M.o;omega,v.o.2,by rw[b3];simp[E]⟩
        |false=>
         have S:=Y.o.trans b3;go_wp2;go_roundg (s.size - (k'+1)+1)
         case measure=>rw[B.o.1];simp;omega
         case rel=>
          exact⟨k'+1,10*n+(c.toNat - 48),false,by simp,by omega,m,ak (by omega),((j.drewN _).turn false (fun _=>by omega)).at (k'+1) (by omega) (fun _=>by omega),Kp.setCell (p:=⟨rb,1,none⟩) (Kp.setCell (p:=⟨rb,2,none⟩) (k.drewN _) (fun _=>rfl) _) (fun _=>rfl) _,v.o.1.symm,by have:=M.o;omega,v.o.2,by rw[b3];simp;omega⟩
       ·have R:¬(k1:Int) < (k':Int):=by omega
        have E:¬k1+1 < k'+1:=by omega
        go_wp2;go_roundg (s.size - (k'+1)+1)
        case measure=>rw[B.o.1];simp;omega
        case rel=>
         exact⟨k'+1,10*n+(c.toNat - 48),false,by simp,by omega,m,ak (by omega),((j.drewN _).turn false (fun _=>by omega)).at (k'+1) (by omega) (fun _=>by omega),Kp.setCell (p:=⟨rb,1,none⟩) (Kp.setCell (p:=⟨rb,2,none⟩) (k.drewN _) (fun _=>rfl) _) (fun _=>rfl) _,v.o.1.symm,by have:=M.o;omega,v.o.2,by simp[b2,Q]⟩
    ·have U:decide ((c.toNat:Int)≤57)=false:=by simp;omega
     have r:=ae (f.o (fun _=>by rw[L.o.2.1];exact iA (qC (by omega))));clear f;go_wp2;go_quiet (fail)
     by_cases d:k'=k1
     ·have l:((k':Int) == (k1:Int))=true:=by simp;omega
      have o:=r.o;rw[if_pos d]at o;have O:=ae o;clear o d;go_wp2;go_ret;exact bz O.o (Kp.setCell (p:=⟨rb,2,none⟩) (k.drewN _) (fun _=>rfl) _) ((j.drewN _).turn true (fun e=>by cases e))
     ·have l:((k':Int) == (k1:Int))=false:=by simp;omega
      have o:=r.o;rw[if_neg d]at o;have O:=ae o;clear o d;go_wp2;go_ret
      cases b with
      |true=>exact bz O.o (k.drewN _) (j.drewN _)
      |false=>exact gv O.o (k.drewN _) (j.drewN _) rfl
   ·have T:decide (48≤(c.toNat:Int))=false:=by simp;omega
    have r:=ae (f.o (fun _=>by rw[L.o.2.1];exact iA (qC (by omega))));clear f;go_wp2;go_quiet (fail)
    by_cases d:k'=k1
    ·have l:((k':Int) == (k1:Int))=true:=by simp;omega
     have o:=r.o;rw[if_pos d]at o;have O:=ae o;clear o d;go_wp2;go_ret;exact bz O.o (Kp.setCell (p:=⟨rb,2,none⟩) (k.drewN _) (fun _=>rfl) _) ((j.drewN _).turn true (fun e=>by cases e))
    ·have l:((k':Int) == (k1:Int))=false:=by simp;omega
     have o:=r.o;rw[if_neg d]at o;have O:=ae o;clear o d;go_wp2;go_ret
     cases b with
     |true=>exact bz O.o (k.drewN _) (j.drewN _)
     |false=>exact gv O.o (k.drewN _) (j.drewN _) rfl
  ·have hd:decide ((k':Int) < (s.size:Int))=false:=by simp;omega
   have r:=ae (f.o (fun _=>by rw[dx (by omega)];rfl));clear f;go_wp2;go_quiet (fail)
   by_cases d:k'=k1
   ·have l:((k':Int) == (k1:Int))=true:=by simp;omega
    have o:=r.o;rw[if_pos d]at o;have O:=ae o;clear o d;go_wp2;go_ret;exact bz O.o (Kp.setCell (p:=⟨rb,2,none⟩) (k.drewN _) (fun _=>rfl) _) ((j.drewN _).turn true (fun e=>by cases e))
   ·have l:((k':Int) == (k1:Int))=false:=by simp;omega
    have o:=r.o;rw[if_neg d]at o;have O:=ae o;clear o d;go_wp2;go_ret
    cases b with
    |true=>exact bz O.o (k.drewN _) (j.drewN _)
    |false=>exact gv O.o (k.drewN _) (j.drewN _) rfl
end
section
open Go Go.RowKit
variable{W w w':World}{rb k:Nat}{s:ByteArray}{bad:Bool}
theorem tC(h:Rs W w rb s k true)(l:Bs)(hl:ah s k=45 :: l)(k1:Nat)(hk1e:k1=k+1):
  Calls prog 129 #[.pointer (some ⟨rb,0,none⟩)] w fun e w'=>∃v:Int,e=.returned (.int .i64 v)∧Kp (· =rb) w w'∧Rs W w' rb s k1 true:=by
 have B:=h.sz;have z:=h.le;obtain⟨r,t,u,f1,f2,x⟩:=h.facts;obtain⟨n,d,q,_⟩:=ek hl;have N:=ae d;clear hl d q;go_enter func129,ntmps129;go_wp2_with fail
 refine (dP h).mono ?_;rintro e w1 ⟨rfl,f,rfl⟩;rw[N.o];go_wp2;rw[show ((k:Int)+1)=(k1:Int) by omega];have b:Rs W ((w.drewN f).setCell ⟨rb,1,none⟩ (.int .i64 (k1:Int))) rb s k1 true:=(h.drewN f).at k1 (by omega) (fun e=>by cases e);have i:Kp (· =rb) w ((w.drewN f).setCell ⟨rb,1,none⟩ (.int .i64 (k1:Int))):=Kp.setCell (p:=⟨rb,1,none⟩) ((Kp.refl (· =rb) w).drewN f) (fun _=>rfl) _;clear N h r t u f1 f2 x hk1e n;generalize (w.drewN f).setCell ⟨rb,1,none⟩ (.int .i64 (k1:Int))=w1 at *;obtain⟨r,t,u,f1,f2,x⟩:=b.facts
 go_loopg [4] 1 (fun g a wr=>g=1∧a=.int .i64 0∧wr=w1)
 case atStart=>exact⟨rfl,rfl,rfl⟩
 case round=>
  obtain⟨rfl,rfl,rfl⟩:=hrel;by_cases A:k1 < s.size
  ·have y:decide ((k1:Int) < (s.size:Int))=true:=by simp;omega
   generalize hcc:s[k1]=c at *;by_cases C:48≤(c.toNat:Int)
   ·have j:decide (48≤(c.toNat:Int))=true:=by simp;omega
    by_cases D:(c.toNat:Int)≤57
    ·have m:decide ((c.toNat:Int)≤57)=true:=by simp;omega
     go_wp2;go_quiet (fail)
     go_wp2;go_ret;exact⟨_,rfl,Kp.setCell (p:=⟨rb,2,none⟩) (i.drewN _) (fun _=>rfl) _,(b.drewN _).turn true (fun e=>by cases e)⟩
    ·have m:decide ((c.toNat:Int)≤57)=false:=by simp;omega
     go_wp2;go_quiet (fail)
     go_wp2;go_ret;exact⟨_,rfl,Kp.setCell (p:=⟨rb,2,none⟩) (i.drewN _) (fun _=>rfl) _,(b.drewN _).turn true (fun e=>by cases e)⟩
   ·have j:decide (48≤(c.toNat:Int))=false:=by simp;omega
    go_wp2;go_quiet (fail)
    go_wp2;go_ret;exact⟨_,rfl,Kp.setCell (p:=⟨rb,2,none⟩) (i.drewN _) (fun _=>rfl) _,(b.drewN _).turn true (fun e=>by cases e)⟩
  ·have y:decide ((k1:Int) < (s.size:Int))=false:=by simp;omega
   go_wp2;go_quiet (fail)
   go_wp2;go_ret;exact⟨_,rfl,Kp.setCell (p:=⟨rb,2,none⟩) (i.drewN _) (fun _=>rfl) _,(b.drewN _).turn true (fun e=>by cases e)⟩
theorem tD(k1:Nat)(h:Rs W w rb s k1 true)(hl:nxt (ah s k1)≠45):
  Calls prog 129 #[.pointer (some ⟨rb,0,none⟩)] w fun e w'=>∃v:Int,e=.returned (.int .i64 v)∧Kp (· =rb) w w'∧Rs W w' rb s k1 true:=by
 have u:=h.sz;have r:=h.le;obtain⟨l,m,n,f1,f2,o⟩:=h.facts;have d:=u8n hl;simp only[UInt8.reduceToNat,Int.cast_ofNat_Int]at d;clear hl;go_enter func129,ntmps129;go_wp2_with fail
 refine (dP h).mono ?_;rintro e w1 ⟨rfl,i,rfl⟩;go_wp2;have b:=h.drewN i;have f:Kp (· =rb) w (w.drewN i):=(Kp.refl _ _).drewN i;clear h l m n f1 f2 o d;generalize w.drewN i=w1 at *;obtain⟨l,m,n,f1,f2,o⟩:=b.facts
 go_loopg [4] 1 (fun g a wr=>g=1∧a=.int .i64 0∧wr=w1)
 case atStart=>exact⟨rfl,rfl,rfl⟩
 case round=>
  obtain⟨rfl,rfl,rfl⟩:=hrel;by_cases t:k1 < s.size
  ·have q:decide ((k1:Int) < (s.size:Int))=true:=by simp;omega
   generalize hcc:s[k1]=c at *;by_cases x:48≤(c.toNat:Int)
   ·have j:decide (48≤(c.toNat:Int))=true:=by simp;omega
    by_cases y:(c.toNat:Int)≤57
    ·have k:decide ((c.toNat:Int)≤57)=true:=by simp;omega
     go_wp2;go_quiet (fail)
     go_wp2;go_ret;exact⟨_,rfl,Kp.setCell (p:=⟨rb,2,none⟩) (f.drewN _) (fun _=>rfl) _,(b.drewN _).turn true (fun e=>by cases e)⟩
    ·have k:decide ((c.toNat:Int)≤57)=false:=by simp;omega
     go_wp2;go_quiet (fail)
     go_wp2;go_ret;exact⟨_,rfl,Kp.setCell (p:=⟨rb,2,none⟩) (f.drewN _) (fun _=>rfl) _,(b.drewN _).turn true (fun e=>by cases e)⟩
   ·have j:decide (48≤(c.toNat:Int))=false:=by simp;omega
    go_wp2;go_quiet (fail)
    go_wp2;go_ret;exact⟨_,rfl,Kp.setCell (p:=⟨rb,2,none⟩) (f.drewN _) (fun _=>rfl) _,(b.drewN _).turn true (fun e=>by cases e)⟩
  ·have q:decide ((k1:Int) < (s.size:Int))=false:=by simp;omega
   go_wp2;go_quiet (fail)
   go_wp2;go_ret;exact⟨_,rfl,Kp.setCell (p:=⟨rb,2,none⟩) (f.drewN _) (fun _=>rfl) _,(b.drewN _).turn true (fun e=>by cases e)⟩
theorem zZ(h:Rs W w rb s k true):
  Calls prog 129 #[.pointer (some ⟨rb,0,none⟩)] w fun e w'=>∃(v:Int) (k':Nat),e=.returned (.int .i64 v)∧Kp (· =rb) w w'∧Rs W w' rb s k' true:=by
 by_cases a:nxt (ah s k)=45
 ·cases hr:ah s k with
  |nil=>rw[hr]at a;cases a
  |cons c t=>
   have:c=45:=by rw[hr]at a;exact a
   subst this;exact (tC h t hr (k+1) rfl).mono (by rintro e w1 ⟨v,b⟩;exact⟨v,k+1,b⟩)
 ·exact (tD k h a).mono (by rintro e w1 ⟨v,b⟩;exact⟨v,k,b⟩)
end
end Go.Proofs.YtocligpfmfmihaaGreatDoor
