import Derived.Test.YtocligpfmfmihaaGreatDoorRdG
namespace Go.Proofs.YtocligpfmfmihaaGreatDoor
open Go.Proofs.Tryz
section
open Go Go.RowKit
theorem u8n{c d:UInt8}(h:c≠d):((c.toNat:Int) == (d.toNat:Int))=false:=by rw[u8b];simpa using h
theorem nz{s:ByteArray}{k:Nat}(hl:ah s k=[])(hle:k≤s.size):k=s.size:=by
 rcases Nat.lt_or_ge k s.size with h | h
 ·rw[bn h]at hl;cases hl
 ·omega
theorem yV(W:World)(rb:Nat)(s:ByteArray)(k d:Nat)(w:World)(hr:St W w rb s k d):
  Calls prog 208 #[.pointer (some ⟨rb,0,none⟩)] w fun e w'=>
   Res W rb s d w (esc (ah s k)) (fun _ x v=>v=.int .i32 (x:Int)) e w':=by
 have aa:=hr.sz;generalize hl:ah s k=l;rcases l with _ | ⟨c,t⟩
 ·have hk:=nz hl hr.le
  clear hl;go_enter func208,ntmps208;go_wp2_with fail
  refine (nu W rb s k d _ hr hk).mono ?_;rintro e w1 ⟨b,a⟩;obtain⟨F,k1,g,j,rfl,h⟩:=a;exact⟨rfl,aX rfl ⟨b,F,k1,g,j,rfl,h⟩⟩
 obtain⟨f,_,g3,g4⟩:=ek hl;have G:=g4 f;have H:=ae (An g3 G);clear hl g3 g4 G;by_cases m:c=34
 ·subst m
  go_enter func208,ntmps208;go_wp2_with fail
  refine (dw W rb s k d _ hr f).mono ?_;rintro e w1 ⟨rfl,b,a⟩;rw[H.o.2];go_wp2;go_ret;exact aU (x:=34) (r:=t) (by simp[esc]) a rfl b H.o.1
 by_cases b:c=92
 ·subst b
  go_enter func208,ntmps208;go_wp2_with fail
  refine (dw W rb s k d _ hr f).mono ?_;rintro e w1 ⟨rfl,b,a⟩;rw[H.o.2];go_wp2;go_ret;exact aU (x:=92) (r:=t) (by simp[esc]) a rfl b H.o.1
 by_cases a:c=47
 ·subst a
  go_enter func208,ntmps208;go_wp2_with fail
  refine (dw W rb s k d _ hr f).mono ?_;rintro e w1 ⟨rfl,b,a⟩;rw[H.o.2];go_wp2;go_ret;exact aU (x:=47) (r:=t) (by simp[esc]) a rfl b H.o.1
 by_cases h:c=98
 ·subst h
  go_enter func208,ntmps208;go_wp2_with fail
  refine (dw W rb s k d _ hr f).mono ?_;rintro e w1 ⟨rfl,b,a⟩;rw[H.o.2];go_wp2;go_ret;exact aU (x:=8) (r:=t) (by simp[esc]) a rfl b H.o.1
 by_cases n:c=102
 ·subst n
  go_enter func208,ntmps208;go_wp2_with fail
  refine (dw W rb s k d _ hr f).mono ?_;rintro e w1 ⟨rfl,b,a⟩;rw[H.o.2];go_wp2;go_ret;exact aU (x:=12) (r:=t) (by simp[esc]) a rfl b H.o.1
 by_cases u:c=110
 ·subst u
  go_enter func208,ntmps208;go_wp2_with fail
  refine (dw W rb s k d _ hr f).mono ?_;rintro e w1 ⟨rfl,b,a⟩;rw[H.o.2];go_wp2;go_ret;exact aU (x:=10) (r:=t) (by simp[esc]) a rfl b H.o.1
 by_cases A:c=114
 ·subst A
  go_enter func208,ntmps208;go_wp2_with fail
  refine (dw W rb s k d _ hr f).mono ?_;rintro e w1 ⟨rfl,b,a⟩;rw[H.o.2];go_wp2;go_ret;exact aU (x:=13) (r:=t) (by simp[esc]) a rfl b H.o.1
 by_cases B:c=116
 ·subst B
  go_enter func208,ntmps208;go_wp2_with fail
  refine (dw W rb s k d _ hr f).mono ?_;rintro e w1 ⟨rfl,b,a⟩;rw[H.o.2];go_wp2;go_ret;exact aU (x:=9) (r:=t) (by simp[esc]) a rfl b H.o.1
 have J:=u8n m;have K:=u8n b;have n2:=u8n a;have L:=u8n h;have M:=u8n n;have N:=u8n u;have O:=u8n A;have P:=u8n B;have D:=ae (An m (An b (An a (An h (An n (An u (An A B)))))));clear m b a h n u A B;simp only[UInt8.reduceToNat,Int.cast_ofNat_Int]at J K n2 L M N O P;by_cases C:c=117
 ·subst C
  clear J K n2 L M N O P;go_enter func208,ntmps208;go_wp2_with fail
  refine (dw W rb s k d _ hr f).mono ?_;rintro e w1 ⟨rfl,b,a⟩;rw[H.o.2];go_wp2_with fail
  refine (yi W rb s (k+1) d _ b).mono ?_;rintro e w2 ⟨Q,v2⟩;rw[H.o.1]at v2;have i:esc (117 :: t)=dJ t:=by simp[esc]
  cases hy:dJ t with
  |none=>
   rw[hy]at v2 i;obtain⟨F,I,g,j,rfl,q⟩:=v2;exact⟨rfl,aX i ⟨a.trans Q,F,I,g,j,rfl,Nat.le_trans a.size q.1,q.2⟩⟩
  |some p=>
   obtain⟨y,z⟩:=p;rw[hy]at v2 i;obtain⟨_,I,rfl,rfl,u1,u2⟩:=v2;have E:=ae (An i u2);clear hy u2 i;go_wp2;go_ret;exact aU E.o.1 (a.trans Q) rfl u1 E.o.2
 have n8:=u8n C;simp only[UInt8.reduceToNat]at n8;have R:=ae C;clear C;go_enter func208,ntmps208;go_wp2_with fail
 refine (dw W rb s k d _ hr f).mono ?_;rintro e w1 ⟨rfl,b,a⟩;rw[H.o.2];obtain⟨j,hg,he⟩:=b.err 25 (by decide) (by decide);go_wp2_with (go_at_call 111;refine (cV rb s (k+1) d _ b.rdr _ _).mono ?_;rintro e w' ⟨rfl,rfl⟩)
 refine⟨rfl,aX ?_ (bL a he)⟩;obtain⟨S,T,U,V,X,Y,Z,d7⟩:=D.o;simp[esc,S,T,U,V,X,Y,Z,d7,R.o]
def fg(l:List UInt8)(m:Bool):Bool:=if l == [48] then !m else (l != [] && l.head? != some 48)
theorem p6(w:World)(a:ByteArray)(m:Bool)(ha:a.size≤600)(bb:Bool)(hbb:fg a.data.toList m=bb):
  Calls prog 210 #[.string a,.bool m] w fun e w'=>e=.returned (.bool bb)∧w'=w:=by
 subst hbb;obtain⟨⟨l⟩⟩:=a;by_cases b:l=[48]
 ·subst b
  go_enter func210,ntmps210;go_wp2;go_ret;exact⟨rfl,rfl⟩
 ·have i:(ByteArray.toList ⟨⟨l⟩⟩ == [48])=false:=by
   rw[Lib.toList_data];simpa using b
  rcases l with _ | ⟨c,t⟩
  ·go_enter func210,ntmps210
   go_wp2;go_ret;exact⟨rfl,rfl⟩
  ·have d:=ae b
   clear b;have f:0 < (ByteArray.mk ⟨c :: t⟩).size:=by simp[ByteArray.size]
   go_enter func210,ntmps210;go_wp2
   ·rename_i hh
    exfalso;apply d.o;simp at hh;simp[hh]
   ·go_ret
    refine⟨?_,rfl⟩
    have g:fg (c :: t) m=(c != 48):=by
     unfold fg;rw[if_neg (by simpa using d.o)];simp[bne]
    have h:(((c.toNat:Int)) != 48)=(c != 48):=by
     have:=u8b c 48;simp only[bne,←this];rfl
    rw[g,←h];rfl
theorem jf(l:List UInt8)(c:UInt8):aO (l ++[c])=aO l*10+(c.toNat - 48):=by simp[aO]
theorem kD(l m:List UInt8):aO l≤aO (l ++m):=by
 induction m generalizing l with
 |nil=>simp
 |cons c m ih=>
  have:=ih (l ++[c]);rw[jf]at this;rw[show l ++c :: m=l ++[c] ++m by simp];omega
theorem ja{l D r:List UInt8}(h:l=D ++r)(hD:∀c ∈ D,aW c=true):dgs l=D ++dgs r∧l.dropWhile aW=r.dropWhile aW:=by
 subst h;unfold dgs;constructor
 ·rw[List.takeWhile_append_of_pos hD]
 ·rw[List.dropWhile_append_of_pos hD]
theorem qc{d:List UInt8}(hd:∀c ∈ d,aW c=true)(a:whole d=true):aO d=0↔d=[48]:=by
 constructor
 ·intro f
  unfold whole at a;rcases d with _ | ⟨c,t⟩
  ·simp at a
  ·simp only[Bool.or_eq_true,Bool.and_eq_true,beq_iff_eq,bne_iff_ne,ne_eq,List.head?_cons,Option.some.injEq]at a
   rcases a with h | ⟨_,h⟩
   ·exact h
   ·exfalso
    have b:=kD [c] t;have g:aO [c]=c.toNat - 48:=by simp[aO]
    have i:=(jG (hd c (by simp))).2;have j:c.toNat≠48:=fun e=>h (UInt8.toNat_inj.1 e)
    simp only[List.singleton_append]at b;omega
 ·rintro rfl;decide
theorem lW(l:List UInt8):fg l false=whole l:=by
 unfold fg whole;by_cases h:l=[48]
 ·simp[h]
 ·have:(l == [48])=false:=by simpa using h
  simp[this]
theorem mM(l:List UInt8):fg l true=(whole l && !(l == [48])):=by
 unfold fg whole;by_cases h:l=[48]
 ·simp[h]
 ·have:(l == [48])=false:=by simpa using h
  simp[this]
theorem BD(l:List UInt8):∀c ∈ dgs l,aW c=true:=List.all_eq_true.1 List.all_takeWhile
def eW(m:Bool)(l:List UInt8):Option (Int×List UInt8):=
 if fg (dgs l) m=true∧aO (dgs l)≤bK then some ((if m then -(aO (dgs l):Int) else aO (dgs l)),l.dropWhile aW) else none
theorem oE(l:List UInt8)(hl:l.head? ≠some 45)(hne:l≠[]):eW false l=eA l:=by
 rcases l with _ | ⟨c,t⟩
 ·exact absurd rfl hne
 ·have a:c≠45:=by simpa using hl
  unfold eW eA iO;simp only[if_neg a,lW];by_cases h:whole (dgs (c :: t))=true∧aO (dgs (c :: t))≤bK
  ·rw[if_pos h,if_pos (show (whole (dgs (c :: t)) && decide (aO (dgs (c :: t))≤bK))=true by simpa using h)];rfl
  ·rw[if_neg h,if_neg (show ¬(whole (dgs (c :: t)) && decide (aO (dgs (c :: t))≤bK))=true by simpa using h)];rfl
theorem qf(t:List UInt8):eW true t=eA (45 :: t):=by
 unfold eW eA iO;simp only[if_true,mM];by_cases h:whole (dgs t)=true∧aO (dgs t)≤bK
 ·have d:=qc (BD t) h.1
  rw[if_pos (show (whole (dgs t) && decide (aO (dgs t)≤bK))=true by simpa using h)];by_cases c:dgs t=[48]
  ·rw[if_neg (by simp[c])]
   simp[c,aO]
  ·rw[if_pos (by simp[h.1,h.2,c])]
   simp[mt d.1 c]
 ·rw[if_neg (by intro ⟨a,b⟩;simp at a;exact h ⟨a.1,b⟩)]
  rw[if_neg (show ¬(whole (dgs t) && decide (aO (dgs t)≤bK))=true by simpa using h)]
theorem gR{s:ByteArray}{a b:Nat}(h:a≤b):ah s a=(s.extract a b).data.toList ++ah s b:=by
 rw[Lib.extract_data];unfold ah;have:s.data.toList.drop b=(s.data.toList.drop a).drop (b - a):=by rw[List.drop_drop];congr 1;omega
 rw[this,List.take_append_drop]
theorem jY{s:ByteArray}{a b:Nat}(h:a≤b)(hb:b < s.size):(s.extract a (b+1)).data.toList=(s.extract a b).data.toList ++[s[b]]:=by
 rw[Lib.extract_data,Lib.extract_data];have e:b+1 - a=(b - a)+1:=by omega
 rw[e,List.take_succ_eq_append_getElem (by simp;omega)];congr 2
 simp only[List.getElem_drop];have:a+(b - a)=b:=by omega
 simp only[this];rfl
theorem jO(W:World)(rb:Nat)(s:ByteArray)(k d:Nat)(w:World)(hr:St W w rb s k d)(c:UInt8)(hc:nxt (ah s k)=c):
  Calls prog 158 #[.pointer (some ⟨rb,0,none⟩)] w fun e w'=>
   e=.returned (.int .u8 c.toNat)∧St W w' rb s k d∧Kp (· =rb) w w':=by
 subst hc;exact (oD W rb s k d w hr).mono (by rintro e w' ⟨rfl,n,rfl⟩;exact⟨rfl,hr.drewN n,(Kp.refl _ _).drewN n⟩)
theorem mI(W:World)(rb:Nat)(s:ByteArray)(d:Nat)(w0:World)(m:Bool)(l:List UInt8)
  (hcall:Calls prog 209 #[.pointer (some ⟨rb,0,none⟩),.int .u8 45] w0 fun e w'=>e=.returned (.bool m)∧Kp (· =rb) w0 w'∧∃k',St W w' rb s k' d∧ah s k'=l) :
  Calls prog 163 #[.pointer (some ⟨rb,0,none⟩)] w0 fun e w'=>Res W rb s d w0 (eW m l) (fun _ x v=>v=.int .i64 x) e w':=by
 go_enter func163,ntmps163;go_wp2_with fail
 refine hcall.mono ?_;rintro e w ⟨rfl,R,b,I,hl⟩;clear hcall;have af:=I.sz;have ab:=I.le;have T:=ae hl;clear hl;obtain⟨c0,c1,c2,f1,f2,hb⟩:=I.rdr.facts;go_wp2_with fail
 go_loopg [5] (s.size - b) (fun g a wr=>∃(n k':Nat),g=s.size - k'∧b≤k'∧St W wr rb s k' d∧Kp (· =rb) w0 wr∧a=.int .i64 (n:Int)∧n=aO (s.extract b k').data.toList∧n≤bK∧∀c ∈ (s.extract b k').data.toList,aW c=true)
 case atStart=>
  have e0:(s.extract b b).data.toList=[]:=by rw[Lib.extract_data];simp
  exact⟨0,b,rfl,Nat.le_refl _,I,R,rfl,by rw[e0];rfl,by decide,by rw[e0];simp⟩
 case round=>
  obtain⟨n,k',G,B,J,h2,rfl,h3,h4,h5⟩:=hrel;have H:=ae (An G (An h3 h5));have hn:(n:Int)≤9007199254740991:=by unfold bK at h4;omega
  clear G h3 h5;have ad:=J.le;generalize hc:nxt (ah s k')=c;have E:=ae hc;clear hc;have L:c.toNat < 256:=c.toNat_lt;go_wp2_with fail
  refine (jO W rb s k' d _ J c E.o).mono ?_;rintro e wq ⟨rfl,f,i⟩;replace i:=h2.trans i;clear J h2;obtain⟨U,V,X,Y,Z,K⟩:=f.rdr.facts
  cases hdg:aW c with
  |false=>
   have D:=ae hdg;clear hdg
   have u:(s.extract b k').size≤600:=by
    have:(s.extract b k').size=(s.extract b k').data.toList.length:=by rw[Array.length_toList];rfl
    rw[this,Lib.extract_data,List.length_take,List.length_drop];simp;omega
   obtain⟨cb,G,P⟩:=f.err 22 (by decide) (by decide)
   have y:dgs l=(s.extract b k').data.toList∧l.dropWhile aW=ah s k':=by
    have C:=ja (gR (s:=s) B) H.o.2.2;rw[T.o]at C
    have e2:dgs (ah s k')=[]∧(ah s k').dropWhile aW=ah s k':=by
     have:=E.o;generalize ah s k'=r at this;rcases r with _ | ⟨a,r⟩
     ·simp[dgs]
     ·simp only[nxt,List.headD_cons]at this
      subst this;simp[dgs,D.o]
    rw[e2.1,e2.2,List.append_nil]at C;exact C
   have FI:=ae y;clear y;generalize hwb:fg (s.extract b k').data.toList m=bb;have F:=ae hwb;clear hwb;go_wp2_with fail
   refine (eS _ c).mono ?_;rintro e w2 ⟨rfl,rfl⟩;rw[D.o];go_wp2_with fail
   cases bb with
   |false=>
    go_quiet ((go_at_call 210;exact Calls.quiet_of_same (p6 _ _ _ u false F.o)))
    go_wp2_with (go_at_call 111;refine (cV rb s k' d _ (f.drewN _).rdr _ _).mono ?_;rintro e w' ⟨rfl,rfl⟩)
    refine⟨rfl,aX ?_ (bL (i.drewN _) P)⟩;unfold eW;rw[FI.o.1,F.o];simp
   |true=>
    go_quiet ((go_at_call 210;exact Calls.quiet_of_same (p6 _ _ _ u true F.o)))
    have e3:eW m l=some ((if m then -(n:Int) else n),ah s k'):=by
     unfold eW;rw[FI.o.1,FI.o.2,F.o,←H.o.2.1,if_pos ⟨rfl,h4⟩]
    have S:=ae e3;clear e3
    cases m with
    |true=>
     go_wp2;go_ret;exact aU S.o (i.drewN _) rfl (f.drewN _) rfl
    |false=>
     go_wp2;go_ret;exact aU S.o (i.drewN _) rfl (f.drewN _) rfl
  |true=>
   have M:=jG hdg;obtain⟨_,O,ac⟩:=M;have D:=ae hdg;clear hdg;go_wp2_with fail
   refine (eS _ c).mono ?_;rintro e w2 ⟨rfl,rfl⟩;rw[D.o];go_wp2_with fail
   refine (jO W rb s k' d _ f c E.o).mono ?_;rintro e wz ⟨rfl,j,k⟩;replace k:=i.trans k;clear U V X Y Z;obtain⟨U,V,X,Y,Z,K⟩:=j.rdr.facts;obtain⟨cb,G,P⟩:=j.err 21 (by decide) (by decide)
   have q:k' < s.size:=by
    rcases Nat.lt_or_ge k' s.size with h | h
    ·exact h
    ·exfalso
     have:=E.o;rw[dx h]at this;subst this;simp[nxt]at O
   have A:s[k']=c:=by
    have:=E.o;rw[bn q]at this;exact this
   have z:aO (s.extract b (k'+1)).data.toList=n*10+(c.toNat - 48):=by rw[jY B q,jf,A,←H.o.2.1]
   have t:∀x ∈ (s.extract b (k'+1)).data.toList,aW x=true:=by
    rw[jY B q,A];intro x hx;rcases List.mem_append.1 hx with h | h
    ·exact H.o.2.2 x h
    ·obtain rfl:x=c:=by simpa using h
     exact D.o
   have N:=ae (An z t);clear z t A;by_cases Q:9007199254740991 < (n:Int)*10+((c.toNat:Int) - 48)
   ·go_wp2_with (go_at_call 111;refine (cV rb s k' d _ j.rdr _ _).mono ?_;rintro e w' ⟨rfl,rfl⟩)
    refine⟨rfl,aX ?_ (bL k P)⟩;unfold eW;rw[if_neg];rintro⟨_,h6⟩;have C:=ja (gR (s:=s) (show b≤k'+1 by omega)) N.o.2;rw[T.o]at C;rw[C.1]at h6;have h7:=kD (s.extract b (k'+1)).data.toList (dgs (ah s (k'+1)));have h8:=N.o.1;unfold bK at h6;omega
   ·have aa:((n:Int)*10+((c.toNat:Int) - 48))≤9007199254740991:=by omega
    clear Q;go_wp2_with fail
    go_roundg (s.size - (k'+1))
    case measure=>rw[H.o.1];omega
    case rel=>
     refine⟨n*10+(c.toNat - 48),k'+1,rfl,by omega,j.at (k'+1) q,Kp.setCell (p:=⟨rb,1,none⟩) k (fun _=>rfl) _,ak (by omega),N.o.1.symm,by unfold bK;omega,N.o.2⟩
theorem rD(W:World)(rb:Nat)(s:ByteArray)(k d:Nat)(w:World)(hr:St W w rb s k d)(c:UInt8)(t:List UInt8)(hl:ah s k=c :: t)(hc:c=45∨aW c=true):
  Calls prog 163 #[.pointer (some ⟨rb,0,none⟩)] w fun e w'=>Res W rb s d w (eA (c :: t)) (fun _ x v=>v=.int .i64 x) e w':=by
 by_cases h:c=45
 ·subst h
  rw[←qf];refine mI W rb s d w true t ?_;refine (kP W rb s k d w hr 45 45 rfl t ?_).mono ?_
  ·rw[hl];simp[sk,gt]
  ·rintro e w' ⟨rfl,h⟩;exact⟨rfl,h⟩
 ·have b:sk (c :: t)=c :: t:=by
   have:gt c=false:=by
    have a:=jG (hc.resolve_left h);rw[ph];simp;omega
   simp[sk,this]
  rw[←oE _ (by simpa using h) (by simp)];refine mI W rb s d w false (c :: t) ?_;refine (mo W rb s k d w hr 45 45 rfl (by decide) ?_).mono ?_
  ·rw[hl,b];simpa using h
  ·rintro e w' ⟨rfl,f,k',a,g⟩
   exact⟨rfl,f,k',a,by rw[g,hl,b]⟩
def AG(x:J)(v:Value):Prop:=(x=.null∧v=.iface 221 (.agg #[]))∨∃b,x=.bool b∧v=.iface 222 (.bool b)
theorem B7{l:List UInt8}(h:b9 l [110,117,108,108]=true):b7 l=some (.null,l.drop 4):=by
 simp only[b9,List.length_cons,List.length_nil,beq_iff_eq]at h;simp[b7,h]
theorem B9{l:List UInt8}(_h0:b9 l [110,117,108,108]=false)(h:b9 l [116,114,117,101]=true):b7 l=some (.bool true,l.drop 4):=by
 simp only[b9,List.length_cons,List.length_nil,beq_iff_eq]at h;simp[b7,h]
theorem Ca{l:List UInt8}(h0:b9 l [110,117,108,108]=false)(h1:b9 l [116,114,117,101]=false)(h:b9 l [102,97,108,115,101]=true):b7 l=some (.bool false,l.drop 5):=by
 simp only[b9,List.length_cons,List.length_nil,beq_iff_eq,beq_eq_false_iff_ne]at h h0 h1;simp only[Nat.zero_add,Nat.reduceAdd]at h h0 h1;rw[b7,if_neg h0,if_neg h1,if_pos h]
theorem Cb{l:List UInt8}(h0:b9 l [110,117,108,108]=false)(h1:b9 l [116,114,117,101]=false)(h:b9 l [102,97,108,115,101]=false):b7 l=none:=by
 simp only[b9,List.length_cons,List.length_nil,beq_eq_false_iff_ne]at h h0 h1;simp only[Nat.zero_add,Nat.reduceAdd]at h h0 h1;rw[b7,if_neg h0,if_neg h1,if_neg h]
theorem yo(W:World)(rb:Nat)(s:ByteArray)(k d:Nat)(w:World)(hr:St W w rb s k d):
  Calls prog 164 #[.pointer (some ⟨rb,0,none⟩)] w fun e w'=>
   Res W rb s d w (b7 (ah s k)) (fun _ x v=>AG x v) e w':=by
 generalize hl:ah s k=l;have i:=ae hl;clear hl
 cases h0:b9 l [110,117,108,108] with
 |true=>
  have h:=ae h0;clear h0;go_enter func164,ntmps164;go_wp2_with fail
  refine (cO W rb s k d _ hr ⟨#[110,117,108,108]⟩ (by decide) true (by rw[i.o];exact h.o)).mono ?_;rintro e w0 ⟨rfl,t0,g,q,a⟩;have f:Hid (ah s g=l.drop 4):=by rw[i.o]at a;exact a
  clear a;go_wp2;go_ret;exact aU (B7 h.o) t0 (Or.inl ⟨rfl,rfl⟩) q f.o
 |false=>
  have h:=ae h0;clear h0
  cases h1:b9 l [116,114,117,101] with
  |true=>
   have j:=ae h1;clear h1;go_enter func164,ntmps164;go_wp2_with fail
   refine (cO W rb s k d _ hr ⟨#[110,117,108,108]⟩ (by decide) false (by rw[i.o];exact h.o)).mono ?_;rintro e w0 ⟨rfl,t0,g,q,a⟩;have f:Hid (ah s g=l):=by rw[i.o]at a;exact a
   clear a;go_wp2_with fail
   refine (cO W rb s g d _ q ⟨#[116,114,117,101]⟩ (by decide) true (by rw[f.o];exact j.o)).mono ?_;rintro e w1 ⟨rfl,c,n,t,b⟩;replace c:=t0.trans c;have m:Hid (ah s n=l.drop 4):=by rw[f.o]at b;exact b
   clear b;go_wp2;go_ret;exact aU (B9 h.o j.o) c (Or.inr ⟨true,rfl,rfl⟩) t m.o
  |false=>
   have j:=ae h1;clear h1
   cases h2:b9 l [102,97,108,115,101] with
   |true=>
    have r:=ae h2;clear h2;go_enter func164,ntmps164;go_wp2_with fail
    refine (cO W rb s k d _ hr ⟨#[110,117,108,108]⟩ (by decide) false (by rw[i.o];exact h.o)).mono ?_;rintro e w0 ⟨rfl,t0,g,q,a⟩;have f:Hid (ah s g=l):=by rw[i.o]at a;exact a
    clear a;go_wp2_with fail
    refine (cO W rb s g d _ q ⟨#[116,114,117,101]⟩ (by decide) false (by rw[f.o];exact j.o)).mono ?_;rintro e w1 ⟨rfl,c,n,t,b⟩;replace c:=t0.trans c;have m:Hid (ah s n=l):=by rw[f.o]at b;exact b
    clear b;go_wp2_with fail
    refine (cO W rb s n d _ t ⟨#[102,97,108,115,101]⟩ (by decide) true (by rw[m.o];exact r.o)).mono ?_;rintro e w2 ⟨rfl,t2,u,y,p⟩;replace t2:=c.trans t2;have z:Hid (ah s u=l.drop 5):=by rw[m.o]at p;exact p
    clear p;go_wp2;go_ret;exact aU (Ca h.o j.o r.o) t2 (Or.inr ⟨false,rfl,rfl⟩) y z.o
   |false=>
    have r:=ae h2;clear h2;go_enter func164,ntmps164;go_wp2_with fail
    refine (cO W rb s k d _ hr ⟨#[110,117,108,108]⟩ (by decide) false (by rw[i.o];exact h.o)).mono ?_;rintro e w0 ⟨rfl,t0,g,q,a⟩;have f:Hid (ah s g=l):=by rw[i.o]at a;exact a
    clear a;go_wp2_with fail
    refine (cO W rb s g d _ q ⟨#[116,114,117,101]⟩ (by decide) false (by rw[f.o];exact j.o)).mono ?_;rintro e w1 ⟨rfl,c,n,t,b⟩;replace c:=t0.trans c;have m:Hid (ah s n=l):=by rw[f.o]at b;exact b
    clear b;go_wp2_with fail
    refine (cO W rb s n d _ t ⟨#[102,97,108,115,101]⟩ (by decide) false (by rw[m.o];exact r.o)).mono ?_;rintro e w2 ⟨rfl,t2,u,y,p⟩;replace t2:=c.trans t2;have z:Hid (ah s u=l):=by rw[m.o]at p;exact p
    clear p;obtain⟨B,C,A⟩:=y.err 19 (by decide) (by decide);go_wp2_with (go_at_call 111;refine (cV rb s u d _ y.rdr _ _).mono ?_;rintro e w' ⟨rfl,rfl⟩)
    exact⟨rfl,aX (Cb h.o j.o r.o) (bL t2 A)⟩
end
end Go.Proofs.YtocligpfmfmihaaGreatDoor
