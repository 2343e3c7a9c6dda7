import Derived.Test.YtocligpfmfmihaaGreatDoorRef4G
import Derived.Laws.Cover4
import Derived.Test.YtocligpfmfmihaaGreatDoorRef16G
set_option maxHeartbeats 2000000
set_option maxRecDepth 20000
namespace Go.Proofs.YtocligpfmfmihaaGreatDoor
open Go.Proofs.Tryz
section
open Go Go.RowKit
variable{W w w':World}{rb k:Nat}{s:ByteArray}{bad:Bool}
theorem l5(o:Bs)(b:ByteArray):(⟨o.toArray⟩:ByteArray) ++b=⟨(o ++b.data.toList).toArray⟩:=by
 apply ByteArray.ext;simp
theorem uo(o:Bs):(⟨o.toArray⟩:ByteArray).size=o.length:=by
 show o.toArray.size=o.length
 simp
def TxR(W w:World)(rb:Nat)(s:ByteArray)(o:Option (Bs×Bs))(e:Ending)(w':World):Prop:=
 ∃v:Bs,e=.returned (.string ⟨v.toArray⟩)∧v.length≤2400∧Kp (· =rb) w w'∧∃k' bad',Rs W w' rb s k' bad'∧match o with | some (x,r)=>bad'=false∧v=x∧ah s k'=r | none=>bad'=true
theorem Ak{o:Option (Bs×Bs)}{k':Nat}{x r:Bs}(ho:o=some (x,r))(hl:x.length≤2400)(hk:Kp (· =rb) w w')(hs:Rs W w' rb s k' false)(hr:ah s k'=r):TxR W w rb s o (.returned (.string ⟨x.toArray⟩)) w':=by
 subst ho;exact⟨_,rfl,hl,hk,k',false,hs,rfl,rfl,hr⟩
theorem sF{o:Option (Bs×Bs)}{k':Nat}(ho:o=none)(hk:Kp (· =rb) w w')(hs:Rs W w' rb s k' true):TxR W w rb s o (.returned (.string ⟨#[]⟩)) w':=by
 subst ho;exact⟨[],rfl,by simp,hk,k',true,hs,rfl⟩
theorem qr(h:Rs W w rb s k bad)(hl:bad=false→∀r,ah s k≠34 :: r):
  Calls prog 126 #[.pointer (some ⟨rb,0,none⟩)] w fun e w'=>e=.returned (.string ⟨#[]⟩)∧Kp (· =rb) w w'∧Rs W w' rb s k true:=by
 have j:=ae hl;clear hl;go_enter func126,ntmps126;go_wp2_with fail
 refine (dn h ⟨#[34]⟩ (by decide)).mono ?_;rintro e w1 ⟨rfl,l,m,a,f,_,i⟩
 have c:a=true∧m=k:=by
  rcases i with⟨b,d,r,n,v⟩ | ⟨b,d,_⟩
  ·exact absurd n (j.o b r)
  ·exact⟨b,d⟩
 obtain⟨rfl,rfl⟩:=c;clear i;obtain⟨p,q,t,f1,f2,u⟩:=f.facts;go_wp2_with fail
 go_loopg [] 1 (fun g wr=>wr=w1∧g=1)
 case atStart=>exact⟨rfl,rfl⟩
 case round=>
  obtain⟨rfl,rfl⟩:=hrel;go_wp2;go_ret;exact⟨rfl,l,f⟩
theorem xF{l t:Bs}{c:UInt8}(hl:l=c :: t)(h34:c≠34){o r:Bs}(hch:ch true c t=some (o,r)):br true l=(br true r).map fun x=>(o ++x.1,x.2):=by
 subst hl;rw[bN,if_neg h34,hch]
theorem py{l t:Bs}{c:UInt8}(hl:l=c :: t)(h34:c≠34)(hch:ch true c t=none):br true l=none:=by
 subst hl;rw[bN,if_neg h34,hch]
theorem mG(o p:Bs)(x:Option (Bs×Bs)):(x.map fun x=>(p ++x.1,x.2)).map (fun x=>(o ++x.1,x.2))=x.map fun x=>((o ++p) ++x.1,x.2):=by
 cases x <;> simp
theorem uQ(h:Rs W w rb s k false)(t:Bs)(hl:ah s k=34 :: t):
  Calls prog 126 #[.pointer (some ⟨rb,0,none⟩)] w fun e w'=>TxR W w rb s (br true t) e w':=by
 have ay:=h.sz;have hG:=h.gl;go_enter func126,ntmps126;go_wp2_with fail
 refine (fN h ⟨#[34]⟩ (by decide) t hl).mono ?_;rintro e w1 ⟨rfl,y,k1,j,r1⟩;clear hl h;go_wp2_with fail
 go_loopg [3] (s.size - k1+1) (fun g a wr=>∃(k':Nat) (d:Bool) (o:Bs),g=(if d then 0 else s.size - k'+1)∧a=.string ⟨o.toArray⟩∧Rs W wr rb s k' d∧Kp (· =rb) w wr ∧
   (d=false→o.length≤4*k'∧br true t=(br true (ah s k')).map fun x=>(o ++x.1,x.2))∧(d=true→br true t=none))
 case atStart=>exact⟨k1,false,[],rfl,rfl,j,y,fun _=>⟨by simp,by rw[r1];cases br true t <;> simp⟩,fun e=>by cases e⟩
 case round=>
  clear j y r1;obtain⟨k',d,o,hg,rfl,j,y,p1,p2⟩:=hrel;obtain⟨N,O,Q,f1,f2,S⟩:=j.facts
  cases d with
  |true=>
   have P:=ae (p2 rfl);clear p1 p2;go_wp2;go_ret;exact sF P.o y j
  |false=>
   have P:=ae (An (p1 rfl) hg);have aw:=(p1 rfl).1;have ai:=j.good rfl;clear p1 p2 hg;generalize hc:ah s k'=l;rcases l with _ | ⟨c,q⟩
   ·have I:=nz hc ai
    have f:=ae hc;clear hc;have aj:decide ((s.size:Int)≤(k':Int))=true:=by simp;omega
    go_wp2_with fail
    refine (dP j).mono ?_;rintro e w2 ⟨rfl,m,rfl⟩;rw[f.o];simp only[nxt,List.headD_nil];go_wp2;go_quiet (fail)
    go_wp2;go_roundg 0
    case measure=>rw[P.o.2];simp
    case rel=>
     refine⟨k',true,o,rfl,rfl,(j.drewN _).turn true (fun e=>by cases e),Kp.setCell (p:=⟨rb,2,none⟩) (y.drewN _) (fun _=>rfl) _,fun e=>(by cases e),fun _=> ?_⟩;rw[P.o.1.2,f.o,fL];rfl
   ·obtain⟨I,V,B,R⟩:=ek hc
    have af:=R I;have A:=eZ s k';rw[hc]at A;have f:=ae (An hc (An V B));clear hc V B R af;have aj:decide ((s.size:Int)≤(k':Int))=false:=by simp;omega
    have hcb:=c.toNat_lt;go_wp2_with fail
    refine (dP j).mono ?_;rintro e w2 ⟨rfl,m,rfl⟩;rw[f.o.2.1];by_cases z:(c.toNat:Int) < 32
    ·have F:decide ((c.toNat:Int) < 32)=true:=by simpa using z
     go_wp2;go_quiet (fail)
     go_wp2;go_roundg 0
     case measure=>rw[P.o.2];simp
     case rel=>
      refine⟨k',true,o,rfl,rfl,(j.drewN _).turn true (fun e=>by cases e),Kp.setCell (p:=⟨rb,2,none⟩) (y.drewN _) (fun _=>rfl) _,fun e=>(by cases e),fun _=> ?_⟩;rw[P.o.1.2,py f.o.1 (by rintro rfl;revert z;decide)]
      ·rfl
      ·unfold ch
       rw[if_pos];rw[UInt8.lt_iff_toNat_lt];show c.toNat < 32
       omega
    ·have F:decide ((c.toNat:Int) < 32)=false:=by simpa using z
     have ao:¬c < 32:=by
      rw[UInt8.lt_iff_toNat_lt];show ¬c.toNat < 32
      omega
     by_cases D:c=34
     ·subst D
      go_wp2;go_quiet (fail)
      go_wp2;go_ret;refine Ak (r:=q) ?_ (by omega) (Kp.setCell (p:=⟨rb,1,none⟩) (y.drewN _) (fun _=>rfl) _) ((j.drewN _).at (k'+1) (by omega) (fun _=>by omega)) f.o.2.2;rw[P.o.1.2,f.o.1,bN];simp
     have ac:=u8n D;simp only[UInt8.reduceToNat,Int.cast_ofNat_Int]at ac;have L:=ae D;clear D;by_cases E:c=92
     ·subst E
      clear ac F z;go_wp2_with fail
      go_quiet (fail)
      go_wp2_with fail
      refine (DF (j.drewN _) q f.o.1).mono ?_;rintro e w3 ⟨v,rfl,az,aA,J,k3,M,C,X⟩;have HO:=ae X;clear X;have ag:=encode_size_le v;have al:=uo o;have av:(Utf8.encode v).data.toList.length≤4:=by rw[Array.length_toList];exact ag
      go_wp2_with fail
      cases M with
      |true=>
       go_roundg 0
       case measure=>rw[P.o.2];simp
       case rel=>
        refine⟨k3,true,o ++(Utf8.encode v).data.toList,rfl,by rw[l5],C,(y.drewN _).trans J,fun e=>(by cases e),fun _=> ?_⟩
        cases he:esc q with
        |some x=>
         have:=HO.o;rw[he]at this;cases this.1
        |none=>
         rw[P.o.1.2,py f.o.1 (by decide) (by simp[ch,he])];rfl
      |false=>
       cases he:esc q with
       |none=>
        have:=HO.o;rw[he]at this;cases this
       |some x=>
        obtain⟨x,r⟩:=x;have X:=HO.o;rw[he]at X;obtain⟨_,rfl,Z⟩:=X;have ak:=eZ s k3;have au:=l8 he;rw[Z]at ak;have ar:=C.good rfl;simp only[List.length_cons]at A;go_roundg (s.size - k3+1)
        case measure=>rw[P.o.2];simp;omega
        case rel=>
         refine⟨k3,false,o ++(Utf8.encode (x:Int)).data.toList,by simp,by rw[l5],C,(y.drewN _).trans J,fun _=>⟨?_, ?_⟩,fun e=>(by cases e)⟩
         ·rw[List.length_append]
          omega
         ·rw[P.o.1.2,xF f.o.1 (by decide) (o:=(Utf8.encode (x:Int)).data.toList) (r:=r) (by simp[ch,he]),mG,Z]
     have ap:=u8n E;simp only[UInt8.reduceToNat,Int.cast_ofNat_Int]at ap;have ad:=ae E;clear E;have TB:Lib.Utf8Tabs 4 5 wr:=hG.tabs' j.old;have U:c :: q≠[]:=by simp
     have an:=Lib.decodeL_width (c :: q);have ab:=Lib.decodeL_le (c :: q) U;have H:=qO s k' I;rw[f.o.1]at H
     have G:ch true c q=if (Lib.decodeL (c :: q)).1=65533∧(Lib.decodeL (c :: q)).2=1 then none else some ((c :: q).take (Lib.decodeL (c :: q)).2,(c :: q).drop (Lib.decodeL (c :: q)).2):=by
      unfold ch;rw[if_neg ao,if_neg ad.o];rfl
     generalize Lib.decodeL (c :: q)=dd at *;obtain⟨rr,n⟩:=dd;simp only at an ab G;have HD:=ae (An H G);clear H G U z;simp only[List.length_cons]at A ab;go_wp2_with fail
     go_quiet (fail)
     go_wp2_with fail
     go_region_law (refine dG rfl 131 #[.string (s.extract k' s.size)] (by go_simp) ?_;refine (Tryz.utf8_DecodeRuneInString _ _ (by exact TB)).mono ?_;rintro e w3 ⟨rfl,K⟩;rw[HD.o.1])
     all_goals
      have KW:Kp (fun _=>False) wr w3:=((Kp.refl _ _).drewN (m+nq+1)).trans ⟨K.os,K.tape,K.output,K.size,fun i hi _=>K.block i hi⟩;have C:Rs W w3 rb s k' false:=j.keep KW (by simp) (by simp);have J:Kp (· =rb) w w3:=y.trans (KW.mono (fun _ _ h=>h.elim));have al:=uo o
      have aq:(s.extract k' (k'+n)).size=n:=by
       have:=ue (s:=s) (a:=k') (b:=k'+n) (by omega);rw[Array.length_toList]at this;exact this.trans (by omega)
      have aa:(s.extract k' (k'+n)).data.toList=(c :: q).take n:=by rw[jX,f.o.1]
      have B:ah s (k'+n)=(c :: q).drop n:=by rw[gx,f.o.1]
      have TT:=ae (An aa B);clear aa B K KW TB;clear N O Q f1 f2 S j y;by_cases u:rr=65533∧n=1
      ·obtain⟨rfl,rfl⟩:=u
       have hz:br true t=none:=by
        rw[P.o.1.2,py f.o.1 L.o (by rw[HD.o.2];simp)];rfl
       have HZ:=ae hz;clear hz;have h4:=C.turn true (fun e=>by cases e);have K4:Kp (· =rb) w (w3.setCell ⟨rb,2,none⟩ (.bool true)):=Kp.setCell (p:=⟨rb,2,none⟩) J (fun _=>rfl) _;obtain⟨N,O,Q,f1,f2,S⟩:=C.facts;go_wp2_with fail
       clear N O Q f1 f2 S C J;generalize (w3.setCell ⟨rb,2,none⟩ (.bool true))=w4 at *;obtain⟨N,O,Q,f1,f2,S⟩:=h4.facts;go_quiet (fail)
       go_wp2;go_roundg 0
       case measure=>rw[P.o.2];simp
       case rel=>
        exact⟨k'+1,true,o ++(s.extract k' (k'+1)).data.toList,rfl,by rw[l5],(h4.drewN _).at (k'+1) (by omega) (fun e=>by cases e),Kp.setCell (p:=⟨rb,1,none⟩) (K4.drewN _) (fun _=>rfl) _,fun e=>(by cases e),fun _=>HZ.o⟩
      ·have hz:br true t=(br true (ah s (k'+n))).map fun x=>((o ++(s.extract k' (k'+n)).data.toList) ++x.1,x.2):=by
        rw[P.o.1.2,xF f.o.1 L.o (by rw[HD.o.2,if_neg u]),mG,TT.o.1,TT.o.2]
       have T:(o ++(s.extract k' (k'+n)).data.toList).length≤4*(k'+n):=by
        rw[List.length_append,TT.o.1,List.length_take];omega
       have HZ:=ae (An hz T);clear hz T;obtain⟨N,O,Q,f1,f2,S⟩:=C.facts
       have Y:((rr:Int) == 65533)=false∨(((rr:Int) == 65533)=true∧((n:Int) == 1)=false):=by
        by_cases e:rr=65533
        ·right
         have:n≠1:=fun h=>u ⟨e,h⟩
         refine⟨by simp;omega,by simp;omega⟩
        ·left
         simp;omega
       clear u;rcases Y with am | ⟨am,ax⟩
       all_goals
        go_wp2_with fail
        go_quiet (fail)
        go_wp2;go_roundg (s.size - (k'+n)+1)
        case measure=>rw[P.o.2];simp;omega
        case rel=>
         refine⟨k'+n,false,o ++(s.extract k' (k'+n)).data.toList,by simp,by rw[l5], ?_,Kp.setCell (p:=⟨rb,1,none⟩) (J.drewN _) (fun _=>rfl) _,fun _=>⟨HZ.o.2,HZ.o.1⟩,fun e=>(by cases e)⟩;exact (C.drewN _).at (k'+n) (by omega) (fun _=>by omega)
end
end Go.Proofs.YtocligpfmfmihaaGreatDoor
