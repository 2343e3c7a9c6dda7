import Derived.Test.YtocligpfmfmihaaGreatDoorRd3G
import Derived.Test.YtocligpfmfmihaaGreatDoorShelf
import Derived.Laws.IdiomStrings
import Derived.Lib.RuneBytes
import Derived.OwnWalk
import Derived.Test.YtocligpfmfmihaaGreatDoorSizeG
set_option maxRecDepth 8000
namespace Go.Proofs.YtocligpfmfmihaaGreatDoor
open Go.Proofs.Tryz
section
open Go Go.RowKit
variable{S:Nat→Prop}{w w':World}
theorem an{B:Nat}{e:TypeId}{sz n:Nat}{v:Value}{xs:List Value}(h:w.ownsRow B e sz v n xs)(hk:Kp S w w')(hS:∀k,v.ownBlock=some k→¬S k):w'.ownsRow B e sz v n xs:=by
 obtain⟨i,d⟩:=h;refine⟨i, ?_⟩;rcases d with d | ⟨g,a,b,rfl,l,f,r⟩
 ·exact Or.inl d
 ·have j:g < w.heap.size:=by
   rcases Nat.lt_or_ge g w.heap.size with c | c
   ·exact c
   ·rw[Array.getElem?_eq_none c]at f;cases f
  exact Or.inr ⟨g,a,b,rfl,l,by rw[hk.block g j (hS g rfl)];exact f,r⟩
theorem Kp.grown{a:World}{row:Option Nat}(h:Kp S a w)(hg:w.grownBy w' row)(hrow:∀k,row=some k→k < a.heap.size→S k):Kp S a w':=
 ⟨hg.os.trans h.os,hg.tape.trans h.tape,hg.output.trans h.output,Nat.le_trans h.size hg.size,fun k hk hs=>
  (hg.block k (Nat.lt_of_lt_of_le hk h.size) (fun e=>hs (hrow k e.symm hk))).trans (h.block k hk hs)⟩
theorem Kp.and{a b:World}{T:Nat→Prop}(h:Kp S a b)(k:Kp T b w)(hT:∀i,i < a.heap.size→T i→S i):Kp S a w:=
 ⟨k.os.trans h.os,k.tape.trans h.tape,k.output.trans h.output,Nat.le_trans h.size k.size,fun i hi hs=>(k.block i (Nat.lt_of_lt_of_le hi h.size) (fun x=>hs (hT i hi x))).trans (h.block i hi hs)⟩
theorem St.keep{W:World}{rb k d:Nat}{s:ByteArray}(h:St W w rb s k d)(hk:Kp S w w')(h1:∀i,S i→W.heap.size≤i)(h2:¬S rb):St W w' rb s k d:=
 ⟨h.glob,h.old.trans ⟨hk.os,hk.tape,hk.output,hk.size,fun i hi=>hk.block i (Nat.lt_of_lt_of_le hi h.old.size) (fun x=>by have:=h1 i x;omega)⟩,h.rdr.kp hk h2,h.ge,h.le,h.sz⟩
theorem j0:(prog.info? 5).map (fun i=>(i.zero,i.size,i.bytes))=some (some (.int .u8 0),1,1):=by kernel_rfl
theorem kK{B n:Nat}{v:Value}{o:List UInt8}(h:w.ownsRow B 5 1 v n (Lib.byteCells o)):(convert 124 9 v).run prog w=.ok (.string ⟨o.toArray⟩) w:=by
 obtain⟨i,k⟩:=h;have c:o.length=n:=by simpa[Lib.byteCells] using i
 rcases k with⟨rfl,rfl⟩ | ⟨g,b,a,rfl,q,l,r,s,t,p⟩
 ·have:o=[]:=List.eq_nil_of_length_eq_zero c
  subst this;rw[run_convert_bytes_string w 124 9 5 none 0 0 underlying124 underlying5 underlying9];simp[Conv.bytesToString];rfl
 ·subst c
  refine run_convert_bytes_back w 124 9 5 ⟨g,0,none⟩ b o underlying124 underlying5 underlying9 ?_;intro j m
  have e:a[j]? =some (Value.int .u8 (o[j].toNat:Int)):=by
   have:(a.toList.take (o.length*1))[j]? =(Lib.byteCells o)[j]? :=by rw[p]
   rw[List.getElem?_take_of_lt (by omega)]at this;simpa[Lib.byteCells,m] using this
  have d:(⟨g,0,none⟩:Addr).add j=⟨g,j,none⟩:=by
   unfold Addr.add;by_cases f:j=0 <;> simp[f]
  rw[d];simp[World.cell?,l,e]
theorem qg{l:List UInt8}{c:UInt8}{t o r:List UInt8}(h:l=c :: t)(hc:c≠34)(hh:ch false c t=some (o,r)):br false l=(br false r).map fun x=>(o ++x.1,x.2):=by subst h;rw[bN,if_neg hc,hh]
theorem rP{l:List UInt8}{c:UInt8}{t:List UInt8}(h:l=c :: t)(hc:c≠34)(hh:ch false c t=none):br false l=none:=by subst h;rw[bN,if_neg hc,hh]
theorem Dg(x:Nat)(hx:okR x):dU x=Lib.encodeRune (x:Int):=by
 unfold Lib.encodeRune;have a:=hx;unfold okR at a;rcases ig x hx with⟨h1,e⟩ | ⟨h1,h2,e⟩ | ⟨h1,h2,e⟩ | ⟨h1,e⟩ <;> rw[e]
 ·rw[Lib.encodeRuneZ_one (by omega) (by omega)]
  simp
 ·rw[Lib.encodeRuneZ_two (by omega) (by omega)]
  simp only[List.map_cons,List.map_nil]
  repeat' (first | rfl | omega | congr 1)
 ·rw[Lib.encodeRuneZ_three (by omega)]
  simp only[List.map_cons,List.map_nil]
  repeat' (first | rfl | omega | congr 1)
 ·rw[Lib.encodeRuneZ_four (by omega) (by omega)]
  simp only[List.map_cons,List.map_nil]
  repeat' (first | rfl | omega | congr 1)
theorem dW(a b:List UInt8):Lib.byteCells (a ++b)=Lib.byteCells a ++Lib.byteCells b:=by simp[Lib.byteCells]
theorem kR(a:List UInt8):(Lib.byteCells a).length=a.length:=by simp[Lib.byteCells]
theorem rU(W:World)(rb:Nat)(s:ByteArray)(k d:Nat)(w:World)(hr:St W w rb s k d)(t0:List UInt8)(hl:ah s k=34 :: t0):
  Calls prog 161 #[.pointer (some ⟨rb,0,none⟩)] w fun e w'=>
   Res W rb s d w (br false t0) (fun _ o v=>v=.string ⟨o.toArray⟩∧o.length≤2400) e w':=by
 have ao:=hr.sz;obtain⟨g1,g2,g3,g4⟩:=ek hl;have H:=ae (An g2 g3);clear hl g2 g3 g4;obtain⟨i0,B,ab,ac,ad⟩:=info_parts j0;go_enter func161,ntmps161;go_wp2_with fail
 refine (jO W rb s k d _ hr 34 H.o.1).mono ?_;rintro e w1 ⟨rfl,h1,h2⟩;obtain⟨c0,c1,c2,f1,f2,hb⟩:=h1.rdr.facts;have am:rb < w.heap.size:=hr.rdr.facts.2.2.2.2.2;go_wp2_with fail
 go_loopg [3] (s.size - (k+1)) (fun g v wr=>∃(k':Nat) (o:List UInt8),g=s.size - k'∧k < k'∧o.length≤4*k'∧St W wr rb s k' d∧Kp (· =rb) w wr∧wr.ownsRow w.heap.size 5 1 v o.length (Lib.byteCells o)∧br false t0=(br false (ah s k')).map fun x=>(o ++x.1,x.2))
 case atStart=>
  refine⟨k+1,[],rfl,by omega,by simp,h1.at (k+1) g1,Kp.setCell (p:=⟨rb,1,none⟩) h2 (fun _=>rfl) _,World.ownsRow_nil _ _ _ _, ?_⟩;rw[H.o.2];cases br false t0 <;> simp
 case round=>
  obtain⟨k',o,Z,aj,al,M,N,q3,q4⟩:=hrel;have Q:=ae (An Z q4);clear Z q4;have aa:=M.le;clear c0 c1 c2 f1 f2 hb;generalize hl:ah s k'=l;rcases l with _ | ⟨c,t⟩
  ·have f:=nz hl aa
   have e:=Q.o.2;rw[hl,fL]at e;have E:Hid (br false t0=none):=e;clear hl e;go_wp2_with fail
   refine (nu W rb s k' d _ M f).mono ?_;rintro e w2 ⟨F,h⟩;obtain⟨T,m,g,K,rfl,q⟩:=h;exact⟨rfl,aX E.o ⟨N.trans F,T,m,g,K,rfl,Nat.le_trans N.size q.1,q.2⟩⟩
  obtain⟨a1,a2,a3,a4⟩:=ek hl;have A:=ae (An hl (An a3 (a4 a1)));clear hl a2 a3 a4;have V:c.toNat < 256:=c.toNat_lt;go_wp2_with fail
  refine (dw W rb s k' d _ M a1).mono ?_;rintro e w2 ⟨rfl,F,h⟩;rw[A.o.2.2]
  have a:w2.ownsRow w.heap.size 5 1 u3 o.length (Lib.byteCells o):=by
   refine an q3 h ?_;intro k f e;have:=(q3.lt k f).1;omega
  replace h:=N.trans h;clear M N q3;by_cases y:c=34
  ·subst y
   have X:=kK a;go_wp2;go_ret;refine aU (x:=o) (r:=t) ?_ h ⟨rfl,by omega⟩ F A.o.2.1;rw[Q.o.2,A.o.1,bN,if_pos rfl];simp
  have ap:((c.toNat:Int) == 34)=false:=u8n y;have n:=ae y;clear y;by_cases z:c=92
  ·subst z
   go_wp2_with fail
   refine (yV W rb s (k'+1) d _ F).mono ?_;rintro e w3 ⟨O,v2⟩;rw[A.o.2.1]at v2
   cases hy:esc t with
   |none=>
    rw[hy]at v2;obtain⟨T,m,g,K,rfl,q⟩:=v2;refine⟨rfl,aX ?_ ⟨h.trans O,T,m,g,K,rfl,Nat.le_trans h.size q.1,q.2⟩⟩;rw[Q.o.2,rP A.o.1 n.o (by simp[ch,hy])];rfl
   |some p=>
    obtain⟨x,r⟩:=p;rw[hy]at v2;obtain⟨_,m,rfl,rfl,z1,z2⟩:=v2;have D:=(wL hy).1;have ag:=l8 hy;have hx:(x:Int)≤1114111:=by unfold okR at D;omega
    have b:w3.ownsRow w.heap.size 5 1 u3 o.length (Lib.byteCells o):=by
     refine an a O ?_;intro k f e;have:=(a.lt k f).1;omega
    have Y:=ae (An hy (An z2 D));clear hy z2 D
    have ai:k'+1 < m:=by
     have e1:(ah s m).length=s.size - m:=by simp[ah]
     have e2:t.length=s.size - (k'+1):=by rw[←A.o.2.1];simp[ah]
     rw[Y.o.2.1]at e1;have:=z1.le;omega
    go_wp2_with fail
    refine (Tryz.utf8_AppendRune_plain w.heap.size u3 o.length (Lib.byteCells o) x (by omega) (by omega) _ b (by omega) (h.trans O).size).mono ?_;rintro e w4 ⟨v',rfl,G,ob,I⟩;have K4:Kp (· =rb) w w4:=((h.trans O).alloc ob).grown I (fun k f hlt=>by have:=(b.lt k f).1;omega);have S4:St W w4 rb s m d:=(z1.keep (S:=fun _=>False) ((Kp.refl _ _).alloc ob) (by simp) (by simp)).keep (S:=fun k=>u3.ownBlock=some k) ((Kp.refl _ _).grown I (fun k f _=>f)) (fun i B=>by have:=(b.lt i B).1;have:=z1.old.size;have:=hr.old.size;omega) (fun B=>by have:=(b.lt rb B).1;omega);have J:Lib.runeCells (x:Int)=Lib.byteCells (dU x):=by rw[Dg x Y.o.2.2,Lib.byteCells_encodeRune]
    have e6:=Lib.runeCells_le (x:Int);rw[J,kR,←dW,←List.length_append]at G;have R:=ae G;have ak:(dU x).length≤4:=by rw[J,kR]at e6;omega
    clear G J e6 I b a;go_wp2;go_roundg (s.size - m)
    case measure=>rw[Q.o.1];omega
    case rel=>
     refine⟨m,o ++dU x,rfl,by omega,by rw[List.length_append];omega,S4,K4,R.o, ?_⟩;have C:ch false 92 t=some (dU x,r):=by simp[ch,Y.o.1,dU]
     rw[Q.o.2,qg A.o.1 n.o C,Y.o.2.1];cases br false r <;> simp
  have aq:((c.toNat:Int) == 92)=false:=u8n z;have P:=ae z;clear z;by_cases U:(c.toNat:Int) < 32
  ·obtain⟨K,Z,he⟩:=F.err 20 (by decide) (by decide)
   go_wp2_with (go_at_call 111;refine (cV rb s (k'+1) d _ F.rdr _ _).mono ?_;rintro e w' ⟨rfl,rfl⟩)
   refine⟨rfl,aX ?_ (bL h he)⟩;rw[Q.o.2,rP A.o.1 n.o (by simp[ch,UInt8.lt_iff_toNat_lt];omega)];rfl
  ·have af:32≤(c.toNat:Int):=by omega
   clear U;go_wp2_with (at_builtin;refine wpList_append_own _ rfl _ _ 124 rfl w.heap.size 5 i0 (.int .u8 0) 1 1 underlying124 B ab ac ad rfl (by decide) _ _ _ rfl (a.alloc _) ⟨w2.heap.size,0,none⟩ 1 1 [.int .u8 c.toNat] rfl rfl ?c1 ?c2 ?c3 ?c4 ?c5 ?_)
   case c1=>
    intro j u L
    match j,L with
    |0,L=>simp at L;subst L;simp[Addr.add]
   case c2=>intro u hu;simp at hu;subst hu;rfl
   case c3=>unfold maxLen;omega
   case c4=>omega
   case c5=>have:=h.size;simp;omega
   intro v' w3 G I _;have K3:Kp (· =rb) w w3:=(h.alloc _).grown I (fun k f hlt=>by have:=(a.lt k f).1;omega);have S3:St W w3 rb s (k'+1) d:=(F.keep (S:=fun _=>False) ((Kp.refl _ _).alloc _) (by simp) (by simp)).keep (S:=fun k=>u3.ownBlock=some k) ((Kp.refl _ _).grown I (fun k f _=>f)) (fun i B=>by have:=(a.lt i B).1;have:=hr.old.size;omega) (fun B=>by have:=(a.lt rb B).1;omega);have J:[Value.int .u8 (c.toNat:Int)]=Lib.byteCells [c]:=rfl;rw[J,←dW]at G;have R:Hid (w3.ownsRow w.heap.size 5 1 v' (o ++[c]).length (Lib.byteCells (o ++[c]))):=by rw[List.length_append];exact G
   clear G J I a;go_wp2;go_roundg (s.size - (k'+1))
   case measure=>rw[Q.o.1];omega
   case rel=>
    refine⟨k'+1,o ++[c],rfl,by omega,by rw[List.length_append];simp;omega,S3,K3,R.o, ?_⟩
    have C:ch false c t=some ([c],t):=by
     unfold ch;rw[if_neg (by rw[UInt8.lt_iff_toNat_lt];show ¬c.toNat < 32;omega),if_neg P.o];rfl
    rw[Q.o.2,qg A.o.1 n.o C,A.o.2.1];cases br false t <;> simp
theorem vC(W:World)(rb:Nat)(s:ByteArray)(k d:Nat)(w:World)(hr:St W w rb s k d)(hl:(ah s k).head? ≠some 34):
  Calls prog 161 #[.pointer (some ⟨rb,0,none⟩)] w fun e w'=>Kp (· =rb) w w'∧eP W w w' e:=by
 generalize hc:nxt (ah s k)=c
 have b:c≠34:=by
  subst hc;generalize ah s k=l at hl
  cases l with
  |nil=>simp[nxt]
  |cons a l=>simpa[nxt] using hl
 have j:((c.toNat:Int) != 34)=true:=by
  have:=u8n b;simp only[bne,Bool.not_eq_true'];exact this
 have g:=ae hc;clear hc b hl;go_enter func161,ntmps161;go_wp2_with fail
 refine (jO W rb s k d _ hr c g.o).mono ?_;rintro e w1 ⟨rfl,f,h⟩;obtain⟨m,n,i⟩:=f.err 19 (by decide) (by decide);go_wp2_with (go_at_call 111;refine (cV rb s k d _ f.rdr _ _).mono ?_;rintro e w' ⟨rfl,rfl⟩)
 exact⟨rfl,bL h i⟩
end
section
open Go.Lib
def Shr{σ:Type}(p:σ→Bs→Option (σ×Bs)):Prop:=∀a s b r,p a s=some (b,r)→r.length≤s.length
theorem BF(p:UInt8→Bool)(s:Bs):(s.dropWhile p).length≤s.length:=(List.dropWhile_suffix _).length_le
theorem uy{s r:Bs}{n:Nat}(h:iO s=some (n,r)):r.length≤s.length:=by
 unfold iO at h;split at h
 ·simp only[Option.some.injEq,Prod.mk.injEq]at h
  obtain⟨_,rfl⟩:=h;exact BF _ _
 ·cases h
theorem B4{s r:Bs}{n:Int}(h:eA s=some (n,r)):r.length≤s.length:=by
 unfold eA at h;split at h
 ·cases h
 ·split at h
  ·split at h
   ·rename_i a
    have:=uy a;split at h
    ·cases h
    ·simp only[Option.some.injEq,Prod.mk.injEq]at h
     obtain⟨_,rfl⟩:=h;simp only[List.length_cons];omega
   ·cases h
  ·simp only[Option.map_eq_some_iff,Prod.mk.injEq]at h
   obtain⟨⟨x,y⟩,a,_,rfl⟩:=h;exact uy a
theorem zM{s r:Bs}{j:J}(h:b7 s=some (j,r)):r.length≤s.length:=by
 unfold b7 at h
 repeat' split at h
 all_goals first
  | (cases h;done)
  | (simp only[Option.some.injEq,Prod.mk.injEq]at h;obtain⟨_,rfl⟩:=h;simp only[List.length_drop];omega)
theorem uC{u:Bool}{c:UInt8}{t r:Bs}{j:J}(h:cE u c t=some (j,r)):r.length≤(c :: t).length:=by
 unfold cE at h;split at h
 ·simp only[Option.map_eq_some_iff,Prod.mk.injEq]at h
  obtain⟨⟨x,y⟩,a,_,rfl⟩:=h;have:=kL t.length (Nat.le_refl _) a;simp only[List.length_cons];omega
 ·split at h
  ·simp only[Option.map_eq_some_iff,Prod.mk.injEq]at h
   obtain⟨⟨x,y⟩,a,_,rfl⟩:=h;exact B4 a
  ·exact zM h
theorem zH{σ:Type}{p:σ→Bs→Option (σ×Bs)}(hp:Shr p){e:UInt8}:∀n a s b r,bc p e n a s=some (b,r)→r.length≤s.length:=by
 intro n
 induction n with
 |zero=>intro a s b r h;simp[bc]at h
 |succ n ih=>
  intro a s b r h;have d:=cN s;unfold bc at h;split at h
  ·cases h
  ·rename_i c t hc
   rw[hc]at d;simp only[List.length_cons]at d;split at h
   ·split at h
    ·rename_i b' r' hb
     have:=hp _ _ _ _ hb;have:=ih _ _ _ _ h;omega
    ·cases h
   ·split at h
    ·simp only[Option.some.injEq,Prod.mk.injEq]at h
     obtain⟨_,rfl⟩:=h;omega
    ·cases h
theorem uG{σ:Type}{p:σ→Bs→Option (σ×Bs)}(hp:Shr p){e:UInt8}{a b:σ}{s r:Bs}(h:bD p e a s=some (b,r)):r.length≤s.length:=by
 have c:=cN s;unfold bD at h;split at h
 ·simp only[Option.some.injEq,Prod.mk.injEq]at h
  obtain⟨_,rfl⟩:=h;simp only[List.length_tail];omega
 ·split at h
  ·rename_i hb
   have:=hp _ _ _ _ hb;have:=zH hp _ _ _ _ _ h;omega
  ·cases h
theorem pp{pv:Bs→Option (J×Bs)}(hv:∀s j r,pv s=some (j,r)→r.length≤s.length):Shr (pEl pv):=by
 intro a s b r h;unfold pEl at h;simp only[Option.map_eq_some_iff,Prod.mk.injEq]at h;obtain⟨⟨x,y⟩,c,_,rfl⟩:=h;exact hv _ _ _ c
theorem ns{u:Bool}{pv:Bs→Option (J×Bs)}(hv:∀s j r,pv s=some (j,r)→r.length≤s.length):Shr (bq u pv):=by
 intro a s b r h;have e:=cN s;unfold bq at h;split at h
 ·cases h
 ·rename_i c t hc
  rw[hc]at e;simp only[List.length_cons]at e;split at h
  ·split at h
   ·cases h
   ·rename_i k r' hk
    have g:=kL t.length (Nat.le_refl _) hk;have d:=cN r';split at h
    ·cases h
    ·split at h
     ·cases h
     ·rename_i c' q hq
      rw[hq]at d;simp only[List.length_cons]at d;split at h
      ·simp only[Option.map_eq_some_iff,Prod.mk.injEq]at h
       obtain⟨⟨x,y⟩,f,_,rfl⟩:=h;have:=hv _ _ _ f;show y.length≤s.length
       omega
      ·cases h
  ·cases h
theorem iv{u:Bool}:∀(d:Nat) (s:Bs) (j:J) (r:Bs),az u d s=some (j,r)→r.length≤s.length:=by
 intro d
 induction d with
 |zero=>
  intro s j r h;have a:=cN s;unfold az at h;split at h
  ·cases h
  ·rename_i c t hc
   rw[hc]at a;split at h
   ·cases h
   ·have:=uC h;omega
 |succ d ih=>
  intro s j r h;have a:=cN s;unfold az at h;split at h
  ·cases h
  ·rename_i c t hc
   rw[hc]at a;simp only[List.length_cons]at a;split at h
   ·simp only[Option.map_eq_some_iff,Prod.mk.injEq]at h
    obtain⟨⟨x,y⟩,b,_,rfl⟩:=h;have:=uG (ns ih) b;show y.length≤s.length
    omega
   ·split at h
    ·simp only[Option.map_eq_some_iff,Prod.mk.injEq]at h
     obtain⟨⟨x,y⟩,b,_,rfl⟩:=h;have:=uG (pp ih) b;show y.length≤s.length
     omega
    ·have:=uC h
     simp only[List.length_cons]at this;omega
end
section
open Go Go.RowKit
def Ser{σ:Type}(W:World)(rb:Nat)(s:ByteArray)(d:Nat)(w0:World)(o:Option (σ×List UInt8))(I:σ→World→Prop)(e:Ending)(w':World):Prop:=
 Kp (· =rb) w0 w'∧match o with
 |some (y,r)=>e=.returned (.tuple #[])∧I y w'∧∃k',St W w' rb s k' d∧ah s k'=r
 |none=>eP W w0 w' e
theorem dR{σ:Type}{W:World}{rb:Nat}{s:ByteArray}{d:Nat}{w0 w':World}{o:Option (σ×List UInt8)}{I:σ→World→Prop}{e:Ending}
  (h:o=none) (hk:Kp (· =rb) w0 w'∧eP W w0 w' e):Ser W rb s d w0 o I e w':=by
 subst h;exact hk
theorem kN{σ:Type}{W:World}{rb:Nat}{s:ByteArray}{d k':Nat}{w0 w':World}{o:Option (σ×List UInt8)}{I:σ→World→Prop}{y:σ}{r:List UInt8}
  (h:o=some (y,r)) (hk:Kp (· =rb) w0 w') (hi:I y w') (hs:St W w' rb s k' d) (hr:ah s k'=r):Ser W rb s d w0 o I (.returned (.tuple #[])) w':=by
 subst h;exact⟨hk,rfl,hi,k',hs,hr⟩
structure One{σ:Type}(W:World)(rb:Nat)(s:ByteArray)(d:Nat)(w0:World)(p:σ→List UInt8→Option (σ×List UInt8))(I:σ→World→Prop)(m:σ→Nat)(f:FuncId)(a b:Value):Prop where
 keep:∀x w1 w2,I x w1→Kp (· =rb) w1 w2→I x w2
 shr:Shr p
 skp:∀x l,p x (sk l)=p x l
 ent:∀w,(callFunc f #[a,b]).run prog w=.ok (.enter f #[a,b]) w
 inc:∀x l y r,p x l=some (y,r)→m y≤m x+1
 call:∀x w1 k1,m x≤700→St W w1 rb s k1 d→I x w1→Kp (· =rb) w0 w1→Calls prog f #[a,b] w1 fun e w2=>Ser W rb s d w0 (p x (ah s k1)) I e w2
theorem qs{σ:Type}(W:World)(rb:Nat)(s:ByteArray)(k d:Nat)(w0 w:World)(p:σ→List UInt8→Option (σ×List UInt8))(I:σ→World→Prop)(m:σ→Nat)(f:FuncId)(a b:Value)
  (i:One W rb s (d+1) w0 p I m f a b) (hr:St W w rb s k d) (x0:σ) (hm0:m x0=0) (hI:I x0 w) (hk:Kp (· =rb) w0 w) (hd:d < 6)
  (qb qe:Int) (bb be:UInt8) (hqb:qb=bb.toNat) (hqe:qe=be.toNat) (hb0:be≠0) (_hb44:be≠44) (t:List UInt8) (hl:sk (ah s k)=bb :: t) :
  Calls prog 202 #[.pointer (some ⟨rb,0,none⟩),.int .u8 qb,.int .u8 qe,.func (.func f) #[] #[a,b]] w fun e w'=>
   Ser W rb s d w0 (bD p be x0 t) I e w':=by
 have ag:=hr.sz;have N:=ae (An hqb hqe);have HL:=ae hl;clear hqb hqe hl;have af:(d:Int) < 6:=by omega
 have ad:=i.ent;go_enter func202,ntmps202;go_wp2_with fail
 refine (kE W rb s k d _ hr qb bb N.o.1 t HL.o).mono ?_;rintro e w1 ⟨rfl,a1,k1,a2,a3⟩;have A3:=ae a3;clear a3;obtain⟨c0,c1,c2,f1,f2,j⟩:=a2.rdr.facts;have K1:=hk.trans a1;have I1:=i.keep _ _ _ hI a1;have S2:=a2.dep (d+1);have K2:Kp (· =rb) w0 (w1.setCell ⟨rb,2,none⟩ (.int .i64 ((d+1:Nat):Int))):=Kp.setCell (p:=⟨rb,2,none⟩) K1 (fun _=>rfl) _;have I2:=i.keep _ _ _ I1 (Kp.setCell (p:=⟨rb,2,none⟩) (Kp.refl (· =rb) w1) (fun _=>rfl) (.int .i64 ((d+1:Nat):Int)))
 have X:∀(y:σ) (w9:World) (A:Nat),St W w9 rb s A (d+1)→I y w9→Kp (· =rb) w0 w9→St W (w9.setCell ⟨rb,2,none⟩ (.int .i64 d)) rb s A d∧I y (w9.setCell ⟨rb,2,none⟩ (.int .i64 d))∧Kp (· =rb) w0 (w9.setCell ⟨rb,2,none⟩ (.int .i64 d)):=
  fun y w9 A E J B=>⟨E.dep d,i.keep _ _ _ J (Kp.setCell (p:=⟨rb,2,none⟩) (Kp.refl (· =rb) w9) (fun _=>rfl) _),Kp.setCell (p:=⟨rb,2,none⟩) B (fun _=>rfl) _⟩
 have L:=ae X;clear X K1 I1;have l:Hid (One W rb s (d+1) w0 p I m f a b):=i;have M0:=ae hm0;clear hm0;clear i;by_cases u:(sk t).head? =some be
 ·obtain⟨t',ht'⟩:∃t',sk t=be :: t':=by
   cases hst:sk t with
   |nil=>rw[hst]at u;cases u
   |cons c q=>
    rw[hst]at u;simp only[List.head?_cons,Option.some.injEq]at u;exact⟨q,by rw[u]⟩
  have T:=ae (An u ht');clear u ht';go_wp2_with fail
  refine (kP W rb s k1 (d+1) _ S2 qe be N.o.2 t' (by rw[A3.o];exact T.o.2)).mono ?_;rintro e w3 ⟨rfl,E,k3,J,B⟩;have B3:=ae B;clear B c0 c1 c2 f1 f2 j;obtain⟨c0,c1,c2,f1,f2,j⟩:=J.rdr.facts;have O:=l.o.keep _ _ _ I2 E;have F:=L.o _ _ _ J O (K2.trans E);clear O;go_wp2;go_end0
  refine kN ?_ F.2.2 F.2.1 F.1 B3.o;rw[bD,if_pos T.o.1,T.o.2];rfl
 ·have T:=ae u
  clear u;go_wp2_with fail
  refine (mo W rb s k1 (d+1) _ S2 qe be N.o.2 hb0 (by rw[A3.o];exact T.o)).mono ?_;rintro e w3 ⟨rfl,E,k3,J,B⟩;have B3:Hid (ah s k3=sk t):=by rw[A3.o]at B;exact B
  clear B c0 c1 c2 f1 f2 j;have O:=l.o.keep _ _ _ I2 E;have K3:=K2.trans E;clear I2 K2;go_wp2_with fail
  refine (l.o.call _ _ _ (by rw[M0.o];omega) J O K3).mono ?_;rintro e w4 ⟨d1,S⟩;rw[B3.o,l.o.skp]at S
  cases hp:p x0 t with
  |none=>
   rw[hp]at S;obtain⟨V,A,g,R,rfl,q⟩:=S;refine⟨rfl,dR ?_ ⟨d1,V,A,g,R,rfl,q⟩⟩;rw[bD,if_neg T.o,hp]
  |some z=>
   obtain⟨y,r⟩:=z;rw[hp]at S;obtain⟨rfl,I4,k4,S4,d3⟩:=S;have hs:bD p be x0 t=bc p be (r.length+1) y r:=by rw[bD,if_neg T.o,hp]
   have aa:m y+(r.length+1)≤602:=by
    have H:=l.o.inc _ _ _ _ hp;have U:=l.o.shr _ _ _ _ hp;have K:t.length≤s.size:=by rw[←A3.o];simp[ah]
    rw[M0.o]at H;omega
   have D:=ae (An d3 (An hs aa));clear d3 hs aa hp O K3;go_wp2_with fail
   go_loopg [] (r.length+1) (fun n wr=>∃(x:σ) (k':Nat),St W wr rb s k' (d+1)∧I x wr∧Kp (· =rb) w0 wr∧(ah s k').length < n∧m x+n≤602∧bc p be n x (ah s k')=bD p be x0 t)
   case atStart=>exact⟨y,k4,S4,I4,d1,by rw[D.o.1];omega,D.o.2.2,by rw[D.o.1,D.o.2.1]⟩
   case round=>
    clear S4 I4 d1;obtain⟨x,k',q1,q2,q3,q4,q6,q5⟩:=hrel;obtain⟨n,rfl⟩:∃n,gk=n+1:=⟨gk - 1,by omega⟩;have Q:=ae (An q4 q5);have M:=ae q6;clear q4 q5 q6;by_cases C:(sk (ah s k')).head? =some 44
    ·obtain⟨q,hq⟩:∃q,sk (ah s k')=44 :: q:=by
      cases hst:sk (ah s k') with
      |nil=>rw[hst]at C;cases C
      |cons c q=>
       rw[hst]at C;simp only[List.head?_cons,Option.some.injEq]at C;exact⟨q,by rw[C]⟩
     have h:=ae hq;clear C hq;go_wp2_with fail
     refine (kP W rb s k' (d+1) _ q1 44 44 rfl q h.o).mono ?_;rintro e w5 ⟨rfl,H,k5,U,K⟩;have E3:=ae K;clear K;have I5:=l.o.keep _ _ _ q2 H;have P:=q3.trans H;go_wp2_with fail
     refine (l.o.call _ _ _ (by have:=M.o;omega) U I5 P).mono ?_;rintro e w6 ⟨g1,Y⟩;rw[E3.o]at Y;have Z:bc p be (n+1) x (ah s k')=match p x q with | some (b,r)=>bc p be n b r | none=>none:=by rw[bc,h.o];rfl
     cases hp:p x q with
     |none=>
      rw[hp]at Y Z;obtain⟨V,A,g,R,rfl,q⟩:=Y;exact⟨rfl,dR (Q.o.2.symm.trans Z) ⟨g1,V,A,g,R,rfl,q⟩⟩
     |some z=>
      obtain⟨y',r'⟩:=z;rw[hp]at Y Z;obtain⟨rfl,I6,k6,S6,g3⟩:=Y;have ac:=l.o.shr _ _ _ _ hp;have v:=cN (ah s k');rw[h.o]at v;simp only[List.length_cons]at v;have ab:=l.o.inc _ _ _ _ hp;have G:=ae (An g3 (An Z (An ac (An v ab))));clear g3 Z ac v ab hp;go_wp2;go_roundg n
      case measure=>omega
      case rel=>
       refine⟨y',k6,S6,I6,g1, ?_, ?_, ?_⟩
       ·have:=G.o
        have:=Q.o.1;rw[G.o.1];omega
       ·have:=G.o.2.2.2.2
        have:=M.o;omega
       ·rw[G.o.1,←Q.o.2,G.o.2.1]
    ·have HC:=ae C
     clear C;go_wp2_with fail
     refine (mo W rb s k' (d+1) _ q1 44 44 rfl (by decide) HC.o).mono ?_;rintro e w5 ⟨rfl,H,k5,U,K⟩;have E3:=ae K;clear K;have I5:=l.o.keep _ _ _ q2 H;have P:=q3.trans H;by_cases j:(sk (ah s k')).head? =some be
     ·obtain⟨q,hq⟩:∃q,sk (ah s k')=be :: q:=by
       cases hst:sk (ah s k') with
       |nil=>rw[hst]at j;cases j
       |cons c q=>
        rw[hst]at j;simp only[List.head?_cons,Option.some.injEq]at j;exact⟨q,by rw[j]⟩
      have h:=ae hq;clear j hq;go_wp2_with fail
      refine (kE W rb s k5 (d+1) _ U qe be N.o.2 q (by rw[E3.o,oM];exact h.o)).mono ?_;rintro e w6 ⟨rfl,j1,k6,j2,j3⟩;have J3:=ae j3;clear j3;obtain⟨c0,c1,c2,f1,f2,j⟩:=j2.rdr.facts;have F:=L.o _ _ _ j2 (l.o.keep _ _ _ I5 j1) (P.trans j1);go_wp2;go_end0
      refine kN ?_ F.2.2 F.2.1 F.1 J3.o;have i:=HC.o;rw[h.o]at i;simp only[List.head?_cons,Option.some.injEq]at i;rw[←Q.o.2,bc,h.o];simp[i]
     ·have HB:=ae j
      clear j;go_wp2_with fail
      refine (ur W rb s k5 (d+1) _ U qe be N.o.2 hb0 (by rw[E3.o,oM];exact HB.o)).mono ?_;rintro e w6 ⟨j1,j2⟩;obtain⟨V,A,g,R,rfl,q⟩:=j2;refine⟨rfl,dR ?_ ⟨P.trans j1,V,A,g,R,rfl,Nat.le_trans P.size q.1,q.2⟩⟩;rw[←Q.o.2,bc]
      cases hst:sk (ah s k') with
      |nil=>rfl
      |cons c q=>
       have i:=HC.o;have h2:=HB.o;rw[hst]at i h2;simp only[List.head?_cons,Option.some.injEq]at i h2;simp[i,h2]
theorem lS(W:World)(rb:Nat)(s:ByteArray)(k:Nat)(w:World)(hr:St W w rb s k 6)(fv:Value)
  (qb qe:Int) (bb:UInt8) (hqb:qb=bb.toNat) (t:List UInt8) (hl:sk (ah s k)=bb :: t) :
  Calls prog 202 #[.pointer (some ⟨rb,0,none⟩),.int .u8 qb,.int .u8 qe,fv] w fun e w'=>Kp (· =rb) w w'∧eP W w w' e:=by
 have j:=hr.sz;have d:=ae hqb;have c:=ae hl;clear hqb hl;go_enter func202,ntmps202;go_wp2_with fail
 refine (kE W rb s k 6 _ hr qb bb d.o t c.o).mono ?_;rintro e w1 ⟨rfl,h,b,a2,a3⟩;have m:=ae a3;clear a3;obtain⟨n,q,r,f1,f2,v⟩:=a2.rdr.facts;have g:=a2.dep 7;obtain⟨u,x,i⟩:=a2.err 23 (by decide) (by decide);have f:Kp (· =rb) w (w1.setCell ⟨rb,2,none⟩ (.int .i64 7)):=Kp.setCell (p:=⟨rb,2,none⟩) h (fun _=>rfl) _;go_wp2_with (go_at_call 111;refine (cV rb s b 7 _ g.rdr _ _).mono ?_;rintro e w' ⟨rfl,rfl⟩)
 have l:(w1.setCell ⟨rb,2,none⟩ (.int .i64 7)).heap.size=w1.heap.size:=by simp[World.setCell]
 have a:=bL (k:=(b:Int)) f i;rw[l]at a;exact⟨rfl,a⟩
end
end Go.Proofs.YtocligpfmfmihaaGreatDoor
