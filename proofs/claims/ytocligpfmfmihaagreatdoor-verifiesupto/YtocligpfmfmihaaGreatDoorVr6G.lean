import Derived.Test.YtocligpfmfmihaaGreatDoorVa1G
set_option maxHeartbeats 4000000
set_option maxRecDepth 20000
namespace Go.Proofs.YtocligpfmfmihaaGreatDoor
open Go.Proofs.Tryz
section
open Go Go.RowKit Go.Maps
attribute [local go_sem] Oper.semAt_some
def SrI(w:World)(xs:List Bs)(va:Option Addr):Prop:=∀j x,xs[j]? =some x→∃g o,va=some ⟨g,o,none⟩∧w.cell? ⟨g,o+j,none⟩=some (.string ⟨x.toArray⟩)
theorem vX{rs:List Rpl}{now:Int}{c:Clm}{st:Ldg}{l:List Bs}{i n:Nat}{x:Bs}(h:l[i]? =some x):bF rs now c st (l.drop i) n=if (bf rs now c.server st x).1 && et (bf rs now c.server st x).2 c then (n+1,true,(bf rs now c.server st x).2) else bF rs now c (bf rs now c.server st x).2 (l.drop (i+1)) (n+1):=by
 obtain⟨a,b⟩:=List.getElem?_eq_some_iff.1 h;rw[List.drop_eq_getElem_cons a,b];rfl
theorem wS{rs:List Rpl}{now:Int}{srv src:Bs}{st:Ldg}(h:eR rs src srv=none):bf rs now srv st src=(false,st):=by unfold bf;rw[h]
theorem yY{rs:List Rpl}{now:Int}{srv src t:Bs}{st:Ldg}{n:Nat}(h:eR rs src srv=some t)(hr:aZ t=.error n):bf rs now srv st src=(false,st):=by unfold bf;rw[h];simp only[hr]
theorem ve{rs:List Rpl}{now:Int}{srv src t sn:Bs}{st:Ldg}{u:Int}{ks:List Ky}(h:eR rs src srv=some t)(hr:aZ t=.ok (sn,u,ks))(hs:sn≠srv):bf rs now srv st src=(false,st):=by unfold bf;rw[h];simp only[hr];rw[if_neg hs]
theorem yZ{rs:List Rpl}{now:Int}{srv src t:Bs}{st:Ldg}{u:Int}{ks:List Ky}(h:eR rs src srv=some t)(hr:aZ t=.ok (srv,u,ks)):bf rs now srv st src=(decide ((bi st t now).1=0),(bi st t now).2):=by
 unfold bf bi;rw[h];simp only[hr,if_true]
theorem RnR.tight{w w':World}{F:Nat→Prop}{b:Nat}{nm id ky:Bs}{so:Value}{st:Ldg}{c:Nat}(h:RnR w F b nm id ky so st c w'){T:List Bs}(hT:LOk T st):RnR w F b nm id ky so st (aR T) w':=by
 obtain⟨a,d,e,f,g⟩:=h;exact⟨a,d,e,f,g.tight hT⟩
theorem RnR.after{w w1 w2:World}{F F1:Nat→Prop}{b:Nat}{nm id ky:Bs}{so:Value}{st:Ldg}{c:Nat}(K:Kp F w w1)(h1:∀k,F1 k→F k∨w.heap.size≤k)(h:RnR w1 F1 b nm id ky so st c w2):RnR w F b nm id ky so st c w2:=by
 obtain⟨a,e,f,g,j⟩:=h;refine⟨a,K.and e (fun i hi hf=>(h1 i hf).resolve_right (by omega)), ?_,g,j⟩;intro k d;rcases f k d with h | h
 ·exact h1 k h
 ·exact Or.inr (Nat.le_trans K.size h)
theorem qK{W w w':World}{F:Nat→Prop}(h:Below W.heap.size W w)(K:Kp F w w')(hF:∀k,F k→W.heap.size≤k):Below W.heap.size W w':=
 ⟨K.os.trans h.os,K.tape.trans h.tape,K.output.trans h.output,Nat.le_trans h.size K.size,fun k hk=>(K.block k (Nat.lt_of_lt_of_le hk h.size) (fun hf=>by have:=hF k hf;omega)).trans (h.block k hk)⟩
theorem DD(W:World)(hG:GL W)(w:World)(hW:Below W.heap.size W w)(F:Nat→Prop)(hFl:∀k,F k→W.heap.size≤k)(hF:∀k,F k→k < w.heap.size)(b:Nat)(nm id ky:Bs)(xs:List Bs)(va:Option Addr)(vc:Nat)(hsrc:SrI W xs va)(hxl:xs.length≤1100000000)(st:Ldg)(T:List Bs)(hT:LOk T st)(hTl:T.length≤700000)
  (hR:RN w F b nm id ky (.slice va xs.length vc) st (aR T)) (rs:List Rpl) (ra:Option Addr) (rc:Nat) (hI:RpI W rs ra) (hrl:rs.length≤1100000000) (hrT:∀r ∈ rs,r.text ∈ T) (lo hi eb vb:Nat) (sv:Value) (l:List (Bs×J)) (ss:List Bs) (at':Int) (msg:Bs) (hE:REv w lo hi eb vb sv l ss at' msg) (hFE:∀k,F k→k < lo∨hi≤k)
  (lg:Nat) (hlg:w.cell? ⟨lg,0,none⟩=some (.pointer (some ⟨eb,0,none⟩))) (hlF:¬F lg) (s:Bs) (now:Int) (hn0 : -9223372036854775808≤now) (hn1:now≤9223372036854775807) (hns:cS st s now=false) (hcl:∃t cs,t ∈ T∧bM t=.ok cs∧(⟨s,at',msg,aG l s⟩:Clm) ∈ cs) :
  Calls prog 147 #[.pointer (some ⟨b,0,none⟩),.string ⟨s.toArray⟩,.slice (some ⟨lg,0,none⟩) 1 1,.int .i64 now,.slice ra rs.length rc] w fun e w'=>e=.returned (.int .i64 ((dy rs now xs st ⟨s,at',msg,aG l s⟩).1:Int))∧RnR w F b nm id ky (.slice va xs.length vc) (dy rs now xs st ⟨s,at',msg,aG l s⟩).2 (aR T) w':=by
 obtain⟨i0,a7,a8,a9,ba⟩:=info_parts ew
 have aA:∃l d a,w.heap[b]? =some (bm nm id ky (.slice va xs.length vc) l d a):=by
  obtain⟨l,d,a,L,D,A,h,_⟩:=hR;exact⟨l,d,a,h.blk⟩
 obtain⟨lv,dv,av,aA⟩:=aA;have r0:=World.ownsRow_lit (base:=w.heap.size) (e:=9) (size:=1) w #[.string ⟨s.toArray⟩] 1 (Nat.le_refl _) (by unfold maxLen;omega) rfl;have M:=ae (An hsrc (An hR (An hI (An hrT (An hE (An hFE (An hlg (An hlF (An hns (An hcl (An hT (An hFl (An hF r0)))))))))))));clear hsrc hR hI hrT hE hFE hlg hlF hns hcl hT hFl hF r0;go_enter func147,ntmps147;go_wp2_with fail
 go_loopg [11,12] xs.length (fun gg a bb wx=>∃(i:Nat) (B:List Bs),gg=xs.length - i∧i≤xs.length∧bb=.int .i64 (i:Int)∧Kp (fun _=>False) w wx∧B=s :: (xs.take i).filter (fun x=>decide (x≠s))∧B.length≤i+1∧wx.ownsRow w.heap.size 9 1 a B.length (B.map fun x=>.string ⟨x.toArray⟩))
 case atStart=>exact⟨0,[s],rfl,by omega,rfl,(Kp.refl _ _).alloc _,rfl,by simp,M.o.2.2.2.2.2.2.2.2.2.2.2.2.2⟩
 case round=>
  obtain⟨i,B,aa,aS,rfl,R,a1,bo,row⟩:=hrel;have ao:=R.heap aA;obtain⟨f0,f1,f2,f3,f4,f5,f6⟩:=cL ao;have O:=ae (An aa (An R a1));clear aa a1;by_cases aj:i < xs.length
  ·have S:(i:Int) < (xs.length:Int):=by omega
   obtain⟨x,hx⟩:∃x,xs[i]? =some x:=⟨xs[i],List.getElem?_eq_getElem aj⟩;obtain⟨g,o,rfl,cg⟩:=M.o.1 i x hx;have bg:=Below.cl (am hW R) cg;have a0:(xs.take (i+1)).filter (fun x=>decide (x≠s))=(xs.take i).filter (fun x=>decide (x≠s)) ++[x].filter (fun x=>decide (x≠s)):=by rw[gS hx,List.filter_append]
   have aD:=ae a0;have aW:=R.size;clear hx cg a0 R;by_cases he:x=s
   ·have aP:(x == s)=true:=by simpa using he
    have HE:=ae he;clear he;go_wp2;go_roundg (xs.length - (i+1))
    case measure=>rw[O.o.1];omega
    case rel=>exact⟨i+1,B,rfl,by omega,ak (by omega),O.o.2.1,by rw[aD.o,HE.o,O.o.2.2];simp,by omega,row⟩
   ·have aP:(x == s)=false:=by simpa using he
    have HE:=ae he;clear he;go_wp2_with (at_builtin;(refine wpList_append_own_at _ rfl _ _ 36 rfl w.heap.size 9 i0 (.string ⟨#[]⟩) 1 16 underlying36 a7 a8 a9 ba rfl (by decide) _ _ _ rfl (by exact World.ownsRow.alloc row _) ⟨wr.heap.size,0,none⟩ 1 1 [.string ⟨x.toArray⟩] rfl rfl ?_ (by intro u hu;simp at hu;subst hu;rfl) (by unfold maxLen;omega) (by omega) (by simp;omega) ?_))
    ·intro j u hj
     rcases j with _ | j
     all_goals simp at hj
     subst hj;simp[Addr.add]
    intro v3 w3 y1 y2 _ y3;obtain⟨bp,bq,rfl⟩:=aE y1;have K3:Kp (fun _=>False) w w3:=(O.o.2.1.alloc _).gr y2 (fun r e=>(row.lt r e).1);have H3:=ae (An K3 y1);clear K3 y1 y2 y3;go_wp2;go_roundg (xs.length - (i+1))
    case measure=>rw[O.o.1];omega
    case rel=>exact⟨i+1,B ++[x],rfl,by omega,ak (by omega),H3.o.1,by rw[aD.o,O.o.2.2];simp[HE.o],by simp;omega,by rw[List.map_append,List.length_append];exact H3.o.2⟩
  ·have S:¬(i:Int) < (xs.length:Int):=by omega
   have C:B=cT s xs:=by
    rw[O.o.2.2,List.take_of_length_le (by omega)];rfl
   obtain⟨fa,fc,rfl,bh,aQ⟩:=aY row;have H:=ae (An C (An row (An aQ R)));have aW:=R.size;clear C row aQ R;go_wp2_with fail
   clear f0 f1 f2 f3 f4 f5 f6 ao aj S aS;generalize wr=w2 at *;generalize hC:(⟨s,at',msg,aG l s⟩:Clm)=cl at *;have HC:=ae hC;clear hC
   go_loopg [13] B.length (fun gg q wx=>∃(i:Nat) (y:Ldg) (F1:Nat→Prop),gg=B.length - i∧i≤B.length∧q=.int .i64 (i:Int)∧Kp F w2 wx∧(∀k,F1 k→F k∨w2.heap.size≤k)∧(∀k,F1 k→k < wx.heap.size)∧RN wx F1 b nm id ky (.slice va xs.length vc) y (aR T)∧LOk T y∧bF rs now cl st B 0=bF rs now cl y (B.drop i) i)
   case atStart=>exact⟨0,st,F,rfl,by omega,rfl,Kp.refl _ _,fun _ h=>Or.inl h,fun k h=>Nat.lt_of_lt_of_le (M.o.2.2.2.2.2.2.2.2.2.2.2.2.1 k h) aW,M.o.2.1.kp H.o.2.2.2,M.o.2.2.2.2.2.2.2.2.2.2.1,rfl⟩
   case round=>
    obtain⟨j,y,F1,aa,aS,rfl,R,aH,al,aN,aK,E⟩:=hrel;have Kw:Kp F w wr:=(H.o.2.2.2.mono (fun _ _ h=>h.elim)).trans R;have ay:=qK hW Kw M.o.2.2.2.2.2.2.2.2.2.2.2.1;have bd:=R.size;have U:=ap H.o.2.1 (fun k e=>R.block k (H.o.2.1.lt k e).2 (fun hf=>by have h1:=(H.o.2.1.lt k e).1;have h2:=M.o.2.2.2.2.2.2.2.2.2.2.2.2.1 k hf;omega));have f:=ae (An aa (An R (An aH (An al (An aN (An aK (An E (An Kw U))))))));clear aa R aH al aN aK E Kw;by_cases aj:j < B.length
    ·have S:(j:Int) < (B.length:Int):=by omega
     obtain⟨x,hx⟩:∃x,B[j]? =some x:=⟨B[j],List.getElem?_eq_getElem aj⟩;obtain⟨g,rfl,hg⟩:=H.o.2.2.1 (by omega);have cx:wr.cell? ⟨g,j,none⟩=some (.string ⟨x.toArray⟩):=aL U j _ (by rw[List.getElem?_map,hx];rfl);have ab:=vX (rs:=rs) (now:=now) (c:=cl) (st:=y) (n:=j) hx
     have hI:RpI wr rs ra:=fun j r V=>by
      obtain⟨g,o,h1,h2⟩:=M.o.2.2.1 j r V;exact⟨g,o,h1,fun m u hu=>Below.cl ay (h2 m u hu)⟩
     have ac:=ae (vD wr rs ra rc hI hrl x s);have ag:=ae ab;clear ab hx hI U;go_wp2_with fail
     refine ac.o.mono ?_;rintro e w3 ⟨K3,t,rfl,ht⟩;have Y:=ae K3;clear K3 ac
     cases hf:eR rs x s with
     |none=>
      have C:=wS (now:=now) (st:=y) hf
      have hn:bF rs now cl st B 0=bF rs now cl y (B.drop (j+1)) (j+1):=by
       rw[f.o.2.2.2.2.2.2.1,ag.o,show cl.server=s from by rw[←HC.o],C];simp
      have HN:=ae hn;clear hn C hf ht;simp only[Option.isSome_none];go_wp2;go_roundg (B.length - (j+1))
      case measure=>rw[f.o.1];omega
      case rel=>exact⟨j+1,y,F1,rfl,by omega,ak (by omega),f.o.2.1.trans (Y.o.mono (fun _ _ h=>h.elim)),f.o.2.2.1,fun k h=>Nat.lt_of_lt_of_le (f.o.2.2.2.1 k h) Y.o.size,f.o.2.2.2.2.1.kp Y.o,f.o.2.2.2.2.2.1,HN.o⟩
     |some u=>
      obtain rfl:=ht u hf;obtain⟨r,V,aV⟩:=mW hf;have aX:t ∈ T:=aV ▸ M.o.2.2.2.1 r V;have N:=ae (An hf aX);simp only[Option.isSome_some];have aw:=ae (uP W hG ⟨t.toArray⟩ w3 (am ay Y.o));have e9:(⟨t.toArray⟩:ByteArray).data.toList=t:=by simp
      rw[e9]at aw;clear e9 hf ht V aV aX;go_wp2_with fail
      refine aw.o.mono ?_;rintro e w4 ⟨K4,h4⟩;have ad:=ae (Y.o.trans K4);clear K4 aw
      cases V:aZ t with
      |error n=>
       rw[V]at h4;replace h4:e=.returned (.tuple #[.agg #[.string ⟨#[]⟩,.int .i64 0,.slice none 0 0],.int .i64 (n:Int)]):=h4;subst h4;have aU:=ql V;have bl:((n:Int) != 0)=true:=by simp;omega
       have C:=yY (now:=now) (st:=y) N.o.1 V
       have hn:bF rs now cl st B 0=bF rs now cl y (B.drop (j+1)) (j+1):=by
        rw[f.o.2.2.2.2.2.2.1,ag.o,show cl.server=s from by rw[←HC.o],C];simp
       have HN:=ae hn;clear hn C V aU;go_wp2;go_roundg (B.length - (j+1))
       case measure=>rw[f.o.1];omega
       case rel=>exact⟨j+1,y,F1,rfl,by omega,ak (by omega),f.o.2.1.trans ((ad.o.alloc _).mono (fun _ _ h=>h.elim)),f.o.2.2.1,fun k h=>Nat.lt_of_lt_of_le (f.o.2.2.2.1 k h) (ad.o.alloc _).size,f.o.2.2.2.2.1.kp (ad.o.alloc _),f.o.2.2.2.2.2.1,HN.o⟩
      |ok d=>
       obtain⟨sn,un,ks⟩:=d;rw[V]at h4;obtain⟨v,rfl,au⟩:=h4;obtain⟨ka,kc,rfl,_⟩:=aJ au;have KD:Kp (fun _=>False) wr (w4.alloc (.cells #[.string ⟨sn.toArray⟩,.int .i64 un,.slice ka ks.length kc] 30)):=ad.o.alloc _;have ID:=heap_alloc_new w4 (.cells #[.string ⟨sn.toArray⟩,.int .i64 un,.slice ka ks.length kc] 30);have G:=ae (An KD ID);have aC:=ae V;clear KD ID au V;by_cases P:sn=s
       ·subst P
        have C:=yZ (now:=now) (st:=y) N.o.1 aC.o;have a2:=ae C;have I:aR T≤800000000:=by unfold aR;omega
        have aB:=ae (r7 W hG _ (am ay G.o.1) F1 (fun k h=>Nat.lt_of_lt_of_le (f.o.2.2.2.1 k h) G.o.1.size) b nm id ky _ y (aR T) (f.o.2.2.2.2.1.kp G.o.1) t now hn0 I);clear C I;have bn:(sn == sn)=true:=by simp
        go_wp2_with fail
        generalize (w4.alloc (.cells #[.string ⟨sn.toArray⟩,.int .i64 un,.slice ka ks.length kc] 30))=wD at *;refine aB.o.mono ?_;rintro e w5 ⟨rfl,Z⟩;have af:=ae (RnR.tight Z (f.o.2.2.2.2.2.1.learn N.o.2 now));clear Z aB;generalize hlc:(bi y t now).1=lc at *;have be:=ae hlc;clear hlc;go_wp2_with fail
        obtain⟨F2,ax,aI,an,aO⟩:=af.o;have ah:Kp F w w5:=((f.o.2.2.2.2.2.2.2.1.trans (G.o.1.mono (fun _ _ h=>h.elim)))).and ax (fun q hq hf=>(f.o.2.2.1 q hf).resolve_right (by omega));have aF:=M.o.2.2.2.2.1.kp ah M.o.2.2.2.2.2.1;have aT:w5.cell? ⟨lg,0,none⟩=some (.pointer (some ⟨eb,0,none⟩)):=(ah.cell (p:=⟨lg,0,none⟩) (bk M.o.2.2.2.2.2.2.1) M.o.2.2.2.2.2.2.2.1).trans M.o.2.2.2.2.2.2.1;have bc:=G.o.1.size;have H5:=ae (An ah (An ax (An aI (An an (An aO aF)))));clear ah ax aI an aO aF af;have a3:=ae (fun X (hX:Kp (fun _=>False) w5 X)=>xS X F2 b nm id ky _ (bi y t now).2 (aR T) (H5.o.2.2.2.2.1.kp hX) lo hi eb vb sv l ss at' msg (H5.o.2.2.2.2.2.kp hX (by simp)) sn);generalize hhb:et (bi y t now).2 ⟨sn,at',msg,aG l sn⟩=hb at *;have a4:=ae hhb;clear hhb;generalize hz:((lc:Int) == 0)=z at *;have HZ:=ae hz;clear hz
        go_loopg [18,19] 1 (fun gg a bb wx=>Kp (fun _=>False) w5 wx∧((gg=1∧a=.bool z∧bb=.int .i64 0)∨(gg=0∧a=.bool (z && hb)∧bb=.int .i64 1)))
        case atStart=>exact⟨Kp.refl _ _,Or.inl ⟨rfl,rfl,rfl⟩⟩
        case round=>
         obtain⟨Kx,⟨ai,rfl,rfl⟩ | ⟨ai,rfl,rfl⟩⟩:=hrel
         ·have bj:=Kx.cel aT
          have Q:=ae (An Kx ai);clear Kx ai;go_wp2_with fail
          refine (a3.o _ Q.o.1).mono ?_;rintro e w6 ⟨rfl,K6⟩;have a5:=ae (Q.o.1.trans K6);clear K6;cases z
          all_goals
           go_wp2;go_roundg 0
           case measure=>rw[Q.o.2];omega
           case rel=>exact⟨a5.o,Or.inr ⟨rfl,rfl,rfl⟩⟩
         ·have az:(bf rs now cl.server y x).1=decide (lc=0)∧(bf rs now cl.server y x).2=(bi y t now).2:=by
           rw[show cl.server=sn from by rw[←HC.o],a2.o];exact⟨rfl,rfl⟩
          have ar:bF rs now cl st B 0=if z && hb then (j+1,true,(bi y t now).2) else bF rs now cl (bi y t now).2 (B.drop (j+1)) (j+1):=by
           rw[f.o.2.2.2.2.2.2.1,ag.o,az.1,az.2,←HC.o,a4.o]
           have e8:decide (lc=0)=z:=by
            rw[←HZ.o,Bool.eq_iff_iff];simp
           rw[e8]
          have Q:=ae (An Kx ar);clear Kx ai az ar
          cases hq:(z && hb) with
          |true=>
           rw[hq]at Q
           have K:dy rs now xs st cl=(j+1,(bi y t now).2):=by
            unfold dy;rw[show cl.server=sn from by rw[←HC.o],←H.o.1,Q.o.2];rfl
           have ac:=ae K;clear K hq;go_wp2;go_ret;rw[HC.o,ac.o];refine⟨rfl,F2,H5.o.1.trans (Q.o.1.mono (fun _ _ h=>h.elim)), ?_,fun k h=>Nat.lt_of_lt_of_le (H5.o.2.2.2.1 k h) Q.o.1.size,H5.o.2.2.2.2.1.kp Q.o.1⟩;intro k hk;rcases H5.o.2.2.1 k hk with h | h
           ·exact (f.o.2.2.1 k h).imp (fun h=>h) (fun h=>by omega)
           ·right;omega
          |false=>
           rw[hq]at Q;have HN:Hid (bF rs now cl st B 0=bF rs now cl (bi y t now).2 (B.drop (j+1)) (j+1)):=Q.o.2;clear hq;go_wp2;go_roundg (B.length - (j+1))
           case measure=>rw[f.o.1];omega
           case rel=>
            refine⟨j+1,(bi y t now).2,F2,rfl,by omega,ak (by omega), ?_, ?_,fun k h=>Nat.lt_of_lt_of_le (H5.o.2.2.2.1 k h) Q.o.1.size,H5.o.2.2.2.2.1.kp Q.o.1,f.o.2.2.2.2.2.1.learn N.o.2 now,HN.o⟩
            ·exact ((f.o.2.1.trans (G.o.1.mono (fun _ _ h=>h.elim))).and H5.o.2.1 (fun q hq hf=>(f.o.2.2.1 q hf).resolve_right (by omega))).trans (Q.o.1.mono (fun _ _ h=>h.elim))
            ·intro k hk
             rcases H5.o.2.2.1 k hk with h | h
             ·exact f.o.2.2.1 k h
             ·right;omega
       ·have aP:(sn == s)=false:=by simpa using P
        have C:=ve (now:=now) (st:=y) N.o.1 aC.o P
        have hn:bF rs now cl st B 0=bF rs now cl y (B.drop (j+1)) (j+1):=by
         rw[f.o.2.2.2.2.2.2.1,ag.o,show cl.server=s from by rw[←HC.o],C];simp
        have HN:=ae hn;clear hn C P;go_wp2;go_roundg (B.length - (j+1))
        case measure=>rw[f.o.1];omega
        case rel=>exact⟨j+1,y,F1,rfl,by omega,ak (by omega),f.o.2.1.trans (G.o.1.mono (fun _ _ h=>h.elim)),f.o.2.2.1,fun k h=>Nat.lt_of_lt_of_le (f.o.2.2.2.1 k h) G.o.1.size,f.o.2.2.2.2.1.kp G.o.1,f.o.2.2.2.2.2.1,HN.o⟩
    ·have S:¬(j:Int) < (B.length:Int):=by omega
     have E:bF rs now cl st B 0=(B.length,false,y):=by
      rw[f.o.2.2.2.2.2.2.1,List.drop_of_length_le (by omega)];show (j,false,y)=_
      rw[show j=B.length by omega]
     have aq:cl.server=s:=by rw[←HC.o]
     have K:dy rs now xs st cl=(B.length,eO y s now):=by
      unfold dy;rw[aq,←H.o.1,E];rfl
     have I:aR T≤900000000:=by unfold aR;omega
     have P:cS y s now=false:=by
      have h9:=pN rs now cl B st 0;rw[E]at h9;have h8:=M.o.2.2.2.2.2.2.2.2.1;unfold cS at h8 ⊢;rw[show y.asked=st.asked from h9];exact h8
     have HV:=ae (CG wr F1 f.o.2.2.2.1 b nm id ky _ y (aR T) f.o.2.2.2.2.1 I s now P);have N:=ae K;clear E K I P aq U;go_wp2_with fail
     refine HV.o.mono ?_;rintro e w3 ⟨rfl,Z⟩
     have aM:LOk T (eO y s now):=by
      obtain⟨t,cs,ht,a6,hm⟩:=M.o.2.2.2.2.2.2.2.2.2.1;have:=f.o.2.2.2.2.2.1.vain ht a6 hm hn0 hn1;rw[show cl.server=s from by rw[←HC.o]]at this;exact this
     have af:=ae (RnR.after f.o.2.2.2.2.2.2.2.1 (fun k h=>(f.o.2.2.1 k h).imp (fun h=>h) (fun h=>by omega)) (RnR.tight Z aM));clear Z aM HV;go_wp2;go_ret;rw[HC.o,N.o];exact⟨rfl,af.o⟩
theorem qx{rs:List Rpl}{now:Int}{xs:List Bs}{st:Ldg}{l:List Clm}{i n:Nat}{c:Clm}(h:l[i]? =some c):dV rs now xs st (l.drop i) n=if (cR (df rs now xs st c).2 c).1=0 then dV rs now xs (df rs now xs st c).2 (l.drop (i+1)) (n+(df rs now xs st c).1) else ((cR (df rs now xs st c).2 c,n+(df rs now xs st c).1),(df rs now xs st c).2):=by
 obtain⟨a,b⟩:=List.getElem?_eq_some_iff.1 h;rw[List.drop_eq_getElem_cons a,b];rfl
theorem gd{w:World}{rb:Nat}{a b v:Value}(tmps:Array Value)(h2:tmps[8]?.getD undef=.pointer (some ⟨rb,0,none⟩))(h3:tmps[9]?.getD undef=v)(hb:w.heap[rb]? =some (.cells #[a,b] 52)):
  (results Tryz.f89 tmps).run prog w=.ok (.tuple #[.agg #[a,b],v]) w:=by
 obtain⟨⟨c,d⟩,_⟩:=aH hb;simp[results,results89,go_sem,h2,h3,c,d]
theorem vY(rs:List Rpl)(now:Int)(c:Clm):∀(l:List Bs) (st:Ldg) (n:Nat),(bF rs now c st l n).1≤n+l.length
 | [],st,n=>by simp[bF]
 |a :: l,st,n=>by
  simp only[bF];split
  ·simp only[List.length_cons]
   omega
  ·have:=vY rs now c l (bf rs now c.server st a).2 (n+1)
   simp only[List.length_cons];omega
theorem qW(rs:List Rpl)(now:Int)(xs:List Bs)(st:Ldg)(c:Clm):(dy rs now xs st c).1≤xs.length+1:=by
 have a:=vY rs now c (cT c.server xs) st 0
 have b:(cT c.server xs).length≤xs.length+1:=by
  unfold cT;have:=List.length_filter_le (fun s=>decide (s≠c.server)) xs;simp only[List.length_cons];omega
 unfold dy;split <;> simp only[] <;> omega
theorem ml{w w5 w6:World}{F F2:Nat→Prop}{b n:Nat}{nm id ky:Bs}{so:Value}{st:Ldg}{c:Nat}(K5:Kp F w w5)(hF2:∀k,F2 k→F k∨n≤k)(hn:w.heap.size < n)(hF:∀k,F k→k < w.heap.size)(hF2l:∀k,F2 k→k < w5.heap.size)(hR:RN w5 F2 b nm id ky so st c)(K6:Kp (fun _=>False) w5 w6)(p q:Value):RnR w F b nm id ky so st c ((w6.setCell ⟨w.heap.size,0,none⟩ p).setCell ⟨w.heap.size,1,none⟩ q):=by
 have a:∀k,F2 k→k≠w.heap.size:=fun k h=>(hF2 k h).elim (fun h=>by have:=hF k h;omega) (fun h=>by omega)
 have d:=K6.size;refine⟨F2,Kp.setCell (p:=⟨w.heap.size,1,none⟩) (Kp.setCell (p:=⟨w.heap.size,0,none⟩) (K5.trans (K6.mono (fun _ _ h=>h.elim))) (fun e=>absurd e (Nat.lt_irrefl _)) _) (fun e=>absurd e (Nat.lt_irrefl _)) _,fun k h=>(hF2 k h).imp (fun h=>h) (fun h=>by omega),fun k h=>by rw[World.size_setCell,World.size_setCell];have:=hF2l k h;omega,hR.frame (fun k h=> ?_)⟩;rw[af (by exact a k h),af (by exact a k h)];exact K6.block k (hF2l k h) (by simp)
theorem x6(W:World)(hG:GL W)(w:World)(hW:Below W.heap.size W w)(F:Nat→Prop)(hFl:∀k,F k→W.heap.size≤k)(hF:∀k,F k→k < w.heap.size)(b:Nat)(nm id ky:Bs)(xs:List Bs)(va:Option Addr)(vc:Nat)(hsrc:SrI W xs va)(hxl:xs.length≤1100000000)(st:Ldg)(T:List Bs)(hT:LOk T st)(hTl:T.length≤700000)
  (hR:RN w F b nm id ky (.slice va xs.length vc) st (aR T)) (rs:List Rpl) (ra:Option Addr) (rc:Nat) (hI:RpI W rs ra) (hrl:rs.length≤1100000000) (hrT:∀r ∈ rs,r.text ∈ T) (text:Bs) (htx:text ∈ T) (now:Int) (hn0 : -9223372036854775808≤now) (hn1:now≤9223372036854775807) :
  Calls prog 89 #[.pointer (some ⟨b,0,none⟩),.string ⟨text.toArray⟩,.int .i64 now,.slice ra rs.length rc] w fun e w'=>e=.returned (.tuple #[eK (bS rs now xs st text).1.1,.int .i64 ((bS rs now xs st text).1.2:Int)])∧RnR w F b nm id ky (.slice va xs.length vc) (bS rs now xs st text).2 (aR T) w':=by
 have K0:Kp (fun _=>False) w (w.alloc (.cells #[.int .i64 0,.string ⟨#[]⟩] 52)):=(Kp.refl _ _).alloc _;have I0:=heap_alloc_new w (.cells #[.int .i64 0,.string ⟨#[]⟩] 52);have aa:=ae (CD W hG text _ (am hW K0));have j:=ae (An K0 I0);have y:=ae (An hsrc (An hR (An hI (An hrT (An htx (An hT (An hFl hF)))))));clear hsrc hR hI hrT htx hT hFl hF K0 I0;go_enter func89,ntmps89;go_wp2_with fail
 generalize (w.alloc (.cells #[.int .i64 0,.string ⟨#[]⟩] 52))=w0 at *;refine aa.o.mono ?_;rintro e w1 ⟨K1,⟨n,hn,G,rfl⟩ | ⟨l,ss,at',P,vb,sv,G,rfl,hE⟩⟩
 ·have HV:Hid (bS rs now xs st text=(((n,[]),0),st)):=by show _=_;unfold bS;rw[G]
  have aO:((n:Int) != 0)=true:=by simp;omega
  obtain⟨⟨b0,b1⟩,b2,b3⟩:=aH (K1.heap j.o.2);have al:=ae K1;clear G hn K1 aa;go_wp2;refine bodyPost_ret (gd _ rfl rfl (bO (al.o.heap j.o.2))) rfl ?_;rw[HV.o];have v:=gQ (b:=w.heap.size) (p:=.int .i64 (n:Int)) (q:=.string ⟨#[]⟩) (j.o.1.trans al.o) (Nat.le_refl _);exact⟨rfl,nA v y.o.2.2.2.2.2.2.2 y.o.2.1 (Nat.le_refl _)⟩
 have HV:Hid (bS rs now xs st text=dV rs now xs st (ss.map fun s=>⟨s,at',aA l,aG l s⟩) 0):=by show _=_;unfold bS;rw[G]
 have aT:ss.length≤2:=by
  have:=lT G;rwa[List.length_map]at this
 obtain⟨sa,sc,rfl,aU,af⟩:=aY hE.row;have aP:=j.o.1.size;have aQ:=K1.size;have R:w.heap.size < w1.heap.size:=ag (K1.heap j.o.2);have H:=ae (An hE (An K1 (An G af)));clear G hE K1 af aa;go_wp2_with fail
 go_loopg [12,13] ss.length (fun gg p q wx=>∃(i n:Nat) (a:Ldg) (K:Nat→Prop),gg=ss.length - i∧i≤ss.length∧p=.int .i64 (n:Int)∧q=.int .i64 (i:Int)∧n≤i*1100000001∧Kp F w1 wx∧(∀k,K k→F k∨w1.heap.size≤k)∧(∀k,K k→k < wx.heap.size)∧RN wx K b nm id ky (.slice va xs.length vc) a (aR T)∧LOk T a∧dV rs now xs st (ss.map fun s=>⟨s,at',aA l,aG l s⟩) 0=dV rs now xs a ((ss.map fun s=>(⟨s,at',aA l,aG l s⟩:Clm)).drop i) n)
 case atStart=>exact⟨0,0,st,F,rfl,by omega,rfl,rfl,by omega,Kp.refl _ _,fun _ h=>Or.inl h,fun k h=>by have:=y.o.2.2.2.2.2.2.2 k h;omega,y.o.2.1.kp (j.o.1.trans H.o.2.1),y.o.2.2.2.2.2.1,rfl⟩
 case round=>
  obtain⟨i,n,a,K,aB,aN,rfl,rfl,ad,Kr,au,U,az,ax,Z⟩:=hrel;have aw:∀k,F k→k < w0.heap.size∨w1.heap.size≤k:=fun k h=>Or.inl (by have:=y.o.2.2.2.2.2.2.2 k h;omega)
  have L:=H.o.1.kp Kr aw;obtain⟨e0,e1,e2,e3,aM⟩:=dr L.blk;have Kw:Kp F w wr:=((j.o.1.trans H.o.2.1).mono (fun _ _ h=>h.elim)).trans Kr;have aI:=qK hW Kw y.o.2.2.2.2.2.2.1;have aK:=Kr.size;have Iw:=(Kr.block _ (ag (H.o.2.1.heap j.o.2)) (fun hf=>by have:=y.o.2.2.2.2.2.2.2 _ hf;omega)).trans (H.o.2.1.heap j.o.2);have d:=ae (An aB (An Kr (An au (An U (An az (An ax (An Z (An Kw (An L Iw)))))))));clear aB Kr au U az ax Z Kw;by_cases aJ:i < ss.length
  ·have aD:(i:Int) < (ss.length:Int):=by omega
   obtain⟨s,hs⟩:∃s,ss[i]? =some s:=⟨ss[i],List.getElem?_eq_getElem aJ⟩;obtain⟨g,rfl,hg⟩:=H.o.2.2.2 (by omega);have cx:wr.cell? ⟨g,i,none⟩=some (.string ⟨s.toArray⟩):=aL L.row i _ (by rw[List.getElem?_map,hs];rfl);have ac:(ss.map fun s=>(⟨s,at',aA l,aG l s⟩:Clm))[i]? =some ⟨s,at',aA l,aG l s⟩:=by rw[List.getElem?_map,hs];rfl
   have N:=qx (rs:=rs) (now:=now) (xs:=xs) (st:=a) (n:=n) ac;have E:=ae (An N (List.mem_of_getElem? ac));have ao:=ae (sp wr K b nm id ky _ a (aR T) d.o.2.2.2.2.1 _ _ P vb _ l ss at' (aA l) L s);clear N ac hs L;go_wp2_with fail
   refine ao.o.mono ?_;rintro e w3 ⟨rfl,K3⟩;have ai:=ae (xL w3 K b nm id ky _ a (aR T) (d.o.2.2.2.2.1.kp K3) (fun s t h=>(d.o.2.2.2.2.2.1.asked s t h).1.1) s now hn1);have aE:=ae K3;clear K3 ao;go_wp2_with fail
   refine ai.o.mono ?_;rintro e J ⟨rfl,K4⟩;have u:=ae (aE.o.trans K4);clear K4 ai
   cases hwb:b8 a ⟨s,at',aA l,aG l s⟩ with
   |false=>
    have A:Hid (df rs now xs a ⟨s,at',aA l,aG l s⟩=(0,a)):=by show _=_;unfold df;rw[hwb];simp
    have c:=ae (An (d.o.2.1.trans (u.o.mono (fun _ _ h=>h.elim))) (An d.o.2.2.1 (An (fun k h=>Nat.lt_of_lt_of_le (d.o.2.2.2.1 k h) u.o.size) (An (d.o.2.2.2.2.1.kp u.o) (An d.o.2.2.2.2.2.1 (An (d.o.2.2.2.2.2.2.2.2.1.kp u.o (by simp)) (u.o.heap Iw)))))));clear hwb;generalize cS a s now=sb;have D:=ae (sl J K b nm id ky _ a (aR T) c.o.2.2.2.1 (fun s i p h=>(c.o.2.2.2.2.1.keys s i p h).1) _ _ P vb _ l ss at' (aA l) c.o.2.2.2.2.2.1 s);go_wp2_with fail
    refine D.o.mono ?_;rintro e w6 ⟨rfl,S⟩;have B:=ae S;clear S D;generalize hoc:cR a ⟨s,at',aA l,aG l s⟩=oc at *;obtain⟨f,x⟩:=oc;unfold eK;by_cases I:f=0
    ·have M:((f:Int) != 0)=false:=by simp;omega
     have z:dV rs now xs st (ss.map fun s=>⟨s,at',aA l,aG l s⟩) 0=dV rs now xs a ((ss.map fun s=>(⟨s,at',aA l,aG l s⟩:Clm)).drop (i+1)) n:=by
      rw[d.o.2.2.2.2.2.2.1,E.o.1,A.o];simp only[hoc];rw[if_pos I];rfl
     have m:=ae z;clear z hoc I;go_wp2;go_roundg (ss.length - (i+1))
     case measure=>rw[d.o.1];omega
     case rel=>
      have v:Kp (fun _=>False) J (w6.alloc (.cells #[.int .i64 (f:Int),.string ⟨x.toArray⟩] 52)):=B.o.alloc _;exact⟨i+1,n,a,K,rfl,by omega,rfl,ak (by omega),Nat.le_trans ad (Nat.mul_le_mul_right _ (Nat.le_succ i)),c.o.1.trans (v.mono (fun _ _ h=>h.elim)),c.o.2.1,fun k h=>Nat.lt_of_lt_of_le (c.o.2.2.1 k h) v.size,c.o.2.2.2.1.kp v,c.o.2.2.2.2.1,m.o⟩
    ·have M:((f:Int) != 0)=true:=by simp;omega
     have z:bS rs now xs st text=(((f,x),n),a):=by
      rw[HV.o,d.o.2.2.2.2.2.2.1,E.o.1,A.o];simp only[hoc];rw[if_neg I];rfl
     have m:=ae z;have v:Kp (fun _=>False) J (w6.alloc (.cells #[.int .i64 (f:Int),.string ⟨x.toArray⟩] 52)):=B.o.alloc _;obtain⟨⟨b0,b1⟩,b2,b3⟩:=aH (v.heap c.o.2.2.2.2.2.2);have C:=ae v;clear z hoc I v;go_wp2;refine bodyPost_ret (gd _ rfl rfl (bO (C.o.heap c.o.2.2.2.2.2.2))) rfl ?_;rw[m.o];exact⟨rfl,ml (((j.o.1.trans H.o.2.1).mono (fun _ _ h=>h.elim)).trans c.o.1) c.o.2.1 R y.o.2.2.2.2.2.2.2 c.o.2.2.1 c.o.2.2.2.1 C.o _ _⟩
   |true=>
    cases hsb:cS a s now with
    |true=>
     have A:Hid (df rs now xs a ⟨s,at',aA l,aG l s⟩=(0,a)):=by show _=_;unfold df;rw[hwb,hsb];rfl
     have c:=ae (An (d.o.2.1.trans (u.o.mono (fun _ _ h=>h.elim))) (An d.o.2.2.1 (An (fun k h=>Nat.lt_of_lt_of_le (d.o.2.2.2.1 k h) u.o.size) (An (d.o.2.2.2.2.1.kp u.o) (An d.o.2.2.2.2.2.1 (An (d.o.2.2.2.2.2.2.2.2.1.kp u.o (by simp)) (u.o.heap Iw)))))));clear hwb hsb;have D:=ae (sl J K b nm id ky _ a (aR T) c.o.2.2.2.1 (fun s i p h=>(c.o.2.2.2.2.1.keys s i p h).1) _ _ P vb _ l ss at' (aA l) c.o.2.2.2.2.2.1 s);go_wp2_with fail
     refine D.o.mono ?_;rintro e w6 ⟨rfl,S⟩;have B:=ae S;clear S D;generalize hoc:cR a ⟨s,at',aA l,aG l s⟩=oc at *;obtain⟨f,x⟩:=oc;unfold eK;by_cases I:f=0
     ·have M:((f:Int) != 0)=false:=by simp;omega
      have z:dV rs now xs st (ss.map fun s=>⟨s,at',aA l,aG l s⟩) 0=dV rs now xs a ((ss.map fun s=>(⟨s,at',aA l,aG l s⟩:Clm)).drop (i+1)) n:=by
       rw[d.o.2.2.2.2.2.2.1,E.o.1,A.o];simp only[hoc];rw[if_pos I];rfl
      have m:=ae z;clear z hoc I;go_wp2;go_roundg (ss.length - (i+1))
      case measure=>rw[d.o.1];omega
      case rel=>
       have v:Kp (fun _=>False) J (w6.alloc (.cells #[.int .i64 (f:Int),.string ⟨x.toArray⟩] 52)):=B.o.alloc _;exact⟨i+1,n,a,K,rfl,by omega,rfl,ak (by omega),Nat.le_trans ad (Nat.mul_le_mul_right _ (Nat.le_succ i)),c.o.1.trans (v.mono (fun _ _ h=>h.elim)),c.o.2.1,fun k h=>Nat.lt_of_lt_of_le (c.o.2.2.1 k h) v.size,c.o.2.2.2.1.kp v,c.o.2.2.2.2.1,m.o⟩
     ·have M:((f:Int) != 0)=true:=by simp;omega
      have z:bS rs now xs st text=(((f,x),n),a):=by
       rw[HV.o,d.o.2.2.2.2.2.2.1,E.o.1,A.o];simp only[hoc];rw[if_neg I];rfl
      have m:=ae z;have v:Kp (fun _=>False) J (w6.alloc (.cells #[.int .i64 (f:Int),.string ⟨x.toArray⟩] 52)):=B.o.alloc _;obtain⟨⟨b0,b1⟩,b2,b3⟩:=aH (v.heap c.o.2.2.2.2.2.2);have C:=ae v;clear z hoc I v;go_wp2;refine bodyPost_ret (gd _ rfl rfl (bO (C.o.heap c.o.2.2.2.2.2.2))) rfl ?_;rw[m.o];exact⟨rfl,ml (((j.o.1.trans H.o.2.1).mono (fun _ _ h=>h.elim)).trans c.o.1) c.o.2.1 R y.o.2.2.2.2.2.2.2 c.o.2.2.1 c.o.2.2.2.1 C.o _ _⟩
    |false=>
     have A:Hid (df rs now xs a ⟨s,at',aA l,aG l s⟩=dy rs now xs a ⟨s,at',aA l,aG l s⟩):=by show _=_;unfold df;rw[hwb,hsb];rfl
     have Ka:Kp (fun _=>False) wr (J.alloc (.cells #[.pointer (some ⟨P,0,none⟩)] 259)):=u.o.alloc _;have Ia:=heap_alloc_new J (.cells #[.pointer (some ⟨P,0,none⟩)] 259);have aS:=u.o.size;have Y:(J.alloc (.cells #[.pointer (some ⟨P,0,none⟩)] 259)).cell? ⟨J.heap.size,0,none⟩=some (.pointer (some ⟨P,0,none⟩)):=(aj Ia).1;have ah:=ae (DD W hG _ (am aI Ka) K (fun k h=>(d.o.2.2.1 k h).elim (y.o.2.2.2.2.2.2.1 k) (fun h=>by have:=hW.size;omega)) (fun k h=>Nat.lt_of_lt_of_le (d.o.2.2.2.1 k h) Ka.size) b nm id ky xs va vc y.o.1 hxl a T d.o.2.2.2.2.2.1 hTl (d.o.2.2.2.2.1.kp Ka) rs ra rc y.o.2.2.1 hrl y.o.2.2.2.1 _ _ P vb _ l ss at' (aA l) (d.o.2.2.2.2.2.2.2.2.1.kp Ka (by simp)) (fun k h=>(d.o.2.2.1 k h).elim (fun h=>Or.inl (by have:=y.o.2.2.2.2.2.2.2 k h;omega)) (fun h=>Or.inr h)) J.heap.size Y (fun h=>by have:=d.o.2.2.2.1 _ h;omega) s now hn0 hn1 hsb ⟨text,_,y.o.2.2.2.2.1,H.o.2.2.1,E.o.2⟩)
     have aC:(dy rs now xs a ⟨s,at',aA l,aG l s⟩).1≤1100000001:=by
      have:=qW rs now xs a ⟨s,at',aA l,aG l s⟩;omega
     have ay:LOk T (dy rs now xs a ⟨s,at',aA l,aG l s⟩).2:=by
      have:=d.o.2.2.2.2.2.1.one y.o.2.2.2.1 y.o.2.2.2.2.1 H.o.2.2.1 E.o.2 hn0 hn1 xs;rwa[A.o]at this
     have aF:=ae ay;have an:=ae Ka;clear hwb hsb Y ay Ka Ia;go_wp2_with fail
     generalize (J.alloc (.cells #[.pointer (some ⟨P,0,none⟩)] 259))=wa at *;refine ah.o.mono ?_;rintro e w5 ⟨rfl,F2,aq,av,X,ab⟩;generalize hfe:dy rs now xs a ⟨s,at',aA l,aG l s⟩=fe at *;obtain⟨kq,O⟩:=fe;simp only[]at aC ab;have af:=an.o.size;have Q:Kp F w1 w5:=(d.o.2.1.trans (an.o.mono (fun _ _ h=>h.elim))).and aq (fun q hq hf=>(d.o.2.2.1 q hf).resolve_right (by omega));have V:∀k,F2 k→F k∨w1.heap.size≤k:=fun k hk=>(av k hk).elim (fun h=>d.o.2.2.1 k h) (fun h=>Or.inr (by omega))
     have ar:=H.o.1.kp Q aw;have ap:=(Q.block _ (ag (H.o.2.1.heap j.o.2)) (fun hf=>by have:=y.o.2.2.2.2.2.2.2 _ hf;omega)).trans (H.o.2.1.heap j.o.2);have c:=ae (An Q (An V (An X (An ab (An aF.o (An ar ap))))));clear Q V X ab ar ap aq av ah hfe;have D:=ae (sl w5 F2 b nm id ky _ O (aR T) c.o.2.2.2.1 (fun s i p h=>(c.o.2.2.2.2.1.keys s i p h).1) _ _ P vb _ l ss at' (aA l) c.o.2.2.2.2.2.1 s);go_wp2_with fail
     refine D.o.mono ?_;rintro e w6 ⟨rfl,S⟩;have B:=ae S;clear S D;generalize hoc:cR O ⟨s,at',aA l,aG l s⟩=oc at *;obtain⟨f,x⟩:=oc;unfold eK;by_cases I:f=0
     ·have M:((f:Int) != 0)=false:=by simp;omega
      have z:dV rs now xs st (ss.map fun s=>⟨s,at',aA l,aG l s⟩) 0=dV rs now xs O ((ss.map fun s=>(⟨s,at',aA l,aG l s⟩:Clm)).drop (i+1)) (n+kq):=by
       rw[d.o.2.2.2.2.2.2.1,E.o.1,A.o];simp only[hoc];rw[if_pos I]
      have m:=ae z;clear z hoc I;go_wp2;go_roundg (ss.length - (i+1))
      case measure=>rw[d.o.1];omega
      case rel=>
       have v:Kp (fun _=>False) w5 (w6.alloc (.cells #[.int .i64 (f:Int),.string ⟨x.toArray⟩] 52)):=B.o.alloc _;exact⟨i+1,(n+kq),O,F2,rfl,by omega,ak (by omega),ak (by omega),by rw[Nat.succ_mul];exact Nat.add_le_add ad aC,c.o.1.trans (v.mono (fun _ _ h=>h.elim)),c.o.2.1,fun k h=>Nat.lt_of_lt_of_le (c.o.2.2.1 k h) v.size,c.o.2.2.2.1.kp v,c.o.2.2.2.2.1,m.o⟩
     ·have M:((f:Int) != 0)=true:=by simp;omega
      have z:bS rs now xs st text=(((f,x),(n+kq)),O):=by
       rw[HV.o,d.o.2.2.2.2.2.2.1,E.o.1,A.o];simp only[hoc];rw[if_neg I]
      have m:=ae z;have v:Kp (fun _=>False) w5 (w6.alloc (.cells #[.int .i64 (f:Int),.string ⟨x.toArray⟩] 52)):=B.o.alloc _;obtain⟨⟨b0,b1⟩,b2,b3⟩:=aH (v.heap c.o.2.2.2.2.2.2);have C:=ae v;clear z hoc I v;go_wp2;refine bodyPost_ret (gd _ rfl rfl (bO (C.o.heap c.o.2.2.2.2.2.2))) rfl ?_;rw[m.o];exact⟨rfl,ml (((j.o.1.trans H.o.2.1).mono (fun _ _ h=>h.elim)).trans c.o.1) c.o.2.1 R y.o.2.2.2.2.2.2.2 c.o.2.2.1 c.o.2.2.2.1 C.o _ _⟩
  ·have aD:¬(i:Int) < (ss.length:Int):=by omega
   have z:bS rs now xs st text=(((0,[]),n),a):=by
    rw[HV.o,d.o.2.2.2.2.2.2.1,List.drop_of_length_le (by simp;omega)];rfl
   have m:=ae z;obtain⟨⟨b0,b1⟩,b2,b3⟩:=aH Iw;clear z;go_wp2;refine bodyPost_ret (gd _ rfl rfl (bO d.o.2.2.2.2.2.2.2.2.2)) rfl ?_;rw[m.o];exact⟨rfl,ml d.o.2.2.2.2.2.2.2.1 d.o.2.2.1 R y.o.2.2.2.2.2.2.2 d.o.2.2.2.1 d.o.2.2.2.2.1 (Kp.refl _ _) _ _⟩
end
end Go.Proofs.YtocligpfmfmihaaGreatDoor
