import Derived.Test.YtocligpfmfmihaaGreatDoorPr12G
import Derived.Deep.RegionHeld
set_option maxHeartbeats 8000000
set_option maxRecDepth 20000
namespace Go.Proofs.YtocligpfmfmihaaGreatDoor
open Go.Proofs.Tryz
section
open Go Go.RowKit Go.Maps
attribute [local go_sem] Oper.semAt_some
def RnR(w:World)(F:Nat→Prop)(b:Nat)(nm id ky:Bs)(so:Value)(st:Ldg)(c:Nat)(w':World):Prop:=∃F':Nat→Prop,Kp F w w'∧(∀k,F' k→F k∨w.heap.size≤k)∧(∀k,F' k→k < w'.heap.size)∧RN w' F' b nm id ky so st c
theorem RN.mono{w:World}{F:Nat→Prop}{b:Nat}{nm id ky:Bs}{so:Value}{st:Ldg}{c c':Nat}(h:RN w F b nm id ky so st c)(hc:c≤c'):RN w F b nm id ky so st c':=by
 obtain⟨l,d,a,L,D,A,e,f,i,j,k,g⟩:=h;exact⟨l,d,a,L,D,A,e,f,by omega,by omega,by omega,g⟩
theorem nA{w w':World}{F:Nat→Prop}{b:Nat}{nm id ky:Bs}{so:Value}{st:Ldg}{c c':Nat}(K:Kp (fun _=>False) w w')(hF:∀k,F k→k < w.heap.size)(h:RN w F b nm id ky so st c)(hc:c≤c'):RnR w F b nm id ky so st c' w':=
 ⟨F,K.mono (fun _ _ h=>h.elim),fun _ h=>Or.inl h,fun k h=>Nat.lt_of_lt_of_le (hF k h) K.size,(h.frame (fun k hf=>K.block k (hF k hf) (by simp))).mono hc⟩
theorem ql{t:Bs}{n:Nat}(h:aZ t=.error n):n≠0:=by
 unfold aZ at h
 cases a:aM t with
 |error m=>
  rw[a]at h;injection h with h
  subst h;unfold aM eh at a;split at a
  ·rename_i e b
   injection a with a
   subst a;split at b
   ·injection b with b;omega
   ·split at b
    ·injection b with b;omega
    ·cases b
  ·cases a
  ·injection a with a;omega
 |ok l=>
  rw[a]at h;replace h:fI l=.error n:=h;unfold fI at h;split at h
  ·injection h with h;omega
  ·split at h
   ·cases h
   ·injection h with h;omega
theorem mj{w w2 wf:World}{F:Nat→Prop}{b:Nat}{nm id ky:Bs}{so l d a:Value}{L:List Kn}{D:List (Bs×Bs)}{A:List (Bs×Int)}{st:Ldg}{c:Nat}(K0:Kp (fun _=>False) w w2)(K:Kp F w2 wf)(hF:∀k,F k→k < w.heap.size)(hs:RNs wf b nm id ky so l d a L D A)(hA:Abs st L D A)(hcl:L.length≤c)(hcd:D.length≤c)(hca:A.length≤c)(hfb:F b)(hl:∀k,l.ownBlock=some k→F k∨w2.heap.size≤k)(hd:∀k,d.ownBlock=some k→F k∨w2.heap.size≤k)(ha:∀k,a.ownBlock=some k→F k∨w2.heap.size≤k):RnR w F b nm id ky so st c wf:=by
 have f:=K0.size;have g:=K.size;refine⟨fun k=>(F k∨w.heap.size≤k)∧k < wf.heap.size,(K0.mono (fun _ _ h=>h.elim)).trans K,fun _ h=>h.1,fun _ h=>h.2,l,d,a,L,D,A,hs,hA,hcl,hcd,hca,⟨Or.inl hfb,by have:=hF b hfb;omega⟩, ?_⟩;have up:∀k,F k∨w2.heap.size≤k→F k∨w.heap.size≤k:=fun k h=>h.imp (fun h=>h) (fun h=>by omega)
 rintro k (e | e | e)
 ·exact⟨up k (hl k e),(hs.rl.lt k e).2⟩
 ·exact⟨up k (hd k e),(hs.rd.lt k e).2⟩
 ·exact⟨up k (ha k e),(hs.ra.lt k e).2⟩
theorem r7(W:World)(hG:GL W)(w:World)(hW:Below W.heap.size W w)(F:Nat→Prop)(hF:∀k,F k→k < w.heap.size)(b:Nat)(nm id ky:Bs)(so:Value)(st:Ldg)(c:Nat)(hR:RN w F b nm id ky so st c)(text:Bs)(now:Int)(hnow : -9223372036854775808≤now)(hc:c≤800000000):
  Calls prog 84 #[.pointer (some ⟨b,0,none⟩),.string ⟨text.toArray⟩,.int .i64 now] w fun e w'=>e=.returned (.int .i64 ((bi st text now).1:Int))∧RnR w F b nm id ky so (bi st text now).2 (c+1200) w':=by
 have HD:=ae (uP W hG ⟨text.toArray⟩ w hW);have e9:(⟨text.toArray⟩:ByteArray).data.toList=text:=by simp
 rw[e9]at HD;clear e9;have aC:=ae hR;have HF:=ae hF;clear hR hF;go_enter func84,ntmps84;go_wp2_with fail
 refine HD.o.mono ?_;rintro e w1 ⟨K1,H⟩;have aB:=ae K1;clear HD K1
 cases hr:aZ text with
 |error n=>
  rw[hr]at H;replace H:e=.returned (.tuple #[.agg #[.string ⟨#[]⟩,.int .i64 0,.slice none 0 0],.int .i64 (n:Int)]):=H;subst H;have ac:bi st text now=(n,st):=by unfold bi;rw[hr]
  have HL:=ae ac;have hn:=ql hr;have b9:((n:Int) != 0)=true:=by simp;omega
  clear hr ac hn;go_wp2;go_ret;rw[HL.o];exact⟨rfl,nA (aB.o.alloc _) HF.o aC.o (by omega)⟩
 |ok d=>
  obtain⟨sn,un,r⟩:=d;rw[hr]at H;obtain⟨v,rfl,row⟩:=H;obtain⟨q1,q2,q3,q4,q5⟩:=iR hr;obtain⟨va,vc,rfl,bJ⟩:=aJ row;obtain⟨l,d,a,L,D,A,hs,hA,b3,b2,b1,bs,bt⟩:=aC.o;have Kd:Kp (fun _=>False) w1 (w1.alloc (.cells #[.string ⟨sn.toArray⟩,.int .i64 un,.slice va r.length vc] 30)):=(Kp.refl _ _).alloc _;have Id:=heap_alloc_new w1 (.cells #[.string ⟨sn.toArray⟩,.int .i64 un,.slice va r.length vc] 30);have aA:=row.alloc (.cells #[.string ⟨sn.toArray⟩,.int .i64 un,.slice va r.length vc] 30);have b6:=iM row;have Kw:=aB.o.trans Kd;have aU:RNs (w1.alloc (.cells #[.string ⟨sn.toArray⟩,.int .i64 un,.slice va r.length vc] 30)) b nm id ky so l d a L D A:=⟨Kw.heap hs.blk,an hs.rl Kw (by simp),an hs.rd Kw (by simp),an hs.ra Kw (by simp)⟩;have ac:bi st text now=bR st sn r text now:=by unfold bi;rw[hr]
  have HL:=ae ac;have HV:=ae (An bJ (An aA (An q3 Id)));have G:=ae (An hA (An bs bt));have ce:=aB.o.size;clear hr ac row aA bJ q2 q3 q5 hA hs bs bt;go_wp2_with fail
  generalize (w1.alloc (.cells #[.string ⟨sn.toArray⟩,.int .i64 un,.slice va r.length vc] 30))=w0 at *;obtain⟨la,lc,rfl,b8,bC⟩:=aY aU.rl;have HS:=ae aU;have bM:=ae bC;clear aU bC
  go_loopg [9] r.length (fun gg q wr=>∃(i:Nat),gg=r.length - i∧i≤r.length∧q=.int .i64 (i:Int)∧Kp (fun _=>False) w0 wr∧∀(j:Nat) (k:Ky),j < i→r[j]? =some k→iz st sn k=false)
  case atStart=>exact⟨0,rfl,by omega,rfl,Kp.refl _ _,fun _ _ h=>absurd h (by omega)⟩
  case round=>
   obtain⟨i,aa,b5,rfl,E,aw⟩:=hrel;have aj:=ae (An aa aw);clear aa aw;have y:RNs wr b nm id ky so (.slice la L.length lc) d a L D A:=⟨E.heap HS.o.blk,an HS.o.rl E (by simp),an HS.o.rd E (by simp),an HS.o.ra E (by simp)⟩;obtain⟨x0,x1,x2,ad,ah,ai,V⟩:=ba (E.heap HV.o.2.2.2);obtain⟨f0,f1,f2,f3,f4,f5,f6⟩:=cL y.blk;by_cases bP:i < r.length
   ·have bE:(i:Int) < (r.length:Int):=by omega
    obtain⟨k,hk⟩:∃k,r[i]? =some k:=⟨r[i],List.getElem?_eq_getElem bP⟩;obtain⟨g,rfl,_⟩:=HV.o.1 (by omega);obtain⟨c0,c1,c2,c3⟩:=eC (an HV.o.2.1 E (by simp)) i k hk;have s:Hid (∀X,Kp (fun _=>False) wr X→Calls prog 140 #[.pointer (some ⟨b,0,none⟩),.string ⟨sn.toArray⟩,.string ⟨k.id.toArray⟩] X fun e w'=>e=.returned (.int .i64 (ixI (bv (isK sn k.id) L)))∧w'=X):=fun X hX=>pC X b nm id ky so _ d a L 0 (hX.heap y.blk) (an y.rl hX (by simp)) sn k.id
    have b0:Hid (∀X,Kp (fun _=>False) wr X→Kp (fun _=>False) wr X∧X.cell? ⟨w1.heap.size,0,none⟩=some (.string ⟨sn.toArray⟩)∧X.cell? ⟨w1.heap.size,2,none⟩=some (.slice (some ⟨g,0,none⟩) r.length vc)∧X.cell? ⟨g,i*4,none⟩=some (.string ⟨k.id.toArray⟩)):=fun X hX=>⟨hX,hX.cel x0,hX.cel x2,hX.cel c0⟩
    have next:iz st sn k=false→∀(j:Nat) (q:Ky),j < i+1→r[j]? =some q→iz st sn q=false:=by
     intro bS j q hj I;rcases Nat.lt_or_ge j i with h | h
     ·exact aj.o.2 j q h I
     ·have:j=i:=by omega
      subst this;rw[hk]at I;injection I with I
      subst I;exact bS
    have bl:iz st sn k=true→iZ st sn r=true:=fun h=>List.any_eq_true.2 ⟨k,List.mem_of_getElem? hk,h⟩
    have bn:iz st sn k=match cK L sn k.id with | some p=>decide (p.1≠k.key) | none=>false:=by
     unfold iz;rw[G.o.1.keys];cases cK L sn k.id <;> rfl
    have NB:=ae (An next (An bl bn));have U:=ae E;have bI:=y.rl;clear next bl bn hk y E;go_wp2_with fail
    cases hix:bv (isK sn k.id) L with
    |none=>
     rw[hix]at s;obtain⟨m,hm⟩:∃m:Int,m= -1:=⟨_,rfl⟩;replace s:Hid (∀X,Kp (fun _=>False) wr X→Calls prog 140 #[.pointer (some ⟨b,0,none⟩),.string ⟨sn.toArray⟩,.string ⟨k.id.toArray⟩] X fun e w'=>e=.returned (.int .i64 m)∧w'=X):=by rw[hm];exact s
     have aR:decide (m≥0)=false:=by rw[hm];decide
     have aS:decide (0≤m)=false:=by rw[hm];decide
     have ca:¬0≤m:=by rw[hm];decide
     clear hm;have HN:=ae (NB.o.1 (by rw[NB.o.2.2];unfold cK;rw[fA hix];rfl));clear hix;go_region_law (refine aF rfl 140 _ _ rfl #[.pointer (some ⟨b,0,none⟩),.string ⟨sn.toArray⟩,.string ⟨k.id.toArray⟩] (by go_simp) ?_;refine (s.o _ (Kp.refl _ wr).drew).mono ?_;rintro e w2 ⟨rfl,rfl⟩)
     all_goals go_wp2
     all_goals go_region
     all_goals go_wp2
     all_goals go_roundg (r.length - (i+1))
     all_goals first
      | (rw[aj.o.1];omega)
      |exact⟨i+1,rfl,by omega,ak (by omega),U.o.drew.drew,HN.o⟩
    |some n=>
     rw[hix]at s;replace s:Hid (∀X,Kp (fun _=>False) wr X→Calls prog 140 #[.pointer (some ⟨b,0,none⟩),.string ⟨sn.toArray⟩,.string ⟨k.id.toArray⟩] X fun e w'=>e=.returned (.int .i64 (n:Int))∧w'=X):=s;obtain⟨kn,B,aO,ab⟩:=fB hix
     have bQ:n < L.length:=by
      rcases Nat.lt_or_ge n L.length with h' | h'
      ·exact h'
      ·rw[List.getElem?_eq_none h']at B;cases B
     obtain⟨lg,rfl,_⟩:=bM.o (by omega);obtain⟨m0,m1,m2,m3⟩:=km bI n kn B;have ar:iz st sn k=decide (kn.key≠k.key):=by rw[NB.o.2.2];unfold cK;rw[ab];rfl
     have aR:decide ((n:Int)≥0)=true:=by simp
     have aS:(n:Int) < (L.length:Int):=by omega
     clear hix B aO ab bI m0 m1 m3;by_cases N:kn.key=k.key
     ·have aM:(kn.key == k.key)=true:=by simpa using N
      have HN:=ae (NB.o.1 (by rw[ar];simpa using N));clear N ar;go_region_law (refine aF rfl 140 _ _ rfl #[.pointer (some ⟨b,0,none⟩),.string ⟨sn.toArray⟩,.string ⟨k.id.toArray⟩] (by go_simp) ?_;refine (s.o _ (Kp.refl _ wr).drew).mono ?_;rintro e w2 ⟨rfl,rfl⟩)
      all_goals go_wp2
      all_goals go_quiet (fail)
      all_goals go_wp2
      all_goals go_roundg (r.length - (i+1))
      all_goals first
       | (rw[aj.o.1];omega)
       |exact⟨i+1,rfl,by omega,ak (by omega),U.o.drewN _,HN.o⟩
     ·have aM:(kn.key == k.key)=false:=by simpa using N
      have HN:=ae (NB.o.2.1 (by rw[ar];simpa using N));clear N ar;go_region_law (refine aF rfl 140 _ _ rfl #[.pointer (some ⟨b,0,none⟩),.string ⟨sn.toArray⟩,.string ⟨k.id.toArray⟩] (by go_simp) ?_;refine (s.o _ (Kp.refl _ wr).drew).mono ?_;rintro e w2 ⟨rfl,rfl⟩)
      all_goals go_wp2
      all_goals go_quiet (fail)
      all_goals go_wp2
      all_goals go_ret
      all_goals
       rw[HL.o,show bR st sn r text now=(6,st) by unfold bR;rw[if_pos HN.o]];exact⟨rfl,nA ((Kw.trans U.o).drew.drewN _) HF.o aC.o (by omega)⟩
   ·have bE:¬(i:Int) < (r.length:Int):=by omega
    have aK:iZ st sn r=false:=by
     unfold iZ;rw[List.any_eq_false];intro k hk;obtain⟨j,hj,N⟩:=List.mem_iff_getElem.1 hk;rw[aj.o.2 j k (by omega) (by rw[List.getElem?_eq_getElem hj,N])];decide
    have aE:=ae (An aK (show bR st sn r text now=(0,fC (r.foldl (bp sn now) st) sn text) by unfold bR;rw[if_neg (by rw[aK];decide)]));have bN:=ae y;have U:=ae (Kw.trans E);have am:=ae (An (an HV.o.2.1 E (by simp)) (E.heap HV.o.2.2.2));have cf:=(Kw.trans E).size;have bZ:w1.heap.size < wr.heap.size:=V;clear aK y E;go_wp2_with fail
    refine (xN now hnow wr).mono ?_;rintro e w2 ⟨rfl,rfl⟩;go_wp2_with fail
    go_loopg [12] r.length (fun gg q wx=>∃(i:Nat) (l2:Value) (C:List Kn),gg=r.length - i∧i≤r.length∧q=.int .i64 (i:Int)∧Kp F w2 wx∧RNs wx b nm id ky so l2 d a C D A∧((∀s' i',((r.take i).foldl (bp sn now) st).keys s' i'=cK C s' i')∧NdL C)∧C.length≤c+i∧(∀k,l2.ownBlock=some k→F k∨w2.heap.size≤k))
    case atStart=>exact⟨0,_,L,rfl,by omega,rfl,Kp.refl _ _,bN.o,⟨G.o.1.keys,G.o.1.nl⟩,by omega,fun k e=>Or.inl (G.o.2.2 k (Or.inl e))⟩
    case round=>
     obtain⟨i2,l2,C,aa,bV,rfl,E,y,bB,b7,bD⟩:=hrel;have aH:∀k,F k→k < w.heap.size:=HF.o;have T:=an am.o.1 E (fun k e hf=>by have H:=(am.o.1.lt k e).1;have h2:=aH k hf;omega);have Ix:=(E.block _ (ag am.o.2) (fun hf=>by have h2:=aH _ hf;omega)).trans am.o.2;clear x0 x1 x2 ad ah ai V f0 f1 f2 f3 f4 f5 f6;obtain⟨x0,x1,x2,ad,ah,ai,V⟩:=ba Ix;obtain⟨f0,f1,f2,f3,f4,f5,f6⟩:=cL y.blk;obtain⟨z4,z5,z6,aq⟩:=jj y.blk;obtain⟨bT,bU,rfl,bY,az⟩:=aY y.rl;have bx:∀q,(Value.slice va r.length vc).ownBlock=some q→∃cc,wr.heap[q]? =some (.cells cc 35):=fun q e=>gy T e
     have x:=ae (An aa (An E (An y (An bB (An bD (An az (An Ix bx)))))));clear bx;clear aa E bB bD aH az y Ix;by_cases bF:i2 < r.length
     ·have aP:(i2:Int) < (r.length:Int):=by omega
      obtain⟨k,hk⟩:∃k,r[i2]? =some k:=⟨r[i2],List.getElem?_eq_getElem bF⟩;obtain⟨g,rfl,_⟩:=HV.o.1 (by omega);obtain⟨c0,c1,c2,c3⟩:=eC T i2 k hk;have bH:=tk (now:=now) HV.o.2.2.1 aE.o.1 hk;have bu:=wR (sn:=sn) (now:=now) (st:=st) hk;have Y:=ae (An bH bu);clear hk bH bu T
      have aI:(k.old=true∧bX now k=k.till)∨(k.old=false∧decide (k.till > jV now)=true∧bX now k=jV now)∨(k.old=false∧decide (k.till > jV now)=false∧bX now k=k.till):=by
       unfold bX
       cases k.old with
       |true=>exact Or.inl ⟨rfl,rfl⟩
       |false=>
        by_cases h:k.till > jV now
        ·exact Or.inr (Or.inl ⟨rfl,by simpa using h,by simp;omega⟩)
        ·exact Or.inr (Or.inr ⟨rfl,by simpa using h,by simp;omega⟩)
      rcases aI with⟨ho,hT⟩ | ⟨ho,bo,hT⟩ | ⟨ho,bo,hT⟩
      all_goals
       rw[ho]at c2;have HT:=ae hT;clear ho hT;have s:Hid (∀X,Kp (fun _=>False) wr X→Calls prog 140 #[.pointer (some ⟨b,0,none⟩),.string ⟨sn.toArray⟩,.string ⟨k.id.toArray⟩] X fun e w'=>e=.returned (.int .i64 (ixI (bv (isK sn k.id) C)))∧w'=X):=fun X hX=>pC X b nm id ky so _ d a C 0 (hX.heap x.o.2.2.1.blk) (an x.o.2.2.1.rl hX (by simp)) sn k.id
       go_wp2_with fail
       cases hix:bv (isK sn k.id) C with
       |none=>
        rw[hix]at s;obtain⟨m,hm⟩:∃m:Int,m= -1:=⟨_,rfl⟩;replace s:Hid (∀X,Kp (fun _=>False) wr X→Calls prog 140 #[.pointer (some ⟨b,0,none⟩),.string ⟨sn.toArray⟩,.string ⟨k.id.toArray⟩] X fun e w'=>e=.returned (.int .i64 m)∧w'=X):=by rw[hm];exact s
        have aR:decide (m < 0)=true:=by rw[hm];decide
        have aS:m < 0:=by rw[hm];decide
        clear hm;have z:=ae hix;clear hix;refine fG ?_ wr.drew ?_ ?_;rotate_left
        ·go_region_law (refine aF rfl 140 _ _ rfl #[.pointer (some ⟨b,0,none⟩),.string ⟨sn.toArray⟩,.string ⟨k.id.toArray⟩] (by go_simp) ?_;refine (s.o _ (Kp.refl _ wr).drew).mono ?_;rintro e w3 ⟨rfl,rfl⟩)
         all_goals exact cF
        rw[←HT.o];go_wp2_with fail
        have hz:=x.o.2.2.1.kp (Kp.refl _ wr).drew;have y0:wr.drew.cell? ⟨w1.heap.size,0,none⟩=some (.string ⟨sn.toArray⟩):=x0;have y2:wr.drew.cell? ⟨w1.heap.size,2,none⟩=some (.slice (some ⟨g,0,none⟩) r.length vc):=x2;have d0:wr.drew.cell? ⟨g,i2*4,none⟩=some (.string ⟨k.id.toArray⟩):=c0;have d1:wr.drew.cell? ⟨g,i2*4+1,none⟩=some (.string ⟨k.key.toArray⟩):=c1;have KZ:Kp F w2 wr.drew:=x.o.2.1.drew;have al:Hid (wr.drew.heap[w1.heap.size]? =some (.cells #[.string ⟨sn.toArray⟩,.int .i64 un,.slice (some ⟨g,0,none⟩) r.length vc] 30)∧∃cc,wr.drew.heap[g]? =some (.cells cc 35)):=⟨x.o.2.2.2.2.2.2.1,x.o.2.2.2.2.2.2.2 g rfl⟩;clear x0 x1 x2 ad ah ai f0 f1 f2 f3 f4 f5 f6 z4 z5 z6 c0 c1 c2 c3 aq V s;generalize wr.drew=wy at *;obtain⟨f0,f1,f2,f3,f4,f5,f6⟩:=cL hz.blk;have l0:=bk y0;have l1:=bk d0;have l2:=ag hz.blk;obtain⟨t0,hi,aX,a0,a1⟩:=info_parts Dn
        obtain⟨v9,w9,ap,o9,g9,n9,a9⟩:=run_append_own_at (P:=prog) (w:=(wy.alloc (.cells #[.string ⟨sn.toArray⟩,.string ⟨k.id.toArray⟩,.string ⟨k.key.toArray⟩,.int .i64 (bX now k)] 255)).drew) 0 153 153 255 t0 (.agg #[.string ⟨#[]⟩,.string ⟨#[]⟩,.string ⟨#[]⟩,.int .i64 0]) 4 56 underlying153 hi aX a0 a1 rfl (by decide) (.slice bT C.length bU) C.length (C.flatMap knC) (hz.rl.alloc _) ⟨wy.heap.size,0,none⟩ 1 1 (knC ⟨sn,k.id,k.key,bX now k⟩) rfl (by
          intro j u hj;rcases j with _ | _ | _ | _ | j
          all_goals simp[knC]at hj
          all_goals subst hj
          all_goals simp[Addr.add]) (by intro u hu;simp[knC]at hu;rcases hu with rfl | rfl | rfl | rfl <;> rfl) (by unfold maxLen;omega) (by omega) (Nat.zero_le _)
        obtain⟨O,Q,rfl,aV,aW⟩:=aY o9;clear aV aW n9;have t:=hz.more o9 g9 (by rcases a9 with e | e;exact Or.inl e;exact Or.inr (by rw[e];simp));obtain⟨e0,e1,e2,e3,e4,e5,e6⟩:=cL t.1;obtain⟨z4,z5,z6,aq⟩:=jj t.1
        have hS:∀X:World,X.heap[w1.heap.size]? =wy.heap[w1.heap.size]? →X.heap[g]? =wy.heap[g]? →X.cell? ⟨w1.heap.size,0,none⟩=some (.string ⟨sn.toArray⟩)∧X.cell? ⟨w1.heap.size,2,none⟩=some (.slice (some ⟨g,0,none⟩) r.length vc)∧X.cell? ⟨g,i2*4,none⟩=some (.string ⟨k.id.toArray⟩)∧X.cell? ⟨g,i2*4+1,none⟩=some (.string ⟨k.key.toArray⟩):=by
         intro X H h2;refine⟨?_, ?_, ?_, ?_⟩
         ·rw[←y0];unfold World.cell?;rw[H]
         ·rw[←y2];unfold World.cell?;rw[H]
         ·rw[←d0];unfold World.cell?;rw[h2]
         ·rw[←d1];unfold World.cell?;rw[h2]
        have au:w1.heap.size < wy.heap.size:=l0;have av:g < wy.heap.size:=l1;have aL:=g9.block w1.heap.size (by show _ < (wy.alloc _).heap.size;simp;omega) (fun e=>dl hz.rl (al.o.1) (by decide) e.symm)
        have aN:=g9.block g (by show _ < (wy.alloc _).heap.size;simp;omega) (fun e=>by
          obtain⟨cc,M⟩:=al.o.2;exact dl hz.rl M (by decide) e.symm)
        have J:∀(q:Nat) (o:Obj),q < wy.heap.size→(wy.alloc o).drew.heap[q]? =wy.heap[q]? :=fun q o h=>Below.heap_alloc wy o q h
        have bg:=ae (hS wy.drew rfl rfl);have aD:=ae (hS (wy.alloc (.cells #[.string ⟨sn.toArray⟩,.string ⟨k.id.toArray⟩,.string ⟨k.key.toArray⟩,.int .i64 (bX now k)] 255)).drew (J _ _ au) (J _ _ av));have bh:=ae (hS w9 (aL.trans (J _ _ au)) (aN.trans (J _ _ av)))
        have br:w1.heap.size≠b:=by
         rintro rfl;have H:=al.o.1;rw[hz.blk]at H;unfold bm at H;injection H with H
         injection H with _ h2 _
         revert h2
         decide
        have bw:g≠b:=by
         rintro rfl;obtain⟨cc,M⟩:=al.o.2;rw[hz.blk]at M;unfold bm at M;injection M with M
         injection M with _ h2 _
         revert h2
         decide
        have bj:=ae (hS (w9.setCell ⟨b,4,none⟩ (.slice O (C.length+1) Q)) ((af (by exact br)).trans (aL.trans (J _ _ au))) ((af (by exact bw)).trans (aN.trans (J _ _ av))));have HM:=ae (An t (An g9 (An a9 KZ)));clear t g9 a9 o9 hz KZ hS aL aN J br bw y0 y2 d0 d1 au av;rename_i q01 q02 q03 q04 q05 a2 q07 a3 q09 a4 q11 q12 a5 q14 q15 q16 q17 a6;have a7:=ae a2;have a8:=ae a3;have bb:=ae a4;have bc:=ae a5;have bd:=ae a6;clear a6 a5 a4 a3 a2;refine fG ?_ (w9.setCell ⟨b,4,none⟩ (.slice O (C.length+1) Q)) ?_ ?_;rotate_left
        ·refine wp_region_held_drew (S:=fun X=>X.cell? ⟨w1.heap.size,0,none⟩=some (.string ⟨sn.toArray⟩)∧X.cell? ⟨w1.heap.size,2,none⟩=some (.slice (some ⟨g,0,none⟩) r.length vc)∧X.cell? ⟨g,i2*4,none⟩=some (.string ⟨k.id.toArray⟩)∧X.cell? ⟨g,i2*4+1,none⟩=some (.string ⟨k.key.toArray⟩)) (by kernel_rfl) bg.o (fun hHeld=> ?_)
         refine wpAnyH_take (i:=0) (v:= ?_) rfl (by kernel_rfl) (by kernel_rfl) (by kernel_rfl) (fun _ _ _ h=>h) (Or.inl ⟨by rfl, ?_⟩) (by assumption) ?_;rotate_left
         ·intro w f;(try dsimp only at f);go_simp
          all_goals with_reducible rfl
         simp only[Act.put];refine wpAnyH_take (i:=1) (v:= ?_) rfl (by kernel_rfl) (by kernel_rfl) (by kernel_rfl) (fun _ _ _ h=>h) (Or.inl ⟨by rfl, ?_⟩) (by assumption) ?_;rotate_left
         ·intro w f;(try dsimp only at f);go_simp
          all_goals with_reducible rfl
         simp only[Act.put];refine wpAnyH_take (i:=2) (v:= ?_) rfl (by kernel_rfl) (by kernel_rfl) (by kernel_rfl) (fun _ _ _ h=>h) (Or.inl ⟨by rfl, ?_⟩) (by assumption) ?_;rotate_left
         ·intro w f;(try dsimp only at f);go_simp
          all_goals with_reducible rfl
         simp only[Act.put];refine wpAnyH_take (i:=3) (v:= ?_) rfl (by kernel_rfl) (by kernel_rfl) (by kernel_rfl) (fun _ _ _ h=>h) (Or.inl ⟨by rfl, ?_⟩) (by assumption) ?_;rotate_left
         ·intro w f;(try dsimp only at f);go_simp
          all_goals with_reducible rfl
         simp only[Act.put];refine wpAnyH_take (i:=5) (v:= ?_) rfl (by kernel_rfl) (by kernel_rfl) (by kernel_rfl) (fun _ _ _ h=>h) (Or.inl ⟨by rfl, ?_⟩) (by assumption) ?_;rotate_left
         ·intro w f;(try dsimp only at f);go_simp
          all_goals with_reducible rfl
         simp only[Act.put];refine wpAnyH_take (i:=6) (v:= ?_) rfl (by kernel_rfl) (by kernel_rfl) (by kernel_rfl) (fun _ _ _ h=>h) (Or.inl ⟨by rfl, ?_⟩) (by assumption) ?_;rotate_left
         ·intro w f;(try dsimp only at f);go_simp
          all_goals with_reducible rfl
         simp only[Act.put];refine wpAnyH_take (i:=7) (v:= ?_) rfl (by kernel_rfl) (by kernel_rfl) (by kernel_rfl) (fun _ _ _ h=>h) (Or.inl ⟨by rfl, ?_⟩) (by assumption) ?_;rotate_left
         ·intro w f;(try dsimp only at f);go_simp
          all_goals with_reducible rfl
         simp only[Act.put];refine wpAnyH_take (i:=8) (v:= ?_) rfl (by kernel_rfl) (by kernel_rfl) (by kernel_rfl) (fun _ _ _ h=>h) (Or.inl ⟨by rfl, ?_⟩) (by assumption) ?_;rotate_left
         ·intro w f;(try dsimp only at f);go_simp
          all_goals with_reducible rfl
         simp only[Act.put];refine wpAnyH_take (i:=9) (v:= ?_) rfl (by kernel_rfl) (by kernel_rfl) (by kernel_rfl) (fun _ _ _ h=>h) (Or.inl ⟨by rfl, ?_⟩) (by assumption) ?_;rotate_left
         ·intro w f;(try dsimp only at f);go_simp
          all_goals with_reducible rfl
         simp only[Act.put];refine wpAnyH_take (i:=10) (v:= ?_) rfl (by kernel_rfl) (by kernel_rfl) (by kernel_rfl) (fun _ _ _ h=>h) (Or.inl ⟨by rfl, ?_⟩) (by assumption) ?_;rotate_left
         ·intro w f;(try dsimp only at f);go_simp
          all_goals with_reducible rfl
         simp only[Act.put];refine wpAnyH_take (i:=11) (v:= ?_) rfl (by kernel_rfl) (by kernel_rfl) (by kernel_rfl) (fun _ _ _ h=>h) (Or.inl ⟨by rfl, ?_⟩) (by assumption) ?_;rotate_left
         ·intro w f;(try dsimp only at f);go_simp
          all_goals with_reducible rfl
         simp only[Act.put];refine wpAnyH_take (i:=12) (v:= ?_) rfl (by kernel_rfl) (by kernel_rfl) (by kernel_rfl) (fun _ _ _ h=>h) (Or.inl ⟨by rfl, ?_⟩) (by assumption) ?_;rotate_left
         ·intro w f;(try dsimp only at f);go_simp
          all_goals with_reducible rfl
         simp only[Act.put];refine wpAnyH_take (i:=13) (v:= ?_) rfl (by kernel_rfl) (by kernel_rfl) (by kernel_rfl) (fun _ _ _ h=>h) (Or.inl ⟨by rfl, ?_⟩) (by assumption) ?_;rotate_left
         ·intro w f;(try dsimp only at f);go_simp
          all_goals with_reducible rfl
         simp only[Act.put];refine wpAnyH_take (i:=14) (v:= ?_) rfl (by kernel_rfl) (by kernel_rfl) (by kernel_rfl) (fun _ _ _ h=>h) (Or.inl ⟨by rfl, ?_⟩) (by assumption) ?_;rotate_left
         ·intro w f;(try dsimp only at f);go_simp
          all_goals with_reducible rfl
         simp only[Act.put];refine wpAnyH_take (i:=15) (v:= ?_) rfl (by kernel_rfl) (by kernel_rfl) (by kernel_rfl) (fun _ _ _ h=>h) (Or.inl ⟨by rfl, ?_⟩) (by assumption) ?_;rotate_left
         ·intro w f;(try dsimp only at f);go_simp
          all_goals with_reducible rfl
         simp only[Act.put];refine wpAnyH_take (i:=16) (v:= ?_) rfl (by kernel_rfl) (by kernel_rfl) (by kernel_rfl) (fun _ _ _ h=>h) (Or.inl ⟨by rfl, ?_⟩) (by assumption) ?_;rotate_left
         ·intro w f;(try dsimp only at f);go_simp
          all_goals with_reducible rfl
         simp only[Act.put];refine wpAnyH_take (i:=17) (v:= ?_) rfl (by kernel_rfl) (by kernel_rfl) (by kernel_rfl) (fun _ _ _ h=>h) (Or.inl ⟨by rfl, ?_⟩) (by assumption) ?_;rotate_left
         ·intro w f;(try dsimp only at f);go_simp
          all_goals with_reducible rfl
         simp only[Act.put];refine wpAnyH_take (i:=18) (v:= ?_) rfl (by kernel_rfl) (by kernel_rfl) (by kernel_rfl) (fun _ _ _ h=>h) (Or.inl ⟨by rfl, ?_⟩) (by assumption) ?_;rotate_left
         ·intro w f;(try dsimp only at f);go_simp
          all_goals with_reducible rfl
         simp only[Act.put];refine wpAnyH_take (i:=19) (v:= ?_) rfl (by kernel_rfl) (by kernel_rfl) (by kernel_rfl) (fun _ _ _ h=>h) (Or.inl ⟨by rfl, ?_⟩) (by assumption) ?_;rotate_left
         ·intro w f;(try dsimp only at f);go_simp
          all_goals with_reducible rfl
         simp only[Act.put];refine wpAnyH_take (i:=20) (v:= ?_) rfl (by kernel_rfl) (by kernel_rfl) (by kernel_rfl) (fun _ _ _ h=>h) (Or.inl ⟨by rfl, ?_⟩) (by assumption) ?_;rotate_left
         ·intro w f;(try dsimp only at f);go_simp
          all_goals with_reducible rfl
         simp only[Act.put];refine wpAnyH_ready (rs:=[4,21]) (by kernel_rfl) (by simp) (AllReadyH.cons rfl (fun K hK=> ?_) (AllReadyH.cons rfl (fun K hK=> ?_) AllReadyH.nil))
         ·go_simp
          refine hK.out _ _ bg.o (fun hHeld=> ?_);clear hK K;refine wpAnyH_ready (rs:=[21]) (by kernel_rfl) (by simp) (AllReadyH.cons rfl (fun K hK=> ?_) AllReadyH.nil);go_simp
          refine hK.out _ _ aD.o (fun hHeld=> ?_);clear hK K;refine wpAnyH_ready (rs:=[22]) (by kernel_rfl) (by simp) (AllReadyH.cons rfl (fun K hK=> ?_) AllReadyH.nil);refine dq rfl _ _ _ rfl _ _ (.slice O (C.length+1) Q) w9 (by simp[Act.eval]) (by simp[Act.eval]) ap ?_;refine hK.out _ _ bh.o (fun hHeld=> ?_);clear hK K;refine wpAnyH_take (i:=23) (v:= ?_) rfl (by kernel_rfl) (by kernel_rfl) (by kernel_rfl) (fun _ _ _ h=>h) (Or.inl ⟨by rfl, ?_⟩) (by assumption) ?_;rotate_left
          ·intro w f;(try dsimp only at f);go_simp
           all_goals with_reducible rfl
          simp only[Act.put];refine wpAnyH_take (i:=24) (v:= ?_) rfl (by kernel_rfl) (by kernel_rfl) (by kernel_rfl) (fun _ _ _ h=>h) (Or.inl ⟨by rfl, ?_⟩) (by assumption) ?_;rotate_left
          ·intro w f;(try dsimp only at f);go_simp
           all_goals with_reducible rfl
          simp only[Act.put];refine wpAnyH_ready (rs:=[25]) (by kernel_rfl) (by simp) (AllReadyH.cons rfl (fun K hK=> ?_) AllReadyH.nil);go_simp
          refine hK.out _ _ bj.o (fun hHeld=> ?_);clear hK K;refine wpAnyH_done (by kernel_rfl) ?_ _;exact cF
         ·go_simp
          refine hK.out _ _ aD.o (fun hHeld=> ?_);clear hK K;refine wpAnyH_ready (rs:=[4]) (by kernel_rfl) (by simp) (AllReadyH.cons rfl (fun K hK=> ?_) AllReadyH.nil);go_simp
          refine hK.out _ _ aD.o (fun hHeld=> ?_);clear hK K;refine wpAnyH_ready (rs:=[22]) (by kernel_rfl) (by simp) (AllReadyH.cons rfl (fun K hK=> ?_) AllReadyH.nil);refine dq rfl _ _ _ rfl _ _ (.slice O (C.length+1) Q) w9 (by simp[Act.eval]) (by simp[Act.eval]) ap ?_;refine hK.out _ _ bh.o (fun hHeld=> ?_);clear hK K;refine wpAnyH_take (i:=23) (v:= ?_) rfl (by kernel_rfl) (by kernel_rfl) (by kernel_rfl) (fun _ _ _ h=>h) (Or.inl ⟨by rfl, ?_⟩) (by assumption) ?_;rotate_left
          ·intro w f;(try dsimp only at f);go_simp
           all_goals with_reducible rfl
          simp only[Act.put];refine wpAnyH_take (i:=24) (v:= ?_) rfl (by kernel_rfl) (by kernel_rfl) (by kernel_rfl) (fun _ _ _ h=>h) (Or.inl ⟨by rfl, ?_⟩) (by assumption) ?_;rotate_left
          ·intro w f;(try dsimp only at f);go_simp
           all_goals with_reducible rfl
          simp only[Act.put];refine wpAnyH_ready (rs:=[25]) (by kernel_rfl) (by simp) (AllReadyH.cons rfl (fun K hK=> ?_) AllReadyH.nil);go_simp
          refine hK.out _ _ bj.o (fun hHeld=> ?_);clear hK K;refine wpAnyH_done (by kernel_rfl) ?_ _;exact cF
        have a2:=a7.o;have a3:=a8.o;have a4:=bb.o;have a5:=bc.o;have a6:=bd.o;clear a7 a8 bb bc bd;go_wp2;rw[HT.o];go_roundg (r.length - (i2+1))
        rotate_left
        ·rw[x.o.1];omega
        ·exact⟨i2+1,_,_,rfl,by omega,ak (by omega),((HM.o.2.2.2.alloc _).drew.grown HM.o.2.1 (fun q e I=>(x.o.2.2.2.2.1 q e).resolve_right (by omega))).setCell (fun _=>G.o.2.1) _,HM.o.1.2,⟨fun s' i'=>by rw[Y.o.2];exact zm x.o.2.2.2.1.1 z.o s' i',BS x.o.2.2.2.1.2 z.o⟩,by rw[List.length_append,List.length_singleton];omega,fun q e=>by
          rcases HM.o.2.2.1 with h | h
          ·exact x.o.2.2.2.2.1 q (h.symm.trans e)
          ·right
           rw[h]at e;injection e with e
           have:=HM.o.2.2.2.size;subst e;show _≤(wy.alloc _).heap.size
           simp;omega⟩
       |some n=>
        rw[hix]at s;replace s:Hid (∀X,Kp (fun _=>False) wr X→Calls prog 140 #[.pointer (some ⟨b,0,none⟩),.string ⟨sn.toArray⟩,.string ⟨k.id.toArray⟩] X fun e w'=>e=.returned (.int .i64 (n:Int))∧w'=X):=s;obtain⟨kn,B,aO,ab⟩:=fB hix
        have bQ:n < C.length:=by
         rcases Nat.lt_or_ge n C.length with h' | h'
         ·exact h'
         ·rw[List.getElem?_eq_none h']at B;cases B
        obtain⟨lg,rfl,_⟩:=x.o.2.2.2.2.2.1 (by omega);obtain⟨m0,m1,m2,m3⟩:=km x.o.2.2.1.rl n kn B;have m4:=x.o.2.2.1.rl.frozenAt (n*4+3);have aR:decide ((n:Int) < 0)=false:=by simp
        have aS:(n:Int) < (C.length:Int):=by omega
        have z:=ae (An hix (An B ab));clear hix B aO ab m0 m1 m2;refine fG ?_ wr.drew ?_ ?_;rotate_left
        ·go_region_law (refine aF rfl 140 _ _ rfl #[.pointer (some ⟨b,0,none⟩),.string ⟨sn.toArray⟩,.string ⟨k.id.toArray⟩] (by go_simp) ?_;refine (s.o _ (Kp.refl _ wr).drew).mono ?_;rintro e w3 ⟨rfl,rfl⟩)
         all_goals exact cF
        rw[←HT.o];have bf:=ae (xi x.o.2.2.2.1.1 z.o.1 z.o.2.1 Y.o.1.1 Y.o.1.2);by_cases bO:kn.till < bX now k
        ·go_wp2
         rw[HT.o];go_roundg (r.length - (i2+1))
         all_goals first
          | (rw[x.o.1];omega)
          |exact⟨i2+1,_,_,rfl,by omega,ak (by omega),(x.o.2.1.drew).setCell (fun I=>(x.o.2.2.2.2.1 lg rfl).resolve_right (Nat.not_le_of_lt I)) _,(x.o.2.2.1.kp (Kp.refl _ wr).drew).till n kn z.o.2.1 _,⟨fun s' i'=>by rw[Y.o.2,←HT.o];exact zn x.o.2.2.2.1.1 z.o.1 z.o.2.1 bf.o bO s' i',BT x.o.2.2.2.1.2 z.o.2.1⟩,by rw[List.length_set];omega,fun q e=>x.o.2.2.2.2.1 q e⟩
        ·go_wp2
         rw[HT.o];go_roundg (r.length - (i2+1))
         all_goals first
          | (rw[x.o.1];omega)
          |exact⟨i2+1,_,_,rfl,by omega,ak (by omega),x.o.2.1.drew,x.o.2.2.1.kp (Kp.refl _ wr).drew,⟨fun s' i'=>by rw[Y.o.2];exact xh x.o.2.2.2.1.1 z.o.1 z.o.2.1 bf.o (by omega) s' i',x.o.2.2.2.1.2⟩,by omega,fun q e=>x.o.2.2.2.2.1 q e⟩
     ·have aP:¬(i2:Int) < (r.length:Int):=by omega
      have bz:i2=r.length:=by omega
      have ay:(∀s' i',(r.foldl (bp sn now) st).keys s' i'=cK C s' i')∧NdL C:=by
       have:=x.o.2.2.2.1;rw[bz,List.take_length]at this;exact this
      have be:=ae ay;clear bz ay T;obtain⟨da,dc,rfl,b4,bq⟩:=aY x.o.2.2.1.rd;have bK:=ae bq;clear bq;generalize wr=w4 at *;go_wp2_with fail
      go_loopg [15] D.length (fun gg q wx=>∃(i:Nat),gg=D.length - i∧i≤D.length∧q=.int .i64 (i:Int)∧Kp (fun _=>False) w4 wx∧∀(j:Nat) (p:Bs×Bs),j < i→D[j]? =some p→p.1≠sn)
      case atStart=>exact⟨0,rfl,by omega,rfl,Kp.refl _ _,fun _ _ h=>absurd h (by omega)⟩
      case round=>
       obtain⟨i3,ax,bW,rfl,ao,Z⟩:=hrel;have aT:=x.o.2.2.1.kp ao;have aG:=ao.heap x.o.2.2.2.2.2.2.1;clear x0 x1 x2 ad ah ai V f0 f1 f2 f3 f4 f5 f6 z4 z5 z6 aq;obtain⟨x0,x1,x2,ad,ah,ai,V⟩:=ba aG;obtain⟨f0,f1,f2,f3,f4,f5,f6⟩:=cL aT.blk;have R:=ae (An ax (An ao (An aT (An Z aG))));clear ax ao Z aG aT;by_cases bG:i3 < D.length
       ·have aQ:(i3:Int) < (D.length:Int):=by omega
        obtain⟨p,hp⟩:∃p,D[i3]? =some p:=⟨D[i3],List.getElem?_eq_getElem bG⟩;obtain⟨dg,rfl,_⟩:=bK.o (by omega);obtain⟨d0,d1⟩:=mX R.o.2.2.1.rd i3 p hp;have m4:=R.o.2.2.1.rd.frozenAt (i3*2+1);have HP:=ae hp;clear hp;by_cases N:p.1=sn
        ·have aM:(p.1 == sn)=true:=by simpa using N
         have HE:=ae N;clear N;go_wp2;go_quiet (fail)
         go_wp2;go_ret;rw[HL.o,aE.o.2];refine⟨rfl,mj U.o ((x.o.2.1.trans (R.o.2.1.mono (fun _ _ h=>h.elim))).drewN _ |>.setCell (fun _=>G.o.2.2 dg (Or.inr (Or.inl rfl))) _) HF.o ((R.o.2.2.1.kp ((Kp.refl _ wr).drewN _)).doc i3 p HP.o text) (A8 G.o.1 be.o (j5 HP.o HE.o R.o.2.2.2.1) HP.o) (by omega) (by rw[List.length_set];omega) (by omega) G.o.2.1 x.o.2.2.2.2.1 (fun q e=>Or.inl (G.o.2.2 q (Or.inr (Or.inl e)))) (fun q e=>Or.inl (G.o.2.2 q (Or.inr (Or.inr e))))⟩
        ·have aM:(p.1 == sn)=false:=by simpa using N
         have HE:=ae N;clear N;go_wp2;go_quiet (fail)
         go_wp2;go_roundg (D.length - (i3+1))
         all_goals first
          | (rw[R.o.1];omega)
          |exact⟨i3+1,rfl,by omega,ak (by omega),R.o.2.1.drewN _,fun j q hj I=>by
            rcases Nat.lt_or_ge j i3 with h | h
            ·exact R.o.2.2.2.1 j q h I
            ·have:j=i3:=by omega
             subst this;rw[HP.o]at I;injection I with I
             subst I;exact HE.o⟩
       ·have aQ:¬(i3:Int) < (D.length:Int):=by omega
        have bA:bv (isS sn) D=none:=j4 (fun j q hj I=>R.o.2.2.2.1 j q (by omega) I);have bL:=ae bA;clear bA;go_wp2_with fail
        have l0:=bk x0;have l2:=ag R.o.2.2.1.blk;obtain⟨t0,hi,aX,a0,a1⟩:=info_parts Dm
        obtain⟨v9,w9,ap,o9,g9,n9,a9⟩:=run_append_own_at (P:=prog) (w:=(wr.alloc (.cells #[.string ⟨sn.toArray⟩,.string ⟨text.toArray⟩] 257)).drew) 0 154 154 257 t0 (.agg #[.string ⟨#[]⟩,.string ⟨#[]⟩]) 2 32 underlying154 hi aX a0 a1 rfl (by decide) (.slice da D.length dc) D.length (D.flatMap hdC) (R.o.2.2.1.rd.alloc _) ⟨wr.heap.size,0,none⟩ 1 1 (hdC (sn,text)) rfl (by
          intro j u hj;rcases j with _ | _ | j
          all_goals simp[hdC]at hj
          all_goals subst hj
          all_goals simp[Addr.add]) (by intro u hu;simp[hdC]at hu;rcases hu with rfl | rfl <;> rfl) (by unfold maxLen;omega) (by omega) (Nat.zero_le _)
        obtain⟨O,Q,rfl,aV,aW⟩:=aY o9;clear aV aW n9;have t:=R.o.2.2.1.moreD o9 g9 (by rcases a9 with e | e;exact Or.inl e;exact Or.inr (by rw[e];simp));obtain⟨e0,e1,e2,e3,e4,e5,e6⟩:=cL t.1;obtain⟨z4,z5,z6,aq⟩:=jj t.1;have HM:=ae (An t (An g9 a9));clear t g9 a9 o9;refine fG ?_ (w9.setCell ⟨b,5,none⟩ (.slice O (D.length+1) Q)) ?_ ?_;rotate_left
        ·go_region_law (refine dq rfl _ _ _ rfl _ _ (.slice O (D.length+1) Q) w9 (by simp[Act.eval]) (by simp[Act.eval]) ap ?_)
         all_goals exact cF
        go_wp2;go_ret;rw[HL.o,aE.o.2];refine⟨rfl,mj U.o ((((x.o.2.1.trans (R.o.2.1.mono (fun _ _ h=>h.elim))).alloc _).drew.grown HM.o.2.1 (fun q e _=>G.o.2.2 q (Or.inr (Or.inl e)))).setCell (fun _=>G.o.2.1) _) HF.o HM.o.1.2 (A6 G.o.1 be.o bL.o) (by omega) (by rw[List.length_append,List.length_singleton];omega) (by omega) G.o.2.1 x.o.2.2.2.2.1 (fun q e=> ?_) (fun q e=>Or.inl (G.o.2.2 q (Or.inr (Or.inr e))))⟩;rcases HM.o.2.2 with h | h
        ·exact Or.inl (G.o.2.2 q (Or.inr (Or.inl (h.symm.trans e))))
        ·right
         rw[h]at e;injection e with e
         have cb:=x.o.2.1.size;have cd:=R.o.2.1.size;subst e;show _≤(wr.alloc _).heap.size
         simp;omega
end
end Go.Proofs.YtocligpfmfmihaaGreatDoor
