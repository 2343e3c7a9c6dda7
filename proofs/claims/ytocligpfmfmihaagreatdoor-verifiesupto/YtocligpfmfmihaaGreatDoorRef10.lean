import Derived.Test.YtocligpfmfmihaaGreatDoorRef9G
import Derived.Test.YtocligpfmfmihaaGreatDoorRef5
set_option maxHeartbeats 4000000
set_option maxRecDepth 20000
namespace Go.Proofs.YtocligpfmfmihaaGreatDoor
open Go.Proofs.Tryz
section
open Go Go.RowKit Go.Maps
variable{W w w':World}{rb k:Nat}{s:ByteArray}{bad:Bool}
def lO(l:Bs):Option (Bs×Bs):=match l with | []=>none | c :: t=>if c=34 then br true t else none
theorem CF(h:Rs W w rb s k false):Calls prog 126 #[.pointer (some ⟨rb,0,none⟩)] w fun e w'=>TxR W w rb s (lO (ah s k)) e w':=by
 by_cases a:∃t,ah s k=34 :: t
 ·obtain⟨t,a⟩:=a
  rw[a];exact uQ h t a
 ·refine (qr h (fun _ r e=>a ⟨r,e⟩)).mono ?_
  rintro e w1 ⟨rfl,b,d⟩;refine sF ?_ b d;unfold lO
  cases hr:ah s k with
  |nil=>rfl
  |cons c t=>
   rw[hr]at a;have:c≠34:=by rintro rfl;exact a ⟨t,rfl⟩
   simp[this]
theorem zG(pv:Bs→Option (J×Bs))(a:List (Bs×J))(l:Bs):bq true pv a l=match lO (sk l) with
  |none=>none
  |some (k,r)=>if (ai k a).isSome then none else match sk r with | []=>none | c :: q=>if c=58 then (pv q).map fun x=>(a ++[(k,x.1)],x.2) else none:=by
 unfold bq lO
 cases sk l with
 |nil=>rfl
 |cons c t=>
  by_cases h:c=34
  ·simp only[if_pos h]
   cases br true t <;> rfl
  ·simp only[if_neg h]
theorem xn(key:Bs)(x:List (Bs×J×Nat)):(ai key (x.map fun p=>(p.1,p.2.1))).isSome=(ai key (x.map fun p=>(p.1,p.2.2))).isSome:=by
 induction x with
 |nil=>rfl
 |cons p x ih=>
  simp only[List.map_cons,ai];by_cases h:p.1=key
  ·simp[h]
  ·simp only[if_neg h];exact ih
def VbC(W:World):Prop:=∀(rb:Nat) (s:ByteArray) (k:Nat) (w:World) (D:Nat),D≤6→Rs W w rb s k true →
 Calls prog 69 #[.pointer (some ⟨rb,0,none⟩),.int .i64 (D:Int)] w fun e w'=>TrR W w rb s none e w'
structure ObI(lo vb:Nat)(x:List (Bs×J×Nat))(K L:Value)(G:Nat→Prop)(w:World):Prop where
 blk:w.heap[vb]? =some (ar 123 0 [] K L)
 rowK:w.ownsRow lo 9 1 K x.length (x.map fun p=>.string ⟨p.1.toArray⟩)
 rowL:w.ownsRow lo 66 1 L x.length (x.map fun p=>ptr p.2.2)
 trs:∀a j c,(a,j,c) ∈ x→RR w G j c
 nod:Nod (x.map fun p=>(p.1,p.2.1))
 old:∀k,G k→lo≤k∧k < w.heap.size∧k≠vb
 ownK:∀k,K.ownBlock=some k→¬G k∧k≠vb
 ownL:∀k,L.ownBlock=some k→¬G k∧k≠vb
 kl:∀k,K.ownBlock=some k→L.ownBlock≠some k
theorem ObI.kp{lo vb:Nat}{x:List (Bs×J×Nat)}{K L:Value}{G:Nat→Prop}(h:ObI lo vb x K L G w){S:Nat→Prop}(hk:Kp S w w')(hS:∀k,lo≤k→k < w.heap.size→¬S k)(hlo:lo≤vb):ObI lo vb x K L G w':=
 ⟨(hk.block vb (ag h.blk) (hS vb hlo (ag h.blk))).trans h.blk,an h.rowK hk (fun k e=>by have:=h.rowK.lt k e;exact hS k this.1 this.2),an h.rowL hk (fun k e=>by have:=h.rowL.lt k e;exact hS k this.1 this.2),
  fun a j c hm=>(h.trs a j c hm).frame (fun k hG=>hk.block k (h.old k hG).2.1 (hS k (h.old k hG).1 (h.old k hG).2.1)) (fun _ h=>h),h.nod,
  fun k hG=>⟨(h.old k hG).1,Nat.lt_of_lt_of_le (h.old k hG).2.1 hk.size,(h.old k hG).2.2⟩,h.ownK,h.ownL,h.kl⟩
theorem ObI.tree{lo vb:Nat}{x:List (Bs×J×Nat)}{K L:Value}{G:Nat→Prop}(h:ObI lo vb x K L G w)(hlo:lo≤vb):RR w (fun c=>lo≤c∧c < w.heap.size) (.obj (ofL (x.map fun p=>(p.1,p.2.1)))) vb:=
 .obj x K L ⟨hlo,ag h.blk⟩ h.blk (dN h.rowK) (dN h.rowL) (fun k hk=>h.rowK.lt k hk) (fun k hk=>h.rowL.lt k hk) h.nod (fun a j c hm=>(h.trs a j c hm).frame (fun _ _=>rfl) (fun k hk=>⟨(h.old k hk).1,(h.old k hk).2.1⟩))
structure ObK(lo vb:Nat)(x:List (Bs×J×Nat))(v:Bs)(K L:Value)(G:Nat→Prop)(w:World):Prop where
 blk:w.heap[vb]? =some (ar 123 0 [] K L)
 rowK:w.ownsRow lo 9 1 K (x.length+1) ((x.map fun p=>.string ⟨p.1.toArray⟩) ++[.string ⟨v.toArray⟩])
 rowL:w.ownsRow lo 66 1 L x.length (x.map fun p=>ptr p.2.2)
 trs:∀a j c,(a,j,c) ∈ x→RR w G j c
 old:∀k,G k→lo≤k∧k < w.heap.size∧k≠vb
 ownK:∀k,K.ownBlock=some k→¬G k∧k≠vb
 ownL:∀k,L.ownBlock=some k→¬G k∧k≠vb
 kl:∀k,K.ownBlock=some k→L.ownBlock≠some k
theorem ObI.key{lo vb:Nat}{x:List (Bs×J×Nat)}{v:Bs}{K L K':Value}{G:Nat→Prop}{w5 w6:World}(h:ObI lo vb x K L G w5)(B:Kp (fun k=>K.ownBlock=some k) w5 w6)
  (y1:w6.ownsRow lo 9 1 K' (x.length+1) ((x.map fun p=>.string ⟨p.1.toArray⟩) ++[.string ⟨v.toArray⟩])) (m:K'.ownBlock=K.ownBlock∨∃q,w5.heap.size≤q∧K'.ownBlock=some q) :
  ObK lo vb x v K' L G (w6.setCell ⟨vb,3,none⟩ K'):=by
 have g:=ag h.blk
 have d:∀k,K'.ownBlock=some k→(¬G k∧k≠vb)∧L.ownBlock≠some k:=by
  intro k b;rcases m with e | ⟨q,n,e⟩
  ·rw[e]at b
   exact⟨h.ownK k b,h.kl k b⟩
  ·rw[e]at b
   injection b with b
   refine⟨⟨fun hg=>by have:=h.old k hg;omega,by omega⟩,fun hl=>by have:=(h.rowL.lt k hl).2;omega⟩
 have i:w6.heap[vb]? =some (ar 123 0 [] K L):=(B.block vb g (fun e=>(h.ownK _ e).2 rfl)).trans h.blk;refine⟨?_, ?_, ?_, ?_, ?_,fun k b=>(d k b).1,h.ownL,fun k b=>(d k b).2⟩
 ·simp[World.setCell,Array.getElem?_modify,i,ar]
 ·exact ap y1 fun k b=>af (d k b).1.2
 ·refine ap h.rowL fun k b=> ?_
  rw[af (h.ownL k b).2,B.block k (h.rowL.lt k b).2 (fun e=>h.kl k e b)]
 ·intro a j c l
  refine (h.trs a j c l).frame (fun k f=> ?_) (fun _ f=>f);rw[af (h.old k f).2.2,B.block k (h.old k f).2.1 (fun e=>(h.ownK k e).1 f)]
 ·intro k f
  have q:=h.old k f;have:=B.size;exact⟨q.1,by simp[World.setCell];omega,q.2.2⟩
theorem ObK.more{lo vb b:Nat}{x:List (Bs×J×Nat)}{v:Bs}{K L K' L':Value}{G:Nat→Prop}{wv w5 w6 w7 w8:World}{j:J}(h:ObK lo vb x v K' L G w7)(A4:ObI lo vb x K L G wv)
  (ht:RR w5 (fun c=>wv.heap.size≤c∧c < w5.heap.size) j b) (hnl:ai v (x.map fun p=>(p.1,p.2.1))=none) (hf:∀k,wv.heap.size≤k→k < w5.heap.size→w7.heap[k]? =w5.heap[k]?) (hs5:wv.heap.size≤w5.heap.size) (hg:w5.heap.size < w6.heap.size) (hs7:w7.heap.size=w6.heap.size)
  (B:Kp (fun k=>L.ownBlock=some k) w7 w8) (h8:w8.heap[vb]? =some (ar 123 0 [] K' L))
  (y1:w8.ownsRow lo 66 1 L' (x.length+1) ((x.map fun p=>ptr p.2.2) ++[ptr b])) (m:L'.ownBlock=L.ownBlock∨∃q,w6.heap.size≤q∧L'.ownBlock=some q) (_hlo:lo≤vb)
  (hKn:∀k,K'.ownBlock=some k→¬(wv.heap.size≤k∧k < w5.heap.size)) :
  ObI lo vb (x ++[(v,j,b)]) K' L' (fun k=>G k∨(wv.heap.size≤k∧k < w5.heap.size)) (w8.setCell ⟨vb,4,none⟩ L'):=by
 have l:=ag A4.blk
 have f:∀k,L'.ownBlock=some k→(¬(G k∨(wv.heap.size≤k∧k < w5.heap.size))∧k≠vb)∧K'.ownBlock≠some k:=by
  intro k d;rcases m with e | ⟨q,n,e⟩
  ·rw[e]at d
   have:=(A4.rowL.lt k d).2;exact⟨⟨by rintro (q | q);exact (h.ownL k d).1 q;omega,(h.ownL k d).2⟩,fun e=>h.kl k e d⟩
  ·rw[e]at d
   injection d with d
   refine⟨⟨?_,by omega⟩,fun e=>by have:=(h.rowK.lt k e).2;omega⟩;rintro (q | q)
   ·have:=(h.old k q).2.1;omega
   ·omega
 refine⟨?_, ?_, ?_, ?_, ?_, ?_, ?_,fun k d=>(f k d).1,fun k d e=>(f k e).2 d⟩
 ·simp[World.setCell,Array.getElem?_modify,h8,ar]
 ·rw[List.length_append,List.map_append]
  refine ap h.rowK fun k d=> ?_
  rw[af (h.ownK k d).2,B.block k (h.rowK.lt k d).2 (fun e=>h.kl k d e)]
 ·rw[List.length_append,List.map_append]
  exact ap y1 fun k d=>af (f k d).1.2
 ·intro a i c g
  rcases List.mem_append.1 g with g | g
  ·refine (h.trs a i c g).frame (fun k hG=> ?_) (fun k hG=>Or.inl hG)
   rw[af (h.old k hG).2.2,B.block k (h.old k hG).2.1 (fun e=>(h.ownL k e).1 hG)]
  ·obtain⟨rfl,rfl,rfl⟩:a=v∧i=j∧c=b:=by simpa using g
   refine ht.frame (fun k hG=> ?_) (fun k hG=>Or.inr hG);rw[af (by show k≠vb;omega),B.block k (by omega) (fun e=>by have:=(A4.rowL.lt k e).2;omega),hf k hG.1 hG.2]
 ·rw[List.map_append]
  exact (eV _ v j).2 ⟨A4.nod,hnl⟩
 ·have:=B.size
  have o:(w8.setCell ⟨vb,4,none⟩ L').heap.size=w8.heap.size:=by simp[World.setCell]
  rintro k (hG | hG)
  ·have q:=h.old k hG
   exact⟨q.1,by omega,q.2.2⟩
  ·have:=(A4.rowL).1
   exact⟨by omega,by omega,by omega⟩
 ·intro k d
  refine⟨?_,(h.ownK k d).2⟩;rintro (q | q)
  ·exact (h.ownK k d).1 q
  ·exact hKn k d q
theorem sd(h:Rs W w rb s k bad)(D:Int)(j:bad=true∨6 < D):
  Calls prog 128 #[.pointer (some ⟨rb,0,none⟩),.int .i64 D] w fun e w'=>TrR W w rb s none e w':=by
 have r:∀o,Rs W (w.alloc o) rb s k bad:=fun o=>h.keep (S:=fun _=>False) ((Kp.refl _ _).alloc _) (by simp) (by simp)
 go_enter func128,ntmps128;go_wp2_with fail
 refine (dn (r _) ⟨#[123]⟩ (by decide)).mono ?_;rintro e w1 ⟨rfl,b,I,a,t,_,q⟩
 have l:a=true∨6 < D:=by
  rcases q with⟨f,x,_⟩ | ⟨f,_⟩
  ·rcases j with e | e
   ·rw[f]at e;cases e
   ·exact Or.inr e
  ·exact Or.inl f
 clear q j;replace b:=((Kp.refl (· =rb) w).alloc _).trans b;go_wp2_with fail
 refine (aV t).mono ?_;rintro e w2 ⟨rfl,c,J,n,_⟩;replace c:=b.trans c;have g:=n.turn true (fun e=>by cases e);have m:Kp (· =rb) w (w2.setCell ⟨rb,2,none⟩ (.bool true)):=Kp.setCell (p:=⟨rb,2,none⟩) c (fun _=>rfl) _;obtain⟨y,z,A,f1,f2,H⟩:=n.facts;obtain⟨B,C,E,F,G,u⟩:=g.facts
 cases a with
 |true=>
  go_wp2_with fail
  refine (em g ⟨#[125]⟩).mono ?_;rintro e v ⟨rfl,d,i⟩;go_wp2;go_ret;exact bI rfl (m.trans d) i
 |false=>
  have j:6 < D:=l.resolve_left (by simp);go_wp2_with fail
  refine (em g ⟨#[125]⟩).mono ?_;rintro e v ⟨rfl,d,i⟩;go_wp2;go_ret;exact bI rfl (m.trans d) i
theorem DH(D:Nat)(hD:D≤6)(hv:VlC W D)(E:VbC W)(h:Rs W w rb s k false)(t:Bs)(hl:ah s k=123 :: t):
  Calls prog 128 #[.pointer (some ⟨rb,0,none⟩),.int .i64 (D:Int)] w fun e w'=>
   TrR W w rb s ((bD (bq true (az true (6 - D))) 125 [] t).map fun x=>(.obj (ofL x.1),x.2)) e w':=by
 have bf:=h.sz;have be:=(h.facts).2.2.2.2.2;have ba:=h.old.size;obtain⟨i0,J,aY,aZ,a0⟩:=info_parts jI;obtain⟨i1,hj,aU,aW,aX⟩:=info_parts ew;have a6:Hid (VbC W):=E;clear E;have bd:decide (6 < (D:Int))=false:=by simp;omega
 have h0:∀o,Rs W (w.alloc o) rb s k false:=fun o=>h.keep (S:=fun _=>False) ((Kp.refl _ _).alloc _) (by simp) (by simp)
 have HL:=ae hl;clear hl;go_enter func128,ntmps128;go_wp2_with fail
 have I0:=heap_alloc_new w (ar 123 0 [] (.slice none 0 0) (.slice none 0 0));refine (fN (h0 _) ⟨#[123]⟩ (by decide) t HL.o).mono ?_;rintro e w1 ⟨rfl,K1,k1,h1,r1⟩;have I1:w1.heap[w.heap.size]? =some (ar 123 0 [] (.slice none 0 0) (.slice none 0 0)):=(K1.block _ (by simp) (by omega)).trans I0;replace K1:=((Kp.refl (· =rb) w).alloc _).trans K1;have R1:=ae r1;clear r1 I0 h0 HL;go_wp2_with fail
 refine (aV h1).mono ?_;rintro e w2 ⟨rfl,K2,k2,h2,r2⟩;have I2:w2.heap[w.heap.size]? =some (ar 123 0 [] (.slice none 0 0) (.slice none 0 0)):=(K2.block _ (ag I1) (by omega)).trans I1;replace K2:=K1.trans K2;have R2:Hid (ah s k2=sk t):=by rw[R1.o]at r2;exact r2
 clear r2 I1 K1 h1 R1;have h3:=h2.turn false (fun e=>h2.good rfl);have K3:Kp (· =rb) w (w2.setCell ⟨rb,2,none⟩ (.bool false)):=Kp.setCell (p:=⟨rb,2,none⟩) K2 (fun _=>rfl) _;have I3:(w2.setCell ⟨rb,2,none⟩ (.bool false)).heap[w.heap.size]? =some (ar 123 0 [] (.slice none 0 0) (.slice none 0 0)):=(af (by show w.heap.size≠rb;omega)).trans I2;obtain⟨c0,c1,c2,f1,f2,hb⟩:=h2.facts;obtain⟨d0,d1,d2,g1,g2,a7⟩:=h3.facts;go_wp2_with fail
 refine (dP h3).mono ?_;rintro e w4 ⟨rfl,m,rfl⟩;rw[R2.o]
 have A3:ObI w.heap.size w.heap.size [] (.slice none 0 0) (.slice none 0 0) (fun _=>False) ((w2.setCell ⟨rb,2,none⟩ (.bool false)).drewN m):=
  ⟨I3,World.ownsRow_nil _ _ _ _,World.ownsRow_nil _ _ _ _,fun _ _ _ h=>(by cases h),List.nodup_nil,fun _ h=>False.elim h,fun k M=>(by simp[Value.ownBlock]at M),fun k M=>(by simp[Value.ownBlock]at M),fun k M=>(by simp[Value.ownBlock]at M)⟩
 have B:w.heap.size≤w.heap.size:=Nat.le_refl _;by_cases U:nxt (sk t)=125
 ·obtain⟨q,hq⟩:=eI U (by decide)
  rw[U];have HQ:=ae hq;clear U hq c0 c1 c2 f1 f2 hb;go_wp2_with fail
  refine (fN (h3.drewN m) ⟨#[125]⟩ (by decide) q (by rw[R2.o];exact HQ.o)).mono ?_;rintro e F ⟨rfl,K5,k5,h5,r5⟩;have X:=A3.kp K5 (fun k _ _=>by omega) B;have R5:=ae r5;clear r5;go_wp2;go_ret;refine gD (r:=q) ?_ ((K3.drewN m).trans K5) h5 R5.o (X.tree B);rw[bD,if_pos (by rw[HQ.o];rfl),HQ.o];rfl
 ·have ax:=u8n U
  simp only[UInt8.reduceToNat,Int.cast_ofNat_Int]at ax;have aj:=ns (u:=true) (pv:=az true (6 - D)) (iv (6 - D))
  have hT:bD (bq true (az true (6 - D))) 125 [] t=match bq true (az true (6 - D)) [] (sk t) with | some (b,r)=>bc (bq true (az true (6 - D))) 125 ((sk t).length+1) b r | none=>none:=by
   have a8:=ux true (az true (6 - D)) [] t;rw[bD,if_neg,←a8]
   ·cases hp:bq true (az true (6 - D)) [] (sk t) with
    |none=>rfl
    |some z=>
     obtain⟨b,r⟩:=z;have:=aj _ _ _ _ hp;exact oG aj _ _ _ _ (by omega) (by omega)
   ·intro e
    apply U
    cases hs:sk t with
    |nil=>rw[hs]at e;cases e
    |cons a l=>rw[hs]at e;simp at e;rw[e];rfl
  generalize hTT:bD (bq true (az true (6 - D))) 125 [] t=T at *;have HT:=ae (An hT hTT);have bb:=ae aj;clear aj;have aT:=eZ s k2;rw[R2.o]at aT;clear hT hTT U c0 c1 c2 f1 f2 hb;have h4:=h3.drewN m;have K4:=K3.drewN m;clear h3 K3 I3 I2 d0 d1 d2 g1 g2 a7 h2 K2;go_wp2_with fail
  generalize (w2.setCell ⟨rb,2,none⟩ (.bool false)).drewN m=w4 at *
  go_loopg [] ((ah s k2).length+1) (fun g wr=>∃k' R,g=(if R then 0 else (ah s k').length+1)∧Rs W wr rb s k' R∧Kp (· =rb) w wr∧(R=true→T=none) ∧
    (R=false→∃x K L G n,ObI w.heap.size w.heap.size x K L G wr∧x.length+(ah s k').length≤600∧(ah s k').length < n∧T=match bq true (az true (6 - D)) (x.map fun p=>(p.1,p.2.1)) (ah s k') with | some (b,r)=>bc (bq true (az true (6 - D))) 125 n b r | none=>none))
  case atStart=>exact⟨k2,false,rfl,h4,K4,fun e=>(by cases e),fun _=>⟨[],_,_,_,(sk t).length+1,A3,by rw[R2.o];simp;omega,by rw[R2.o];omega,by rw[R2.o];exact HT.o.1⟩⟩
  case round=>
   clear h4 K4 A3 ax;obtain⟨k',R,hg,h1,K1,p1,p2⟩:=hrel;obtain⟨c0,c1,c2,f1,f2,hb⟩:=h1.facts
   cases R with
   |true=>
    have P:=ae (p1 rfl);clear p1 p2;go_wp2_with fail
    refine (em h1 ⟨#[125]⟩).mono ?_;rintro e F ⟨rfl,K5,h5⟩;go_wp2;go_ret;exact bI (by rw[HT.o.2,P.o];rfl) (K1.trans K5) h5
   |false=>
    obtain⟨x,K,L,G,n,A1,hx,hn,hC⟩:=p2 rfl;rw[zG]at hC;have C:=ae (An hg hC);clear p1 p2 hg hC;go_wp2_with fail
    refine (aV h1).mono ?_;rintro e w2 ⟨rfl,K2,kb,h2,a2⟩;have A2:=A1.kp K2 (fun k _ _=>by omega) B;replace K2:=K1.trans K2;clear A1 K1 h1 c0 c1 c2 f1 f2 hb;have aB:=ae a2;clear a2;go_wp2_with fail
    refine (CF h2).mono ?_;rintro e w3 ⟨v,rfl,bg,K3,kt,a9,h3,ht⟩;have A3:=A2.kp K3 (fun k _ _=>by omega) B;replace K3:=K2.trans K3;have ay:=ae ht;clear ht A2 K2 h2;go_wp2_with fail
    refine (aV h3).mono ?_;rintro e bh ⟨rfl,al,kc,aR,a3⟩;have aP:=A3.kp al (fun k _ _=>by omega) B;replace al:=K3.trans al;have aQ:=ae a3;clear a3 A3 K3 h3;go_wp2_with fail
    refine (dn aR ⟨#[58]⟩ (by decide)).mono ?_;rintro e w4 ⟨rfl,K4,kd,an,h4,_,aD⟩;have V:=aP.kp K4 (fun k _ _=>by omega) B;replace K4:=al.trans K4;clear aP al aR
    have a4:an=true→T=none:=by
     intro e;rcases aD with⟨_,b2,_⟩ | ⟨_,_,f⟩
     ·rw[e]at b2;cases b2
     ·rw[C.o.2,←aB.o]
      cases hp:lO (ah s kb) with
      |none=>rfl
      |some z=>
       obtain⟨key,r⟩:=z;have q:=ay.o;rw[hp]at q;obtain⟨q1,q2,q3⟩:=q;rcases f with f | f
       ·rw[q1]at f;cases f
       ·rw[aQ.o,q3]at f
        simp only;split
        ·rename_i heq
         split at heq
         ·cases heq
         ·split at heq
          ·cases heq
          ·rename_i hs
           split at heq
           ·rename_i hc
            subst hc;exact absurd hs (f _)
           ·cases heq
        ·rfl
    have a5:an=false→∃r q,lO (sk (ah s k'))=some (v,r)∧sk r=58 :: q∧ah s kd=q∧q.length < (ah s k').length:=by
     intro e;rcases aD with⟨b1,_,q,p1,p2⟩ | ⟨f,_⟩
     ·cases hp:lO (ah s kb) with
      |none=>
       have q:=ay.o;rw[hp,b1]at q;cases q
      |some z=>
       obtain⟨key,r⟩:=z;have qq:=ay.o;rw[hp]at qq;obtain⟨q1,rfl,q3⟩:=qq;have hq:sk r=58 :: q:=by rw[←q3,←aQ.o];exact p1
       refine⟨r,q,by rw[←aB.o];exact hp,hq,p2, ?_⟩;have l1:=cN r;rw[hq]at l1
       have l2:r.length < (ah s kb).length:=by
        unfold lO at hp
        cases hr:ah s kb with
        |nil=>rw[hr]at hp;cases hp
        |cons c tt=>
         rw[hr]at hp;simp only at hp;split at hp
         ·have:=kL tt.length (Nat.le_refl _) hp
          simp only[List.length_cons];omega
         ·cases hp
       have l3:=cN (ah s k');rw[←aB.o]at l3;simp only[List.length_cons]at l1;omega
     ·rw[e]at f;cases f
    have T4:=ae (An a4 a5);clear a4 a5 aD;obtain⟨c0,c1,c2,f1,f2,hb⟩:=h4.facts
    cases an with
    |true=>
     go_wp2;go_ret;exact bI (by rw[HT.o.2,T4.o.1 (by simp)];rfl) K4 h4
    |false=>
     have aS:=vf (m:=x.map fun p=>(p.1,p.2.2)) V.blk (by simpa[List.map_map,Function.comp_def] using V.rowK) (by simpa[List.map_map,Function.comp_def] using V.rowL) (by simp;omega) v;have HG:=ae aS;clear aS;go_wp2_with fail
     refine HG.o.mono ?_;rintro e wq ⟨rfl,rfl⟩;clear HG;have two:=xn v x
     cases hlk:ai v (x.map fun p=>(p.1,p.2.2)) with
     |none=>
      rw[hlk]at two;simp only[Option.isSome_none,Option.isSome_eq_false_iff,Option.isNone_iff_eq_none]at two;have TW:=ae two;clear two hlk;simp only[Option.map_none];have ao:=h4.turn false (fun _=>h4.good rfl);have ak:=V.kp (Kp.setCell (p:=⟨rb,2,none⟩) (Kp.refl (· =rb) wq) (fun _=>rfl) (.bool false)) (fun k _ _=>by omega) B;have am:Kp (· =rb) w (wq.setCell ⟨rb,2,none⟩ (.bool false)):=Kp.setCell (p:=⟨rb,2,none⟩) K4 (fun _=>rfl) _;go_wp2_with fail
      refine (hv rb s kd _ ao).mono ?_;rintro e F ⟨b,rfl,K5,k5,A,h5,ho⟩
      have TS:Hid ((A=true→T=none)∧(A=false→∃j r,ah s k5=sk r∧RR F (fun c=>(wq.setCell ⟨rb,2,none⟩ (.bool false)).heap.size≤c∧c < F.heap.size) j b∧r.length≤(ah s k').length∧ai v (x.map fun p=>(p.1,p.2.1))=none∧T=bc (bq true (az true (6 - D))) 125 n ((x.map fun p=>(p.1,p.2.1)) ++[(v,j)]) r)):=by
       obtain⟨r,q,q1,q2,q3,q4⟩:=T4.o.2 (by simp);have hC:=C.o.2;rw[q1]at hC;simp only[q2,TW.o,Option.isSome_none,if_true,Bool.false_eq_true,if_false]at hC;rw[q3]at ho;constructor
       ·intro e
        cases hp:az true (6 - D) q with
        |none=>rw[hC,hp];rfl
        |some z=>rw[hp,e]at ho;cases ho.1
       ·intro e
        cases hp:az true (6 - D) q with
        |none=>rw[hp,e]at ho;cases ho
        |some z=>
         obtain⟨j,r'⟩:=z;rw[hp]at ho;have:=iv _ _ _ _ hp;refine⟨j,r',ho.2.1,ho.2.2,by omega,TW.o, ?_⟩;rw[hC,hp];rfl
      clear ho T4 c0 c1 c2 f1 f2 hb;generalize hwv:wq.setCell ⟨rb,2,none⟩ (.bool false)=wv at *;clear hwv V K4 h4;have V:=ak;have K4:=am;clear ak am ao;obtain⟨c0,c1,c2,f1,f2,hb⟩:=h5.facts;have X:=V.kp K5 (fun k _ _=>by omega) B;have au:=K5.size;obtain⟨v0,v1,v2,v3,v4,z0,z1,z2,z3,z4,E⟩:=aw X.blk;go_wp2_with (at_builtin;refine wpList_append_own_at _ rfl _ _ 36 rfl w.heap.size 9 i1 (.string ⟨#[]⟩) 1 16 underlying36 hj aU aW aX rfl (by decide) _ _ _ rfl (X.rowK.alloc _) ⟨F.heap.size,0,none⟩ 1 1 [.string ⟨v.toArray⟩] rfl rfl ?c1 ?c2 ?c3 ?c4 ?c5 ?_)
      case c1=>exact cell_one_new _ _ _
      case c2=>intro u hu;simp at hu;subst hu;rfl
      case c3=>unfold maxLen;omega
      case c4=>omega
      case c5=>simp;omega
      intro v' N y1 y2 _ y3;obtain⟨g',d,rfl⟩:=aK y1;have B6:Kp (fun k=>K.ownBlock=some k) F N:=((Kp.refl _ _).alloc _).grown y2 (fun k M _=>M);have aC:F.heap.size < N.heap.size:=by have:=y2.size;simp at this;omega
      have I:=ez y3;have A7:=X.key B6 y1 I
      have ap:∀k,(Value.slice (some ⟨g',0,none⟩) (x.length+1) d).ownBlock=some k→¬(wv.heap.size≤k∧k < F.heap.size):=by
       intro k M;rcases I with e | ⟨q,hq,e⟩
       ·rw[e]at M
        have:=(V.rowK.lt k M).2;omega
       ·rw[e]at M
        injection M with M
        omega
      have KN:=ae ap;clear ap;have S6:Rs W N rb s k5 A:=h5.keep B6 (fun i J=>by have:=(X.rowK.lt i J).1;omega) (fun J=>by have:=(X.rowK.lt rb J).1;omega)
      have S7:Rs W (N.setCell ⟨w.heap.size,3,none⟩ (.slice (some ⟨g',0,none⟩) (x.length+1) d)) rb s k5 A:=
       S6.keep (S:=fun k=>k=w.heap.size) (Kp.setCell (p:=⟨w.heap.size,3,none⟩) (Kp.refl (fun k=>k=w.heap.size) N) (fun _=>rfl) _) (fun i J=>by omega) (by omega)
      have K7:Kp (· =rb) w (N.setCell ⟨w.heap.size,3,none⟩ (.slice (some ⟨g',0,none⟩) (x.length+1) d)):=
       Kp.setCell (p:=⟨w.heap.size,3,none⟩) ((K4.trans K5).and B6 (fun i J e=>by have:=(X.rowK.lt i e).1;omega)) (fun hlt=>by exact absurd hlt (by show ¬w.heap.size < _;omega)) _
      have F7:∀k,wv.heap.size≤k→k < F.heap.size→(N.setCell ⟨w.heap.size,3,none⟩ (.slice (some ⟨g',0,none⟩) (x.length+1) d)).heap[k]? =F.heap[k]? :=by
       intro k q1 q2;rw[af (by show k≠w.heap.size;have:=ag V.blk;omega),B6.block k q2 (fun e=>by have:=(V.rowK.lt k e).2;omega)]
      have ab:(N.setCell ⟨w.heap.size,3,none⟩ (.slice (some ⟨g',0,none⟩) (x.length+1) d)).heap.size=N.heap.size:=by simp[World.setCell]
      have i6:N.heap[w.heap.size]? =some (ar 123 0 [] K L):=(B6.block _ E (fun e=>(X.ownK _ e).2 rfl)).trans X.blk;clear v0 v1 v2 v3 v4 z0 z1 z2 z3 z4 E c0 c1 c2 f1 f2 hb I y1 y2 y3 B6 S6;obtain⟨v0,v1,v2,v3,v4,z0,z1,z2,z3,z4,E⟩:=aw i6;clear i6;have W7:=ae (An F7 ab);clear F7;obtain⟨aE,aF,aG,aH,aI,aJ,aL,aM,aN,aO,ac⟩:=aw A7.blk;go_wp2_with (at_builtin;refine wpList_append_own_at _ rfl _ _ 78 rfl w.heap.size 66 i0 (.pointer none) 1 8 underlying78 J aY aZ a0 rfl (by decide) _ _ _ rfl (A7.rowL.alloc _) ⟨N.heap.size,0,none⟩ 1 1 [ptr b] rfl rfl ?d1 ?d2 ?d3 ?d4 ?d5 ?_)
      case d1=>rw[←ab];exact cell_one_new _ _ _
      case d2=>intro u hu;simp at hu;subst hu;rfl
      case d3=>unfold maxLen;omega
      case d4=>omega
      case d5=>simp;omega
      intro v' w8 y1 y2 _ y3;obtain⟨g2,y,rfl⟩:=aK y1;have B8:Kp (fun k=>L.ownBlock=some k) (N.setCell ⟨w.heap.size,3,none⟩ (.slice (some ⟨g',0,none⟩) (x.length+1) d)) w8:=((Kp.refl _ _).alloc _).grown y2 (fun k M _=>M);have I:=ez y3;have i8:w8.heap[w.heap.size]? =some (ar 123 0 [] (.slice (some ⟨g',0,none⟩) (x.length+1) d) L):=(B8.block _ ac (fun e=>(A7.ownL _ e).2 rfl)).trans A7.blk
      have more:∀j,RR F (fun c=>wv.heap.size≤c∧c < F.heap.size) j b→ai v (x.map fun p=>(p.1,p.2.1))=none→ObI w.heap.size w.heap.size (x ++[(v,j,b)]) (.slice (some ⟨g',0,none⟩) (x.length+1) d) (.slice (some ⟨g2,0,none⟩) (x.length+1) y) (fun k=>G k∨(wv.heap.size≤k∧k < F.heap.size)) (w8.setCell ⟨w.heap.size,4,none⟩ (.slice (some ⟨g2,0,none⟩) (x.length+1) y)):=
       fun j ht hnl=>A7.more V ht hnl W7.o.1 au aC ab B8 i8 y1 I B KN.o
      have S9:Rs W (w8.setCell ⟨w.heap.size,4,none⟩ (.slice (some ⟨g2,0,none⟩) (x.length+1) y)) rb s k5 A:=
       (S7.keep B8 (fun i J=>by have:=(A7.rowL.lt i J).1;omega) (fun J=>by have:=(A7.rowL.lt rb J).1;omega)).keep (S:=fun k=>k=w.heap.size) (Kp.setCell (p:=⟨w.heap.size,4,none⟩) (Kp.refl (fun k=>k=w.heap.size) w8) (fun _=>rfl) _) (fun i J=>by omega) (by omega)
      have K9:Kp (· =rb) w (w8.setCell ⟨w.heap.size,4,none⟩ (.slice (some ⟨g2,0,none⟩) (x.length+1) y)):=
       Kp.setCell (p:=⟨w.heap.size,4,none⟩) (K7.and B8 (fun i J e=>by have:=(A7.rowL.lt i e).1;omega)) (fun hlt=>by exact absurd hlt (by show ¬w.heap.size < _;omega)) _
      have Z:=ae (An more TS.o);clear more TS I y1 y2 y3 B8 v0 v1 v2 v3 v4 z0 z1 z2 z3 z4 E aE aF aG aH aI aJ aL aM aN aO ac W7 ab;obtain⟨v0,v1,v2,v3,v4,z0,z1,z2,z3,z4,E⟩:=aw i8;go_wp2_with fail
      clear v0 v1 v2 v3 v4 z0 z1 z2 z3 z4 E i8;refine (dP S9).mono ?_;rintro e wA ⟨rfl,m8,rfl⟩;have SA:=S9.drewN m8;have KA:=K9.drewN m8
      have Q:∀j,RR F (fun c=>wv.heap.size≤c∧c < F.heap.size) j b→ai v (x.map fun p=>(p.1,p.2.1))=none→ObI w.heap.size w.heap.size (x ++[(v,j,b)]) (.slice (some ⟨g',0,none⟩) (x.length+1) d) (.slice (some ⟨g2,0,none⟩) (x.length+1) y) (fun k=>G k∨(wv.heap.size≤k∧k < F.heap.size)) ((w8.setCell ⟨w.heap.size,4,none⟩ (.slice (some ⟨g2,0,none⟩) (x.length+1) y)).drewN m8):=
       fun j ht hnl=>(Z.o.1 j ht hnl).kp ((Kp.refl (fun _=>False) _).drewN m8) (by simp) B
      have Y:=ae (An Q Z.o.2);clear Q Z S9 K9;generalize ((w8.setCell ⟨w.heap.size,4,none⟩ (.slice (some ⟨g2,0,none⟩) (x.length+1) y)).drewN m8)=wA at *;by_cases H:nxt (ah s k5)=44
      ·obtain⟨q,hq⟩:=eI H (by decide)
       rw[H];have HQ:=ae hq;clear H hq;go_wp2_with fail
       refine (dn SA ⟨#[44]⟩ (by decide)).mono ?_;rintro e wB ⟨rfl,KB,k9,O,h9,_,hw⟩;have HW:=ae hw;clear hw;go_wp2
       cases O with
       |true=>
        go_roundg 0
        case measure=>rw[C.o.1];simp
        case rel=>
         refine⟨k9,true,rfl,h9,KA.trans KB,fun _=> ?_,fun e=>(by cases e)⟩;rcases HW.o with⟨_,b2,_⟩ | ⟨_,_,f⟩
         ·cases b2
         ·rcases f with f | f
          ·exact Y.o.2.1 f
          ·exact absurd HQ.o (f q)
       |false=>
        rcases HW.o with⟨b1,_,r',p1,p2⟩ | ⟨f,_⟩
        ·obtain⟨j,r,t1,t2,t3,t4,t5⟩:=Y.o.2.2 b1
         have aa:sk r=44 :: r':=by rw[←t1];exact p1
         have aq:=cN r;rw[aa]at aq;simp only[List.length_cons]at aq;go_roundg ((ah s k9).length+1)
         case measure=>rw[C.o.1,p2];simp;omega
         case rel=>
          refine⟨k9,false,by simp,h9,KA.trans KB,fun e=>(by cases e),fun _=>⟨x ++[(v,j,b)],_,_,_,n - 1,(Y.o.1 j t2 t4).kp KB (fun k _ _=>by omega) B, ?_, ?_, ?_⟩⟩
          ·rw[p2,List.length_append];simp;omega
          ·rw[p2];omega
          ·obtain⟨n',rfl⟩:∃n',n=n'+1:=⟨n - 1,by omega⟩
           rw[t5,p2,bc,aa];simp;cases bq true (az true (6 - D)) ((x.map fun p=>(p.1,p.2.1)) ++[(v,j)]) r' <;> rfl
        ·cases f
      ·have av:=u8n H
       simp only[UInt8.reduceToNat,Int.cast_ofNat_Int]at av;have a1:(((nxt (ah s k5)).toNat:Int) != 44)=true:=by simp only[bne,av];rfl
       have aA:=ae H;clear H;go_wp2_with fail
       refine (dn SA ⟨#[125]⟩ (by decide)).mono ?_;rintro e wB ⟨rfl,KB,k9,O,h9,_,hw⟩;have HW:=ae hw;clear hw;go_wp2;go_ret
       cases O with
       |true=>
        refine bI ?_ (KA.trans KB) h9;rw[HT.o.2];rcases HW.o with⟨_,b2,_⟩ | ⟨_,_,f⟩
        ·cases b2
        ·cases hb5:A with
         |true=>rw[Y.o.2.1 hb5];rfl
         |false=>
          rcases f with f | f
          ·rw[hb5]at f;cases f
          ·obtain⟨j,r,t1,t2,t3,t4,t5⟩:=Y.o.2.2 hb5
           obtain⟨n',rfl⟩:∃n',n=n'+1:=⟨n - 1,by omega⟩;rw[t5,bc];have ad:=aA.o;rw[t1]at ad f
           cases hs:sk r with
           |nil=>rfl
           |cons a l=>
            rw[hs]at ad f;have h1:a≠44:=ad;have h2:a≠125:=by rintro rfl;exact f l rfl
            simp[h1,h2]
       |false=>
        rcases HW.o with⟨b1,_,r',p1,p2⟩ | ⟨f,_⟩
        ·obtain⟨j,r,t1,t2,t3,t4,t5⟩:=Y.o.2.2 b1
         have aa:sk r=125 :: r':=by rw[←t1];exact p1
         obtain⟨n',rfl⟩:∃n',n=n'+1:=⟨n - 1,by omega⟩;have tr:=((Y.o.1 j t2 t4).kp KB (fun k _ _=>by omega) B).tree B;refine gD ?_ (KA.trans KB) h9 p2 tr;rw[HT.o.2,t5,bc,aa];simp
        ·cases f
     |some cc=>
      rw[hlk]at two;simp only[Option.isSome_some]at two;have TW:=ae two;clear two hlk;simp only[Option.map_some];have ao:=h4.turn true (fun e=>by cases e);have ak:=V.kp (Kp.setCell (p:=⟨rb,2,none⟩) (Kp.refl (· =rb) wq) (fun _=>rfl) (.bool true)) (fun k _ _=>by omega) B;have am:Kp (· =rb) w (wq.setCell ⟨rb,2,none⟩ (.bool true)):=Kp.setCell (p:=⟨rb,2,none⟩) K4 (fun _=>rfl) _;go_wp2_with fail
      refine (a6.o rb s kd _ D hD ao).mono ?_;rintro e F ⟨b,rfl,K5,k5,A,h5,ho⟩
      have TS:Hid ((A=true→T=none)∧(A=false→∃j r,ah s k5=sk r∧RR F (fun c=>(wq.setCell ⟨rb,2,none⟩ (.bool true)).heap.size≤c∧c < F.heap.size) j b∧r.length≤(ah s k').length∧ai v (x.map fun p=>(p.1,p.2.1))=none∧T=bc (bq true (az true (6 - D))) 125 n ((x.map fun p=>(p.1,p.2.1)) ++[(v,j)]) r)):=by
       obtain⟨r,q,q1,q2,q3,q4⟩:=T4.o.2 (by simp);have hC:=C.o.2;rw[q1]at hC;simp only[TW.o,if_true]at hC;exact⟨fun _=>hC,fun e=>by rw[e]at ho;cases ho⟩
      clear ho T4 c0 c1 c2 f1 f2 hb;generalize hwv:wq.setCell ⟨rb,2,none⟩ (.bool true)=wv at *;clear hwv V K4 h4;have V:=ak;have K4:=am;clear ak am ao;obtain⟨c0,c1,c2,f1,f2,hb⟩:=h5.facts;have X:=V.kp K5 (fun k _ _=>by omega) B;have au:=K5.size;obtain⟨v0,v1,v2,v3,v4,z0,z1,z2,z3,z4,E⟩:=aw X.blk;go_wp2_with (at_builtin;refine wpList_append_own_at _ rfl _ _ 36 rfl w.heap.size 9 i1 (.string ⟨#[]⟩) 1 16 underlying36 hj aU aW aX rfl (by decide) _ _ _ rfl (X.rowK.alloc _) ⟨F.heap.size,0,none⟩ 1 1 [.string ⟨v.toArray⟩] rfl rfl ?c1 ?c2 ?c3 ?c4 ?c5 ?_)
      case c1=>exact cell_one_new _ _ _
      case c2=>intro u hu;simp at hu;subst hu;rfl
      case c3=>unfold maxLen;omega
      case c4=>omega
      case c5=>simp;omega
      intro v' N y1 y2 _ y3;obtain⟨g',d,rfl⟩:=aK y1;have B6:Kp (fun k=>K.ownBlock=some k) F N:=((Kp.refl _ _).alloc _).grown y2 (fun k M _=>M);have aC:F.heap.size < N.heap.size:=by have:=y2.size;simp at this;omega
      have I:=ez y3;have A7:=X.key B6 y1 I
      have ap:∀k,(Value.slice (some ⟨g',0,none⟩) (x.length+1) d).ownBlock=some k→¬(wv.heap.size≤k∧k < F.heap.size):=by
       intro k M;rcases I with e | ⟨q,hq,e⟩
       ·rw[e]at M
        have:=(V.rowK.lt k M).2;omega
       ·rw[e]at M
        injection M with M
        omega
      have KN:=ae ap;clear ap;have S6:Rs W N rb s k5 A:=h5.keep B6 (fun i J=>by have:=(X.rowK.lt i J).1;omega) (fun J=>by have:=(X.rowK.lt rb J).1;omega)
      have S7:Rs W (N.setCell ⟨w.heap.size,3,none⟩ (.slice (some ⟨g',0,none⟩) (x.length+1) d)) rb s k5 A:=
       S6.keep (S:=fun k=>k=w.heap.size) (Kp.setCell (p:=⟨w.heap.size,3,none⟩) (Kp.refl (fun k=>k=w.heap.size) N) (fun _=>rfl) _) (fun i J=>by omega) (by omega)
      have K7:Kp (· =rb) w (N.setCell ⟨w.heap.size,3,none⟩ (.slice (some ⟨g',0,none⟩) (x.length+1) d)):=
       Kp.setCell (p:=⟨w.heap.size,3,none⟩) ((K4.trans K5).and B6 (fun i J e=>by have:=(X.rowK.lt i e).1;omega)) (fun hlt=>by exact absurd hlt (by show ¬w.heap.size < _;omega)) _
      have F7:∀k,wv.heap.size≤k→k < F.heap.size→(N.setCell ⟨w.heap.size,3,none⟩ (.slice (some ⟨g',0,none⟩) (x.length+1) d)).heap[k]? =F.heap[k]? :=by
       intro k q1 q2;rw[af (by show k≠w.heap.size;have:=ag V.blk;omega),B6.block k q2 (fun e=>by have:=(V.rowK.lt k e).2;omega)]
      have ab:(N.setCell ⟨w.heap.size,3,none⟩ (.slice (some ⟨g',0,none⟩) (x.length+1) d)).heap.size=N.heap.size:=by simp[World.setCell]
      have i6:N.heap[w.heap.size]? =some (ar 123 0 [] K L):=(B6.block _ E (fun e=>(X.ownK _ e).2 rfl)).trans X.blk;clear v0 v1 v2 v3 v4 z0 z1 z2 z3 z4 E c0 c1 c2 f1 f2 hb I y1 y2 y3 B6 S6;obtain⟨v0,v1,v2,v3,v4,z0,z1,z2,z3,z4,E⟩:=aw i6;clear i6;have W7:=ae (An F7 ab);clear F7;obtain⟨aE,aF,aG,aH,aI,aJ,aL,aM,aN,aO,ac⟩:=aw A7.blk;go_wp2_with (at_builtin;refine wpList_append_own_at _ rfl _ _ 78 rfl w.heap.size 66 i0 (.pointer none) 1 8 underlying78 J aY aZ a0 rfl (by decide) _ _ _ rfl (A7.rowL.alloc _) ⟨N.heap.size,0,none⟩ 1 1 [ptr b] rfl rfl ?d1 ?d2 ?d3 ?d4 ?d5 ?_)
      case d1=>rw[←ab];exact cell_one_new _ _ _
      case d2=>intro u hu;simp at hu;subst hu;rfl
      case d3=>unfold maxLen;omega
      case d4=>omega
      case d5=>simp;omega
      intro v' w8 y1 y2 _ y3;obtain⟨g2,y,rfl⟩:=aK y1;have B8:Kp (fun k=>L.ownBlock=some k) (N.setCell ⟨w.heap.size,3,none⟩ (.slice (some ⟨g',0,none⟩) (x.length+1) d)) w8:=((Kp.refl _ _).alloc _).grown y2 (fun k M _=>M);have I:=ez y3;have i8:w8.heap[w.heap.size]? =some (ar 123 0 [] (.slice (some ⟨g',0,none⟩) (x.length+1) d) L):=(B8.block _ ac (fun e=>(A7.ownL _ e).2 rfl)).trans A7.blk
      have more:∀j,RR F (fun c=>wv.heap.size≤c∧c < F.heap.size) j b→ai v (x.map fun p=>(p.1,p.2.1))=none→ObI w.heap.size w.heap.size (x ++[(v,j,b)]) (.slice (some ⟨g',0,none⟩) (x.length+1) d) (.slice (some ⟨g2,0,none⟩) (x.length+1) y) (fun k=>G k∨(wv.heap.size≤k∧k < F.heap.size)) (w8.setCell ⟨w.heap.size,4,none⟩ (.slice (some ⟨g2,0,none⟩) (x.length+1) y)):=
       fun j ht hnl=>A7.more V ht hnl W7.o.1 au aC ab B8 i8 y1 I B KN.o
      have S9:Rs W (w8.setCell ⟨w.heap.size,4,none⟩ (.slice (some ⟨g2,0,none⟩) (x.length+1) y)) rb s k5 A:=
       (S7.keep B8 (fun i J=>by have:=(A7.rowL.lt i J).1;omega) (fun J=>by have:=(A7.rowL.lt rb J).1;omega)).keep (S:=fun k=>k=w.heap.size) (Kp.setCell (p:=⟨w.heap.size,4,none⟩) (Kp.refl (fun k=>k=w.heap.size) w8) (fun _=>rfl) _) (fun i J=>by omega) (by omega)
      have K9:Kp (· =rb) w (w8.setCell ⟨w.heap.size,4,none⟩ (.slice (some ⟨g2,0,none⟩) (x.length+1) y)):=
       Kp.setCell (p:=⟨w.heap.size,4,none⟩) (K7.and B8 (fun i J e=>by have:=(A7.rowL.lt i e).1;omega)) (fun hlt=>by exact absurd hlt (by show ¬w.heap.size < _;omega)) _
      have Z:=ae (An more TS.o);clear more TS I y1 y2 y3 B8 v0 v1 v2 v3 v4 z0 z1 z2 z3 z4 E aE aF aG aH aI aJ aL aM aN aO ac W7 ab;obtain⟨v0,v1,v2,v3,v4,z0,z1,z2,z3,z4,E⟩:=aw i8;go_wp2_with fail
      clear v0 v1 v2 v3 v4 z0 z1 z2 z3 z4 E i8;refine (dP S9).mono ?_;rintro e wA ⟨rfl,m8,rfl⟩;have SA:=S9.drewN m8;have KA:=K9.drewN m8
      have Q:∀j,RR F (fun c=>wv.heap.size≤c∧c < F.heap.size) j b→ai v (x.map fun p=>(p.1,p.2.1))=none→ObI w.heap.size w.heap.size (x ++[(v,j,b)]) (.slice (some ⟨g',0,none⟩) (x.length+1) d) (.slice (some ⟨g2,0,none⟩) (x.length+1) y) (fun k=>G k∨(wv.heap.size≤k∧k < F.heap.size)) ((w8.setCell ⟨w.heap.size,4,none⟩ (.slice (some ⟨g2,0,none⟩) (x.length+1) y)).drewN m8):=
       fun j ht hnl=>(Z.o.1 j ht hnl).kp ((Kp.refl (fun _=>False) _).drewN m8) (by simp) B
      have Y:=ae (An Q Z.o.2);clear Q Z S9 K9;generalize ((w8.setCell ⟨w.heap.size,4,none⟩ (.slice (some ⟨g2,0,none⟩) (x.length+1) y)).drewN m8)=wA at *;by_cases H:nxt (ah s k5)=44
      ·obtain⟨q,hq⟩:=eI H (by decide)
       rw[H];have HQ:=ae hq;clear H hq;go_wp2_with fail
       refine (dn SA ⟨#[44]⟩ (by decide)).mono ?_;rintro e wB ⟨rfl,KB,k9,O,h9,_,hw⟩;have HW:=ae hw;clear hw;go_wp2
       cases O with
       |true=>
        go_roundg 0
        case measure=>rw[C.o.1];simp
        case rel=>
         refine⟨k9,true,rfl,h9,KA.trans KB,fun _=> ?_,fun e=>(by cases e)⟩;rcases HW.o with⟨_,b2,_⟩ | ⟨_,_,f⟩
         ·cases b2
         ·rcases f with f | f
          ·exact Y.o.2.1 f
          ·exact absurd HQ.o (f q)
       |false=>
        rcases HW.o with⟨b1,_,r',p1,p2⟩ | ⟨f,_⟩
        ·obtain⟨j,r,t1,t2,t3,t4,t5⟩:=Y.o.2.2 b1
         have aa:sk r=44 :: r':=by rw[←t1];exact p1
         have aq:=cN r;rw[aa]at aq;simp only[List.length_cons]at aq;go_roundg ((ah s k9).length+1)
         case measure=>rw[C.o.1,p2];simp;omega
         case rel=>
          refine⟨k9,false,by simp,h9,KA.trans KB,fun e=>(by cases e),fun _=>⟨x ++[(v,j,b)],_,_,_,n - 1,(Y.o.1 j t2 t4).kp KB (fun k _ _=>by omega) B, ?_, ?_, ?_⟩⟩
          ·rw[p2,List.length_append];simp;omega
          ·rw[p2];omega
          ·obtain⟨n',rfl⟩:∃n',n=n'+1:=⟨n - 1,by omega⟩
           rw[t5,p2,bc,aa];simp;cases bq true (az true (6 - D)) ((x.map fun p=>(p.1,p.2.1)) ++[(v,j)]) r' <;> rfl
        ·cases f
      ·have av:=u8n H
       simp only[UInt8.reduceToNat,Int.cast_ofNat_Int]at av;have a1:(((nxt (ah s k5)).toNat:Int) != 44)=true:=by simp only[bne,av];rfl
       have aA:=ae H;clear H;go_wp2_with fail
       refine (dn SA ⟨#[125]⟩ (by decide)).mono ?_;rintro e wB ⟨rfl,KB,k9,O,h9,_,hw⟩;have HW:=ae hw;clear hw;go_wp2;go_ret
       cases O with
       |true=>
        refine bI ?_ (KA.trans KB) h9;rw[HT.o.2];rcases HW.o with⟨_,b2,_⟩ | ⟨_,_,f⟩
        ·cases b2
        ·cases hb5:A with
         |true=>rw[Y.o.2.1 hb5];rfl
         |false=>
          rcases f with f | f
          ·rw[hb5]at f;cases f
          ·obtain⟨j,r,t1,t2,t3,t4,t5⟩:=Y.o.2.2 hb5
           obtain⟨n',rfl⟩:∃n',n=n'+1:=⟨n - 1,by omega⟩;rw[t5,bc];have ad:=aA.o;rw[t1]at ad f
           cases hs:sk r with
           |nil=>rfl
           |cons a l=>
            rw[hs]at ad f;have h1:a≠44:=ad;have h2:a≠125:=by rintro rfl;exact f l rfl
            simp[h1,h2]
       |false=>
        rcases HW.o with⟨b1,_,r',p1,p2⟩ | ⟨f,_⟩
        ·obtain⟨j,r,t1,t2,t3,t4,t5⟩:=Y.o.2.2 b1
         have aa:sk r=125 :: r':=by rw[←t1];exact p1
         obtain⟨n',rfl⟩:∃n',n=n'+1:=⟨n - 1,by omega⟩;have tr:=((Y.o.1 j t2 t4).kp KB (fun k _ _=>by omega) B).tree B;refine gD ?_ (KA.trans KB) h9 p2 tr;rw[HT.o.2,t5,bc,aa];simp
        ·cases f
end
end Go.Proofs.YtocligpfmfmihaaGreatDoor
