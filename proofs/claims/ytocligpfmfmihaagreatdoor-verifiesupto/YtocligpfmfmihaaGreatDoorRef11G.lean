import Derived.Test.YtocligpfmfmihaaGreatDoorRef10
import Derived.Test.YtocligpfmfmihaaGreatDoorRef6hG
import Derived.Test.YtocligpfmfmihaaGreatDoorRdG
import Derived.WalkKit
import Derived.LaidEql
import Derived.Stop.Asserts
import Derived.RowKitTokens
import Derived.Test.YtocligpfmfmihaaGreatDoorParG
set_option maxHeartbeats 4000000
set_option maxRecDepth 20000
namespace Go.Proofs.YtocligpfmfmihaaGreatDoor
open Go.Proofs.Tryz
section
open Go Go.RowKit Go.Maps
variable{W w w':World}{rb k:Nat}{s:ByteArray}{bad:Bool}
theorem iX{o:Option (J×Bs)}{b kz k9:Nat}{badz:Bool}{wz w9:World}(hK:Kp (· =rb) w wz)(hz:match o with | some (j,r)=>badz=false∧ah s kz=r∧RR wz (fun c=>w.heap.size≤c∧c < wz.heap.size) j b | none=>badz=true)
  (K9:Kp (· =rb) wz w9) (h9:Rs W w9 rb s k9 badz) (r9:ah s k9=sk (ah s kz)) (hrb:rb < w.heap.size):TrR W w rb s (o.map fun x=>(x.1,sk x.2)) (.returned (.pointer (some ⟨b,0,none⟩))) w9:=by
 cases o with
 |none=>
  subst hz;exact bI rfl (hK.trans K9) h9
 |some z=>
  obtain⟨j,r⟩:=z;obtain⟨rfl,a,d⟩:=hz;have:=K9.size;exact gD rfl (hK.trans K9) h9 (by rw[r9,a]) (d.frame (fun c hc=>K9.block c hc.2 (by omega)) (fun c hc=>⟨hc.1,by omega⟩))
theorem iQ{d:Nat}{l t:Bs}{c:UInt8}(h:sk l=c :: t)(h1:c≠123)(h2:c≠91):az true d l=cE true c t:=by
 cases d with
 |zero=>rw[az,h];simp[h1,h2]
 |succ d=>rw[az,h];simp[h1,h2]
theorem nt{w l r:Bs}{j:J}(hw:(w=[110,117,108,108]∧j=.null)∨(w=[116,114,117,101]∧j=.bool true)∨(w=[102,97,108,115,101]∧j=.bool false))(h:l=w ++r):b7 l=some (j,r):=by
 subst h;rcases hw with⟨rfl,rfl⟩ | ⟨rfl,rfl⟩ | ⟨rfl,rfl⟩ <;> simp[b7]
theorem kM{l:Bs}(h1:∀r,l≠[110,117,108,108] ++r)(h2:∀r,l≠[116,114,117,101] ++r)(h3:∀r,l≠[102,97,108,115,101] ++r):b7 l=none:=by
 have a:∀(w:Bs) n,l.take n=w→(∀r,l≠w ++r)→False:=by
  intro w n e h;apply h (l.drop n);rw[←e,List.take_append_drop]
 unfold b7;rw[if_neg (fun e=>a _ _ e h1),if_neg (fun e=>a _ _ e h2),if_neg (fun e=>a _ _ e h3)]
theorem sH{w:World}{b i kind:Nat}{n:Int}{t:Bs}{K L:Value}(h:w.heap[b]? =some (ar kind n t K L))(u:Value):(w.setCell ⟨b,i,none⟩ u).heap[b]? =some (.cells (#[.int .u8 (kind:Int),.int .i64 n,.string ⟨t.toArray⟩,K,L].setIfInBounds i u) 80):=by simp[World.setCell,Array.getElem?_modify,h,ar]
theorem Aa(h:Rs W w rb s k true)(D:Nat)(hD:D≤6):
  Calls prog 69 #[.pointer (some ⟨rb,0,none⟩),.int .i64 (D:Int)] w fun e w'=>TrR W w rb s none e w':=by
 have ab:=h.sz;have aa:=(h.facts).2.2.2.2.2;have Z:=h.old.size;go_enter func69,ntmps69;go_wp2_with fail
 refine (aV h).mono ?_;rintro e w1 ⟨rfl,Y,P,U,r1⟩;have R1:=ae r1;clear r1;go_wp2_with fail
 refine (dP U).mono ?_;rintro e w2 ⟨rfl,m,rfl⟩;have x:=U.drewN m;have O:=Y.drewN m;clear U Y;generalize w1.drewN m=w2 at *;have C:=heap_alloc_new w2 (ar 0 0 [] (.slice none 0 0) (.slice none 0 0));have I:Rs W (w2.alloc (ar 0 0 [] (.slice none 0 0) (.slice none 0 0))) rb s P true:=x.keep (S:=fun _=>False) ((Kp.refl _ _).alloc _) (by simp) (by simp);have H:Kp (· =rb) w (w2.alloc (ar 0 0 [] (.slice none 0 0) (.slice none 0 0))):=O.alloc _;have ad:w2.heap.size < (w2.alloc (ar 0 0 [] (.slice none 0 0) (.slice none 0 0))).heap.size:=by simp
 have ac:=O.size;generalize nxt (ah s P)=c;by_cases o:c=110
 ·subst o
  go_wp2_with fail
  refine (em I ⟨#[110,117,108,108]⟩).mono ?_;rintro e d ⟨rfl,a,g⟩;have t:=(a.block _ (ag C) (by omega)).trans C;obtain⟨v0,Q,v2,v3,v4,z0,R,z2,z3,z4,u⟩:=aw t;go_wp2_with fail
  refine (aV (g.keep (S:=fun k=>k=w2.heap.size) (Kp.setCell (p:=⟨w2.heap.size,0,none⟩) (Kp.refl (fun k=>k=w2.heap.size) d) (fun _=>rfl) _) (fun i hi=>by have:=x.old.size;omega) (by omega))).mono ?_;rintro e F ⟨rfl,f,E,j,_⟩;go_wp2;go_ret;exact bI rfl ((Kp.setCell (p:=⟨w2.heap.size,0,none⟩) (H.trans a) (fun hlt=>by exact absurd hlt (by show ¬w2.heap.size < _;omega)) _).trans f) j
 by_cases q:c=116
 ·subst q
  go_wp2_with fail
  refine (em I ⟨#[116,114,117,101]⟩).mono ?_;rintro e d ⟨rfl,a,g⟩;have t:=(a.block _ (ag C) (by omega)).trans C;obtain⟨v0,Q,v2,v3,v4,z0,R,z2,z3,z4,u⟩:=aw t;go_wp2_with fail
  refine (aV (g.keep (S:=fun k=>k=w2.heap.size) (Kp.setCell (p:=⟨w2.heap.size,0,none⟩) (Kp.refl (fun k=>k=w2.heap.size) d) (fun _=>rfl) _) (fun i hi=>by have:=x.old.size;omega) (by omega))).mono ?_;rintro e F ⟨rfl,f,E,j,_⟩;go_wp2;go_ret;exact bI rfl ((Kp.setCell (p:=⟨w2.heap.size,0,none⟩) (H.trans a) (fun hlt=>by exact absurd hlt (by show ¬w2.heap.size < _;omega)) _).trans f) j
 by_cases n:c=102
 ·subst n
  go_wp2_with fail
  refine (em I ⟨#[102,97,108,115,101]⟩).mono ?_;rintro e d ⟨rfl,a,g⟩;have t:=(a.block _ (ag C) (by omega)).trans C;obtain⟨v0,Q,v2,v3,v4,z0,R,z2,z3,z4,u⟩:=aw t;go_wp2_with fail
  refine (aV (g.keep (S:=fun k=>k=w2.heap.size) (Kp.setCell (p:=⟨w2.heap.size,0,none⟩) (Kp.refl (fun k=>k=w2.heap.size) d) (fun _=>rfl) _) (fun i hi=>by have:=x.old.size;omega) (by omega))).mono ?_;rintro e F ⟨rfl,f,E,j,_⟩;go_wp2;go_ret;exact bI rfl ((Kp.setCell (p:=⟨w2.heap.size,0,none⟩) (H.trans a) (fun hlt=>by exact absurd hlt (by show ¬w2.heap.size < _;omega)) _).trans f) j
 by_cases z:c=34
 ·subst z
  have T:Rs W (w2.alloc (ar 34 0 [] (.slice none 0 0) (.slice none 0 0))) rb s P true:=x.keep (S:=fun _=>False) ((Kp.refl _ _).alloc _) (by simp) (by simp);have G:=heap_alloc_new w2 (ar 34 0 [] (.slice none 0 0) (.slice none 0 0));go_wp2_with fail
  refine (qr T (fun e=>by cases e)).mono ?_;rintro e d ⟨rfl,a,g⟩;have t:d.heap[w2.heap.size]? =some (ar 34 0 [] (.slice none 0 0) (.slice none 0 0)):=(a.block _ (ag G) (by omega)).trans G;obtain⟨v0,Q,v2,v3,v4,z0,R,z2,z3,z4,u⟩:=aw t;have y:Kp (· =rb) w d:=(O.alloc _).trans a;go_wp2_with fail
  refine (aV (g.keep (S:=fun k=>k=w2.heap.size) (Kp.setCell (p:=⟨w2.heap.size,2,none⟩) (Kp.refl (fun k=>k=w2.heap.size) d) (fun _=>rfl) _) (fun i hi=>by have:=x.old.size;omega) (by omega))).mono ?_;rintro e F ⟨rfl,f,E,j,_⟩;go_wp2;go_ret;exact bI rfl ((Kp.setCell (p:=⟨w2.heap.size,2,none⟩) y (fun hlt=>by exact absurd hlt (by show ¬w2.heap.size < _;omega)) _).trans f) j
 by_cases A:c=91
 ·subst A
  go_wp2_with fail
  refine (rX I ((D:Int)+1) (Or.inl rfl)).mono ?_;rintro e d ⟨b,rfl,a,k4,l,g,J⟩;have B:l=true:=J;subst B;clear J;go_wp2_with fail
  refine (aV g).mono ?_;rintro e F ⟨rfl,f,E,j,_⟩;go_wp2;go_ret;exact bI rfl ((H.trans a).trans f) j
 by_cases r:c=123
 ·subst r
  go_wp2_with fail
  refine (sd I ((D:Int)+1) (Or.inl rfl)).mono ?_;rintro e d ⟨b,rfl,a,k4,l,g,J⟩;have B:l=true:=J;subst B;clear J;go_wp2_with fail
  refine (aV g).mono ?_;rintro e F ⟨rfl,f,E,j,_⟩;go_wp2;go_ret;exact bI rfl ((H.trans a).trans f) j
 have L:=u8n o;have M:=u8n q;have K:=u8n n;have V:=u8n z;have X:=u8n A;have N:=u8n r;simp only[UInt8.reduceToNat,Int.cast_ofNat_Int]at L M K V X N;clear o q n z A r;have T:Rs W (w2.alloc (ar 35 0 [] (.slice none 0 0) (.slice none 0 0))) rb s P true:=x.keep (S:=fun _=>False) ((Kp.refl _ _).alloc _) (by simp) (by simp);have G:=heap_alloc_new w2 (ar 35 0 [] (.slice none 0 0) (.slice none 0 0));go_wp2_with fail
 refine (zZ T).mono ?_;rintro e d ⟨v,k4,rfl,a,g⟩;have t:d.heap[w2.heap.size]? =some (ar 35 0 [] (.slice none 0 0) (.slice none 0 0)):=(a.block _ (ag G) (by omega)).trans G;obtain⟨v0,Q,v2,v3,v4,z0,R,z2,z3,z4,u⟩:=aw t;have y:Kp (· =rb) w d:=(O.alloc _).trans a;go_wp2_with fail
 refine (aV (g.keep (S:=fun k=>k=w2.heap.size) (Kp.setCell (p:=⟨w2.heap.size,1,none⟩) (Kp.refl (fun k=>k=w2.heap.size) d) (fun _=>rfl) _) (fun i hi=>by have:=x.old.size;omega) (by omega))).mono ?_;rintro e F ⟨rfl,f,E,j,_⟩;go_wp2;go_ret;exact bI rfl ((Kp.setCell (p:=⟨w2.heap.size,1,none⟩) y (fun hlt=>by exact absurd hlt (by show ¬w2.heap.size < _;omega)) _).trans f) j
theorem vbC(W:World):VbC W:=fun _ _ _ _ D hD h=>Aa h D hD
theorem x5(D:Nat)(hD:D≤6)(hv:D < 6→VlC W (D+1))(h:Rs W w rb s k false):
  Calls prog 69 #[.pointer (some ⟨rb,0,none⟩),.int .i64 (D:Int)] w fun e w'=>TrR W w rb s ((az true (6 - D) (ah s k)).map fun x=>(x.1,sk x.2)) e w':=by
 have ay:=h.sz;have N:=(h.facts).2.2.2.2.2;have ax:=h.old.size;go_enter func69,ntmps69;go_wp2_with fail
 refine (aV h).mono ?_;rintro e w1 ⟨rfl,K1,O,h1,r1⟩;have R1:=ae r1;clear r1;go_wp2_with fail
 refine (dP h1).mono ?_;rintro e w2 ⟨rfl,m,rfl⟩;have h2:=h1.drewN m;have K2:=K1.drewN m;clear h1 K1;generalize w1.drewN m=w2 at *;have I2:=heap_alloc_new w2 (ar 0 0 [] (.slice none 0 0) (.slice none 0 0));have h3:Rs W (w2.alloc (ar 0 0 [] (.slice none 0 0) (.slice none 0 0))) rb s O false:=h2.keep (S:=fun _=>False) ((Kp.refl _ _).alloc _) (by simp) (by simp);have K3:Kp (· =rb) w (w2.alloc (ar 0 0 [] (.slice none 0 0) (.slice none 0 0))):=K2.alloc _;have aB:w2.heap.size < (w2.alloc (ar 0 0 [] (.slice none 0 0) (.slice none 0 0))).heap.size:=by simp
 have aa:=K2.size;generalize hc:nxt (ah s O)=c;have HC:=ae hc;clear hc;have HV:=ae hv;clear hv;by_cases T:c=110
 ·subst T
  obtain⟨t,u⟩:=eI HC.o (by decide);have g:sk (ah s k)=110 :: t:=by rw[←R1.o];exact u
  have n:=iQ (d:=6 - D) g (by decide) (by decide);have L:cE true 110 t=b7 (ah s O):=by rw[u];simp[cE,aW]
  have A:=ae (An u (n.trans L));clear u g n L;go_wp2_with fail
  refine (dn h3 ⟨#[110,117,108,108]⟩ (by decide)).mono ?_;rintro e q ⟨rfl,F,G,f,B,_,hw⟩;have HW:=ae hw;clear hw;have P:=(F.block _ (ag I2) (by omega)).trans I2;obtain⟨v0,v1,v2,v3,v4,z0,z1,z2,z3,z4,af⟩:=aw P;have Q:(q.setCell ⟨w2.heap.size,0,none⟩ (.int .u8 110)).heap[w2.heap.size]? =some (ar 110 0 [] (.slice none 0 0) (.slice none 0 0)):=sH (i:=0) P (.int .u8 110);go_wp2_with fail
  refine (aV (B.keep (S:=fun k=>k=w2.heap.size) (Kp.setCell (p:=⟨w2.heap.size,0,none⟩) (Kp.refl (fun k=>k=w2.heap.size) q) (fun _=>rfl) _) (fun i hi=>by have:=h2.old.size;omega) (by omega))).mono ?_;rintro e w5 ⟨rfl,H,k5,K,y⟩;have I:=ae y;clear y;go_wp2;go_ret;refine iX (Kp.setCell (p:=⟨w2.heap.size,0,none⟩) (K3.trans F) (fun hlt=>by exact absurd hlt (by show ¬w2.heap.size < _;omega)) _) ?_ H K I.o N;rw[A.o.2];rcases HW.o with⟨_,b2,r,p1,p2⟩ | ⟨b1,_,b5⟩
  ·rw[nt (w:=[110,117,108,108]) (j:=.null) (r:=r) (Or.inl ⟨rfl,rfl⟩) p1]
   exact⟨b2,p2,.null ⟨aa,ag Q⟩ Q⟩
  ·have b6:=b5.resolve_left (by simp)
   rw[kM]
   ·exact b1
   ·exact b6
   ·intro r e;rw[A.o.1]at e;simp at e
   ·intro r e;rw[A.o.1]at e;simp at e
 by_cases U:c=116
 ·subst U
  obtain⟨t,u⟩:=eI HC.o (by decide);have g:sk (ah s k)=116 :: t:=by rw[←R1.o];exact u
  have n:=iQ (d:=6 - D) g (by decide) (by decide);have L:cE true 116 t=b7 (ah s O):=by rw[u];simp[cE,aW]
  have A:=ae (An u (n.trans L));clear u g n L;go_wp2_with fail
  refine (dn h3 ⟨#[116,114,117,101]⟩ (by decide)).mono ?_;rintro e q ⟨rfl,F,G,f,B,_,hw⟩;have HW:=ae hw;clear hw;have P:=(F.block _ (ag I2) (by omega)).trans I2;obtain⟨v0,v1,v2,v3,v4,z0,z1,z2,z3,z4,af⟩:=aw P;have Q:(q.setCell ⟨w2.heap.size,0,none⟩ (.int .u8 116)).heap[w2.heap.size]? =some (ar 116 0 [] (.slice none 0 0) (.slice none 0 0)):=sH (i:=0) P (.int .u8 116);go_wp2_with fail
  refine (aV (B.keep (S:=fun k=>k=w2.heap.size) (Kp.setCell (p:=⟨w2.heap.size,0,none⟩) (Kp.refl (fun k=>k=w2.heap.size) q) (fun _=>rfl) _) (fun i hi=>by have:=h2.old.size;omega) (by omega))).mono ?_;rintro e w5 ⟨rfl,H,k5,K,y⟩;have I:=ae y;clear y;go_wp2;go_ret;refine iX (Kp.setCell (p:=⟨w2.heap.size,0,none⟩) (K3.trans F) (fun hlt=>by exact absurd hlt (by show ¬w2.heap.size < _;omega)) _) ?_ H K I.o N;rw[A.o.2];rcases HW.o with⟨_,b2,r,p1,p2⟩ | ⟨b1,_,b5⟩
  ·rw[nt (w:=[116,114,117,101]) (j:=.bool true) (r:=r) (Or.inr (Or.inl ⟨rfl,rfl⟩)) p1]
   exact⟨b2,p2,.tt ⟨aa,ag Q⟩ Q⟩
  ·have b6:=b5.resolve_left (by simp)
   rw[kM]
   ·exact b1
   ·intro r e;rw[A.o.1]at e;simp at e
   ·exact b6
   ·intro r e;rw[A.o.1]at e;simp at e
 by_cases R:c=102
 ·subst R
  obtain⟨t,u⟩:=eI HC.o (by decide);have g:sk (ah s k)=102 :: t:=by rw[←R1.o];exact u
  have n:=iQ (d:=6 - D) g (by decide) (by decide);have L:cE true 102 t=b7 (ah s O):=by rw[u];simp[cE,aW]
  have A:=ae (An u (n.trans L));clear u g n L;go_wp2_with fail
  refine (dn h3 ⟨#[102,97,108,115,101]⟩ (by decide)).mono ?_;rintro e q ⟨rfl,F,G,f,B,_,hw⟩;have HW:=ae hw;clear hw;have P:=(F.block _ (ag I2) (by omega)).trans I2;obtain⟨v0,v1,v2,v3,v4,z0,z1,z2,z3,z4,af⟩:=aw P;have Q:(q.setCell ⟨w2.heap.size,0,none⟩ (.int .u8 102)).heap[w2.heap.size]? =some (ar 102 0 [] (.slice none 0 0) (.slice none 0 0)):=sH (i:=0) P (.int .u8 102);go_wp2_with fail
  refine (aV (B.keep (S:=fun k=>k=w2.heap.size) (Kp.setCell (p:=⟨w2.heap.size,0,none⟩) (Kp.refl (fun k=>k=w2.heap.size) q) (fun _=>rfl) _) (fun i hi=>by have:=h2.old.size;omega) (by omega))).mono ?_;rintro e w5 ⟨rfl,H,k5,K,y⟩;have I:=ae y;clear y;go_wp2;go_ret;refine iX (Kp.setCell (p:=⟨w2.heap.size,0,none⟩) (K3.trans F) (fun hlt=>by exact absurd hlt (by show ¬w2.heap.size < _;omega)) _) ?_ H K I.o N;rw[A.o.2];rcases HW.o with⟨_,b2,r,p1,p2⟩ | ⟨b1,_,b5⟩
  ·rw[nt (w:=[102,97,108,115,101]) (j:=.bool false) (r:=r) (Or.inr (Or.inr ⟨rfl,rfl⟩)) p1]
   exact⟨b2,p2,.ff ⟨aa,ag Q⟩ Q⟩
  ·have b6:=b5.resolve_left (by simp)
   rw[kM]
   ·exact b1
   ·intro r e;rw[A.o.1]at e;simp at e
   ·intro r e;rw[A.o.1]at e;simp at e
   ·exact b6
 by_cases ab:c=34
 ·subst ab
  obtain⟨t,u⟩:=eI HC.o (by decide);have g:sk (ah s k)=34 :: t:=by rw[←R1.o];exact u
  have n:=iQ (d:=6 - D) g (by decide) (by decide);have A:=ae (An u n);clear u g n;have S3:Rs W (w2.alloc (ar 34 0 [] (.slice none 0 0) (.slice none 0 0))) rb s O false:=h2.keep (S:=fun _=>False) ((Kp.refl _ _).alloc _) (by simp) (by simp);have I3:=heap_alloc_new w2 (ar 34 0 [] (.slice none 0 0) (.slice none 0 0));go_wp2_with fail
  refine (uQ S3 t A.o.1).mono ?_;rintro e q ⟨v,rfl,aA,F,G,f,B,C⟩;have HO:=ae C;clear C;have P:q.heap[w2.heap.size]? =some (ar 34 0 [] (.slice none 0 0) (.slice none 0 0)):=(F.block _ (ag I3) (by omega)).trans I3;obtain⟨v0,v1,v2,v3,v4,z0,z1,z2,z3,z4,af⟩:=aw P;have Q:(q.setCell ⟨w2.heap.size,2,none⟩ (.string ⟨v.toArray⟩)).heap[w2.heap.size]? =some (ar 34 0 v (.slice none 0 0) (.slice none 0 0)):=sH (i:=2) P _;have aj:Kp (· =rb) w q:=(K2.alloc _).trans F;go_wp2_with fail
  refine (aV (B.keep (S:=fun k=>k=w2.heap.size) (Kp.setCell (p:=⟨w2.heap.size,2,none⟩) (Kp.refl (fun k=>k=w2.heap.size) q) (fun _=>rfl) _) (fun i hi=>by have:=h2.old.size;omega) (by omega))).mono ?_;rintro e w5 ⟨rfl,H,k5,K,y⟩;have I:=ae y;clear y;go_wp2;go_ret;refine iX (Kp.setCell (p:=⟨w2.heap.size,2,none⟩) aj (fun hlt=>by exact absurd hlt (by show ¬w2.heap.size < _;omega)) _) ?_ H K I.o N;have C:=HO.o;rw[A.o.2,cE,if_pos rfl]
  cases hp:br true t with
  |none=>rw[hp]at C;exact C
  |some z=>
   obtain⟨o,r⟩:=z;rw[hp]at C;obtain⟨q1,rfl,q3⟩:=C;exact⟨q1,q3,.str _ ⟨aa,ag Q⟩ Q⟩
 by_cases ac:c=91
 ·subst ac
  obtain⟨t,u⟩:=eI HC.o (by decide);have g:sk (ah s k)=91 :: t:=by rw[←R1.o];exact u
  have A:=ae (An u g);clear u g
  have Y:∀(o:Option (J×Bs)) (e:Ending) (q:World),o=az true (6 - D) (ah s k)→TrR W (w2.alloc (ar 0 0 [] (.slice none 0 0) (.slice none 0 0))) rb s o e q→∃b,e=.returned (.pointer (some ⟨b,0,none⟩))∧∃G f,Rs W q rb s G f∧∀k9 w9,Kp (· =rb) q w9→Rs W w9 rb s k9 f→ah s k9=sk (ah s G) →
    TrR W w rb s ((az true (6 - D) (ah s k)).map fun x=>(x.1,sk x.2)) (.returned (.pointer (some ⟨b,0,none⟩))) w9:=by
   rintro o e q C ⟨b,rfl,F,G,f,B,hm⟩;refine⟨b,rfl,G,f,B,fun k9 w9 K9 h9 r9=> ?_⟩;rw[←C];refine iX (K3.trans F) ?_ K9 h9 r9 N
   cases o with
   |none=>exact hm
   |some z=>exact⟨hm.1,hm.2.1,hm.2.2.frame (fun _ _=>rfl) (fun c hc=>⟨by omega,hc.2⟩)⟩
  have X:=ae Y;clear Y;by_cases hd:D < 6
  ·have n:((bD (pEl (az true (6 - (D+1)))) 93 [] t).map fun x=>((J.arr x.1),x.2))=az true (6 - D) (ah s k):=by
    rw[show 6 - D=(6 - (D+1))+1 by omega,az,A.o.2];simp
   have M:=ae n;clear n;go_wp2_with fail
   refine (DC (D+1) (by omega) (HV.o hd) h3 t A.o.1).mono ?_;intro e q E;obtain⟨b,rfl,G,f,B,Z⟩:=X.o _ _ _ M.o E;have HF:=ae Z;clear Z E;go_wp2_with fail
   refine (aV B).mono ?_;rintro e w5 ⟨rfl,H,k5,K,y⟩;have I:=ae y;clear y;go_wp2;go_ret;exact HF.o _ _ H K I.o
  ·have n:(none:Option (J×Bs))=az true (6 - D) (ah s k):=by
    rw[show 6 - D=0 by omega,az,A.o.2];simp
   have M:=ae n;clear n;go_wp2_with fail
   refine (rX h3 ((D:Int)+1) (Or.inr (by omega))).mono ?_;intro e q E;obtain⟨b,rfl,G,f,B,Z⟩:=X.o _ _ _ M.o E;have HF:=ae Z;clear Z E;go_wp2_with fail
   refine (aV B).mono ?_;rintro e w5 ⟨rfl,H,k5,K,y⟩;have I:=ae y;clear y;go_wp2;go_ret;exact HF.o _ _ H K I.o
 by_cases V:c=123
 ·subst V
  obtain⟨t,u⟩:=eI HC.o (by decide);have g:sk (ah s k)=123 :: t:=by rw[←R1.o];exact u
  have A:=ae (An u g);clear u g
  have Y:∀(o:Option (J×Bs)) (e:Ending) (q:World),o=az true (6 - D) (ah s k)→TrR W (w2.alloc (ar 0 0 [] (.slice none 0 0) (.slice none 0 0))) rb s o e q→∃b,e=.returned (.pointer (some ⟨b,0,none⟩))∧∃G f,Rs W q rb s G f∧∀k9 w9,Kp (· =rb) q w9→Rs W w9 rb s k9 f→ah s k9=sk (ah s G) →
    TrR W w rb s ((az true (6 - D) (ah s k)).map fun x=>(x.1,sk x.2)) (.returned (.pointer (some ⟨b,0,none⟩))) w9:=by
   rintro o e q C ⟨b,rfl,F,G,f,B,hm⟩;refine⟨b,rfl,G,f,B,fun k9 w9 K9 h9 r9=> ?_⟩;rw[←C];refine iX (K3.trans F) ?_ K9 h9 r9 N
   cases o with
   |none=>exact hm
   |some z=>exact⟨hm.1,hm.2.1,hm.2.2.frame (fun _ _=>rfl) (fun c hc=>⟨by omega,hc.2⟩)⟩
  have X:=ae Y;clear Y;by_cases hd:D < 6
  ·have n:((bD (bq true (az true (6 - (D+1)))) 125 [] t).map fun x=>((J.obj (ofL x.1)),x.2))=az true (6 - D) (ah s k):=by
    rw[show 6 - D=(6 - (D+1))+1 by omega,az,A.o.2];simp
   have M:=ae n;clear n;go_wp2_with fail
   refine (DH (D+1) (by omega) (HV.o hd) (vbC W) h3 t A.o.1).mono ?_;intro e q E;obtain⟨b,rfl,G,f,B,Z⟩:=X.o _ _ _ M.o E;have HF:=ae Z;clear Z E;go_wp2_with fail
   refine (aV B).mono ?_;rintro e w5 ⟨rfl,H,k5,K,y⟩;have I:=ae y;clear y;go_wp2;go_ret;exact HF.o _ _ H K I.o
  ·have n:(none:Option (J×Bs))=az true (6 - D) (ah s k):=by
    rw[show 6 - D=0 by omega,az,A.o.2];simp
   have M:=ae n;clear n;go_wp2_with fail
   refine (sd h3 ((D:Int)+1) (Or.inr (by omega))).mono ?_;intro e q E;obtain⟨b,rfl,G,f,B,Z⟩:=X.o _ _ _ M.o E;have HF:=ae Z;clear Z E;go_wp2_with fail
   refine (aV B).mono ?_;rintro e w5 ⟨rfl,H,k5,K,y⟩;have I:=ae y;clear y;go_wp2;go_ret;exact HF.o _ _ H K I.o
 have ao:=u8n T;have ap:=u8n U;have an:=u8n R;have au:=u8n ab;have av:=u8n ac;have aq:=u8n V;simp only[UInt8.reduceToNat,Int.cast_ofNat_Int]at ao ap an au av aq
 have ai:∀(w0:World),Rs W w0 rb s O false→Calls prog 129 #[.pointer (some ⟨rb,0,none⟩)] w0 fun e w'=>NmR W w0 rb s (eA (ah s O)) e w':=by
  intro w0 am;by_cases ak:c=45
  ·obtain⟨t,u⟩:=eI (HC.o.trans ak) (by decide)
   rw[u,←qf];refine (vG am t u (O+1) rfl).mono ?_;intro e w' E;rw[(ek u).2.2.1]at E;exact E
  ·refine (vH O am (by rw[HC.o];exact ak)).mono ?_
   intro e w' E
   cases hr:ah s O with
   |nil=>
    rw[hr]at E;exact E
   |cons a l=>
    have ha:a≠45:=by
     have:=HC.o;rw[hr]at this;rw[show a=c from this];exact ak
    rw[hr,oE _ (by simpa using ha) (by simp)]at E;exact E
 have al:az true (6 - D) (ah s k)=(eA (ah s O)).map fun x=>(.num x.1,x.2):=by
  cases hr:ah s O with
  |nil=>
   rw[vA true _ _ (by rw[←R1.o];exact hr)];rfl
  |cons a l=>
   have ha:a=c:=by
    have:=HC.o;rw[hr]at this;exact this
   subst ha;rw[iQ (by rw[←R1.o];exact hr) V ac,cE,if_neg ab];by_cases ad:a=45∨aW a=true
   ·rw[if_pos ad]
   ·rw[if_neg ad,kM]
    ·rw[eA,if_neg (fun e=>ad (Or.inl e)),iO,show dgs (a :: l)=[] from iA (by cases hh:aW a with | false=>rfl | true=>exact absurd (Or.inr hh) ad)]
     rfl
    ·intro r e;simp at e;exact T e.1
    ·intro r e;simp at e;exact U e.1
    ·intro r e;simp at e;exact R e.1
 have HN:=ae (An ai al);clear ai al;clear T U R ab ac V;have S3:Rs W (w2.alloc (ar 35 0 [] (.slice none 0 0) (.slice none 0 0))) rb s O false:=h2.keep (S:=fun _=>False) ((Kp.refl _ _).alloc _) (by simp) (by simp);have I3:=heap_alloc_new w2 (ar 35 0 [] (.slice none 0 0) (.slice none 0 0));go_wp2_with fail
 refine (HN.o.1 _ S3).mono ?_;rintro e q ⟨v,rfl,F,G,f,B,C⟩;have HO:=ae C;clear C;have P:q.heap[w2.heap.size]? =some (ar 35 0 [] (.slice none 0 0) (.slice none 0 0)):=(F.block _ (ag I3) (by omega)).trans I3;obtain⟨v0,v1,v2,v3,v4,z0,z1,z2,z3,z4,af⟩:=aw P;have Q:(q.setCell ⟨w2.heap.size,1,none⟩ (.int .i64 v)).heap[w2.heap.size]? =some (ar 35 v [] (.slice none 0 0) (.slice none 0 0)):=sH (i:=1) P _;have aj:Kp (· =rb) w q:=(K2.alloc _).trans F;go_wp2_with fail
 refine (aV (B.keep (S:=fun k=>k=w2.heap.size) (Kp.setCell (p:=⟨w2.heap.size,1,none⟩) (Kp.refl (fun k=>k=w2.heap.size) q) (fun _=>rfl) _) (fun i hi=>by have:=h2.old.size;omega) (by omega))).mono ?_;rintro e w5 ⟨rfl,H,k5,K,y⟩;have I:=ae y;clear y;go_wp2;go_ret;refine iX (Kp.setCell (p:=⟨w2.heap.size,1,none⟩) aj (fun hlt=>by exact absurd hlt (by show ¬w2.heap.size < _;omega)) _) ?_ H K I.o N;have C:=HO.o;rw[HN.o.2]
 cases hp:eA (ah s O) with
 |none=>rw[hp]at C;exact C
 |some z=>
  obtain⟨o,r⟩:=z;rw[hp]at C;obtain⟨q1,rfl,q3⟩:=C;exact⟨q1,q3,.num _ (uA hp).1 ⟨aa,ag Q⟩ Q⟩
theorem vlC(W:World):∀n D,D+n=6→VlC W D
 |0,D,h=>fun _ _ _ _ hr=>x5 D (by omega) (fun h'=>absurd h' (by omega)) hr
 |n+1,D,h=>fun _ _ _ _ hr=>x5 D (by omega) (fun _=>vlC W n (D+1) (by omega)) hr
end
section
open Go Go.RowKit Go.Maps
def RpR(w:World)(s:ByteArray)(e:Ending)(w':World):Prop:=
 Kp (fun _=>False) w w'∧((600 < s.size∧e=.returned (.tuple #[.pointer none,.int .i64 1]))∨(s.size≤600∧dk s.data.toList=none∧e=.returned (.tuple #[.pointer none,.int .i64 2])) ∨
   (s.size≤600∧∃j b,dk s.data.toList=some j∧e=.returned (.tuple #[.pointer (some ⟨b,0,none⟩),.int .i64 0])∧RR w' (fun c=>w.heap.size≤c∧c < w'.heap.size) j b))
theorem z7(W:World)(hG:GL W)(s:ByteArray)(w:World)(ho:Below W.heap.size W w):
  Calls prog 37 #[.string s] w fun e w'=>RpR w s e w':=by
 by_cases B:600 < s.size
 ·have m:(600:Int) < (s.size:Int):=by omega
  go_enter func37,ntmps37;go_wp2;go_ret2
  exact⟨Kp.refl _ _,Or.inl ⟨B,rfl⟩⟩
 ·have m:¬(600:Int) < (s.size:Int):=by omega
  have t:Kp (fun _=>False) w (w.alloc (.cells #[.string s,.int .i64 0,.bool false] 128)):=(Kp.refl _ _).alloc _
  have A:Rs W (w.alloc (.cells #[.string s,.int .i64 0,.bool false] 128)) w.heap.size s 0 false:=
   ⟨hG,am ho t,heap_alloc_new w _,ho.size,by omega,by omega,fun _=>by omega⟩
  go_enter func37,ntmps37;go_wp2_with fail
  refine (vlC W 6 0 rfl w.heap.size s 0 _ A).mono ?_;rintro e w1 ⟨b,rfl,u,l,k,v,f⟩;have y:ah s 0=s.data.toList:=by simp[ah]
  rw[y]at f;have a:=rQ s.data.toList;have K:Kp (fun _=>False) w w1:=t.and u (fun i hi e=>by omega);have D:=u.size;have g:=ae (An f a);clear f a y;obtain⟨E,F,G,f1,f2,H⟩:=v.facts
  cases k with
  |true=>
   go_wp2;go_ret2
   refine⟨K,Or.inr (Or.inl ⟨by omega, ?_,rfl⟩)⟩;rw[←g.o.2,iP];have f:=g.o.1
   cases hp:az true 6 s.data.toList with
   |none=>rfl
   |some z=>rw[hp]at f;cases f.1
  |false=>
   have C:=v.good rfl;have f:=g.o.1;have a:=g.o.2;rw[iP]at a
   cases hp:az true 6 s.data.toList with
   |none=>rw[hp]at f;cases f
   |some z=>
    obtain⟨j,r⟩:=z;rw[hp]at f a;obtain⟨_,p,q⟩:=f;have h:=eZ s l;rw[p]at h;by_cases d:sk r=[]
    ·have x:l=s.size:=by rw[d]at h;simp at h;omega
     have n:((l:Int) != (s.size:Int))=false:=by simp;omega
     have X:=ae (An a (An q d));clear hp a q p h x d g;go_wp2;go_ret2
     refine⟨K,Or.inr (Or.inr ⟨by omega,j,b, ?_,rfl, ?_⟩)⟩
     ·have:=X.o.1
      rw[←this];simp[X.o.2.2]
     ·exact X.o.2.1.frame (fun _ _=>rfl) (fun c hc=>⟨by have:=hc.1;simp at this;omega,hc.2⟩)
    ·have x:l≠s.size:=by
      intro e;apply d;exact List.eq_nil_of_length_eq_zero (h.trans (by omega))
     have n:((l:Int) != (s.size:Int))=true:=by simp;omega
     have X:=ae (An a d);clear hp a q p h d g;go_wp2;go_ret2
     refine⟨K,Or.inr (Or.inl ⟨by omega, ?_,rfl⟩)⟩;rw[←X.o.1];simp[X.o.2]
end
section
open Go Go.RowKit Go.Extern.Stop Go.Stop Go.Extern
theorem zc(v:Value)(w:World):(Extern.ReflectliteType.typeOf #[.iface 415 v]).run prog w=.ok (.iface 289 (.agg #[.pointer (some ⟨31,415,none⟩)])) w:=by kernel_rfl
theorem cH(v:Value)(w:World):(callFunc 112 #[.iface 415 v]).run prog w=.ok (.value (.iface 289 (.agg #[.pointer (some ⟨31,415,none⟩)]))) w:=by
 rw[@run_callFunc_extern prog 112 _ Extern.ReflectliteType.typeOf func112 (by kernel_rfl) (by kernel_rfl) (by kernel_rfl) (by kernel_rfl),zc];rfl
theorem rh(w:World):((Extern.ReflectliteType.method fun t=>do Extern.Rtype.noPackHeld "Comparable" t;pure (.bool (←typeInfo t).comparable)) #[.agg #[.pointer (some ⟨31,415,none⟩)]]).run prog w=.ok (.bool true) w:=by kernel_rfl
theorem ep(w:World):(callFunc 341 #[.agg #[.pointer (some ⟨31,415,none⟩)]]).run prog w=.ok (.value (.bool true)) w:=by
 rw[@run_callFunc_extern prog 341 _ (Extern.ReflectliteType.method fun t=>do Extern.Rtype.noPackHeld "Comparable" t;pure (.bool (←typeInfo t).comparable)) func341 (by kernel_rfl) (by kernel_rfl) (by kernel_rfl) (by kernel_rfl),rh];rfl
theorem db(v:Value)(w:World):(Go.method 546 289 v "Comparable").run prog w=.ok (341,v) w:=by kernel_rfl
theorem lp:(prog.info? 415).map (·.comparable)=some true:=by kernel_rfl
theorem lq:(prog.info? 435).map (·.size)=some 1:=by kernel_rfl
theorem qE(v:Value)(xT:TypeId)(w:World):(Instr.typeAssert (.iface 415 v) xT 291 true).run prog w=.ok (.tuple #[.nilIface,.bool false]) w:=run_typeAssert_lacksB underlying291 (by kernel_rfl) (by kernel_rfl) v xT w
theorem dD(v:Value)(xT:TypeId)(w:World):(Instr.typeAssert (.iface 415 v) xT 294 true).run prog w=.ok (.tuple #[.nilIface,.bool false]) w:=run_typeAssert_lacksB underlying294 (by kernel_rfl) (by kernel_rfl) v xT w
theorem cY(v:Value)(xT:TypeId)(w:World):(Instr.typeAssert (.iface 415 v) xT 296 true).run prog w=.ok (.tuple #[.nilIface,.bool false]) w:=run_typeAssert_lacksB underlying296 (by kernel_rfl) (by kernel_rfl) v xT w
theorem md(v:Value)(xT:TypeId)(w:World):(Instr.typeAssert (.iface 415 v) xT 301 true).run prog w=.ok (.tuple #[.nilIface,.bool false]) w:=run_typeAssert_lacksB underlying301 (by kernel_rfl) (by kernel_rfl) v xT w
theorem D6(v:Value)(xT:TypeId)(w:World):(Instr.typeAssert (.iface 116 v) xT 291 true).run prog w=.ok (.tuple #[.nilIface,.bool false]) w:=run_typeAssert_lacksB underlying291 (by kernel_rfl) (by kernel_rfl) v xT w
theorem oi(v:Value)(xT:TypeId)(w:World):(Instr.typeAssert (.iface 116 v) xT 294 true).run prog w=.ok (.tuple #[.iface 116 v,.bool true]) w:=run_typeAssert_hasB underlying294 (by kernel_rfl) v xT w
theorem lK(v:Value)(w:World):(Go.method 546 116 v "Unwrap").run prog w=.ok (322,v) w:=by kernel_rfl
theorem uk(b:Addr)(w:World):Calls prog 66 #[ax b,ax b] w fun e w'=>e=.returned (.bool true)∧w'=w:=by
 unfold ax;obtain⟨i,f,a⟩:=Option.map_eq_some_iff.1 lp;obtain⟨j,g,h⟩:=Option.map_eq_some_iff.1 lq;have k:=cH;have c:=ep;have l:=db;have d:=run_eql_iface_ptr_same (P:=prog) w b underlying61 underlying415 f a g;go_enter func66,ntmps66;go_wp2;refine wp_loop_rounds 1 ?_;rw[rounds_succ];go_wp2;go_ret;exact⟨rfl,rfl⟩
theorem zf(a b:Addr)(ca cb:Array Value)(ta tb:TypeId)(w:World)(hne:a≠b)(ha:w.heap[a.block]? =some (.cells ca ta (0,0)))(hb:w.heap[b.block]? =some (.cells cb tb (0,0))):
  Calls prog 66 #[ax a,ax b] w fun e w'=>e=.returned (.bool false)∧w'=w:=by
 unfold ax;obtain⟨i,h,c⟩:=Option.map_eq_some_iff.1 lp;obtain⟨j,k,d⟩:=Option.map_eq_some_iff.1 lq;have l:=cH;have f:=ep;have m:=db;have n:=qE;have o:=dD;have p:=cY;have g:=run_eql_iface_ptr_other (P:=prog) (a:=a) (b:=b) w underlying61 underlying415 h c k (by rw[d];decide) hne ha hb;go_enter func66,ntmps66;go_wp2;refine wp_loop_rounds 1 ?_;rw[rounds_succ];go_wp2;go_ret;exact⟨rfl,rfl⟩
theorem ze(fb:Nat)(a b:Addr)(kv:Value)(ca cb:Array Value)(ta tb:TypeId)(w:World)(hf:w.heap[fb]? =some (.cells #[kv,ax a] 239))(hne:a≠b)(ha:w.heap[a.block]? =some (.cells ca ta (0,0)))(hb:w.heap[b.block]? =some (.cells cb tb (0,0))):
  Calls prog 66 #[.iface 116 (.pointer (some ⟨fb,0,none⟩)),ax b] w fun e w'=>e=.returned (.bool false)∧w'=w:=by
 have f:w.cell? ⟨fb,1,none⟩=some (ax a):=by simp[World.cell?,hf]
 unfold ax at f ⊢;clear hf;obtain⟨i,k,c⟩:=Option.map_eq_some_iff.1 lp;obtain⟨j,l,d⟩:=Option.map_eq_some_iff.1 lq;have n:=cH;have g:=ep;have o:=db;have q:=qE;have s:=dD;have u:=cY;have r:=D6;have t:=oi;have p:=lK;have h:=run_eql_iface_ptr_other (P:=prog) (a:=a) (b:=b) w underlying61 underlying415 k c l (by rw[d];decide) hne ha hb;have m:=run_eql_iface_types (P:=prog) 116 415 (.pointer (some ⟨fb,0,none⟩)) (.pointer (some b)) underlying61 (by decide) w;go_enter func66,ntmps66;go_wp2;refine wp_loop_rounds 2 ?_;rw[rounds_succ];go_wp2;rw[rounds_succ];go_wp2;go_ret;exact⟨rfl,rfl⟩
theorem pP(t:Addr)(w:World):(callFunc 114 #[.iface 121 (.pointer (some t))]).run prog w=.ok (.value ((Value.agg #[Value.pointer (some (Addr.mk 31 121 none)),Value.pointer (some ⟨w.heap.size,0,none⟩),Value.int IntKind.u64 150]))) (w.alloc (.cells #[.pointer (some t)] 121)):=by
 rw[@run_callFunc_extern prog 114 _ (fun args=>ReflectliteValue.unpack (args.getD 0 (.tuple #[]))) func114 (by kernel_rfl) (by kernel_rfl) (by kernel_rfl) (by kernel_rfl)];kernel_rfl
theorem nI(t:Addr)(w:World):(callFunc 114 #[.iface 116 (.pointer (some t))]).run prog w=.ok (.value ((Value.agg #[Value.pointer (some (Addr.mk 31 116 none)),Value.pointer (some ⟨w.heap.size,0,none⟩),Value.int IntKind.u64 150]))) (w.alloc (.cells #[.pointer (some t)] 116)):=by
 rw[@run_callFunc_extern prog 114 _ (fun args=>ReflectliteValue.unpack (args.getD 0 (.tuple #[]))) func114 (by kernel_rfl) (by kernel_rfl) (by kernel_rfl) (by kernel_rfl)];kernel_rfl
theorem wn(a:Addr)(w:World):(callFunc 115 #[(Value.agg #[Value.pointer (some (Addr.mk 31 121 none)),Value.pointer (some a),Value.int IntKind.u64 150])]).run prog w=.ok (.value (.iface 289 ((Value.agg #[Value.pointer (some (Addr.mk 31 121 none))])))) w:=by
 rw[@run_callFunc_extern prog 115 _ (ReflectliteValue.methodAny (ReflectliteValue.valueError "reflectlite.Value.Type" 0) (fun t _ _ _=>ReflectliteType.toType t)) func115 (by kernel_rfl) (by kernel_rfl) (by kernel_rfl) (by kernel_rfl)];kernel_rfl
theorem iK(h:Value)(w:World):(Go.method 546 289 (.agg #[h]) "Kind").run prog w=.ok (317,h) w:=by kernel_rfl
theorem iI(h:Value)(w:World):(Go.method 546 289 (.agg #[h]) "Elem").run prog w=.ok (342,.agg #[h]) w:=by kernel_rfl
theorem iJ(h:Value)(w:World):(Go.method 546 289 (.agg #[h]) "Implements").run prog w=.ok (343,.agg #[h]) w:=by kernel_rfl
theorem fK(h:Value)(w:World):(Go.method 546 289 (.agg #[h]) "AssignableTo").run prog w=.ok (340,.agg #[h]) w:=by kernel_rfl
theorem tX(w:World):(callFunc 317 #[.pointer (some ⟨31,121,none⟩)]).run prog w=.ok (.value (.int .u8 22)) w:=by
 rw[@run_callFunc_extern prog 317 _ (ReflectliteType.abiMethod fun t=>do pure (.int .u8 (←Rtype.kind t))) func317 (by kernel_rfl) (by kernel_rfl) (by kernel_rfl) (by kernel_rfl)];kernel_rfl
theorem tY(w:World):(callFunc 317 #[.pointer (some ⟨31,116,none⟩)]).run prog w=.ok (.value (.int .u8 22)) w:=by
 rw[@run_callFunc_extern prog 317 _ (ReflectliteType.abiMethod fun t=>do pure (.int .u8 (←Rtype.kind t))) func317 (by kernel_rfl) (by kernel_rfl) (by kernel_rfl) (by kernel_rfl)];kernel_rfl
theorem wj(w:World):(callFunc 342 #[(Value.agg #[Value.pointer (some (Addr.mk 31 121 none))])]).run prog w=.ok (.value (.iface 289 ((Value.agg #[Value.pointer (some (Addr.mk 31 116 none))])))) w:=by
 rw[@run_callFunc_extern prog 342 _ (ReflectliteType.method ReflectliteType.elem) func342 (by kernel_rfl) (by kernel_rfl) (by kernel_rfl) (by kernel_rfl)];kernel_rfl
theorem wm(w:World):(callFunc 343 #[(Value.agg #[Value.pointer (some (Addr.mk 31 116 none))]),.iface 289 ((Value.agg #[Value.pointer (some (Addr.mk 31 61 none))]))]).run prog w=.ok (.value (.bool true)) w:=by
 rw[@run_callFunc_extern prog 343 _ (ReflectliteType.relation "Implements" ReflectliteType.implements_) func343 (by kernel_rfl) (by kernel_rfl) (by kernel_rfl) (by kernel_rfl)];kernel_rfl
theorem wi(w:World):(callFunc 340 #[(Value.agg #[Value.pointer (some (Addr.mk 31 116 none))]),.iface 289 ((Value.agg #[Value.pointer (some (Addr.mk 31 116 none))]))]).run prog w=.ok (.value (.bool true)) w:=by
 rw[@run_callFunc_extern prog 340 _ (ReflectliteType.relation "AssignableTo" ReflectliteType.assignableTo) func340 (by kernel_rfl) (by kernel_rfl) (by kernel_rfl) (by kernel_rfl)];kernel_rfl
theorem Da(w:World):(callFunc 340 #[(Value.agg #[Value.pointer (some (Addr.mk 31 415 none))]),.iface 289 ((Value.agg #[Value.pointer (some (Addr.mk 31 116 none))]))]).run prog w=.ok (.value (.bool false)) w:=by
 rw[@run_callFunc_extern prog 340 _ (ReflectliteType.relation "AssignableTo" ReflectliteType.assignableTo) func340 (by kernel_rfl) (by kernel_rfl) (by kernel_rfl) (by kernel_rfl)];kernel_rfl
theorem kV(v:Value)(w:World):(callFunc 112 #[.iface 116 v]).run prog w=.ok (.value (.iface 289 ((Value.agg #[Value.pointer (some (Addr.mk 31 116 none))])))) w:=by
 rw[@run_callFunc_extern prog 112 _ Extern.ReflectliteType.typeOf func112 (by kernel_rfl) (by kernel_rfl) (by kernel_rfl) (by kernel_rfl)];kernel_rfl
theorem rlm(z:Sem Value)(f:TypeId→Addr→Nat→Nat→Sem Value)(v:Value):
  ReflectliteValue.method z f #[v]=(do match ←ReflectliteValue.parts v with | none=>z | some (t,a,fl)=>f t a fl (fl % 32)):=rfl
theorem rV(a:Addr)(w:World):(ReflectliteValue.parts ((Value.agg #[Value.pointer (some (Addr.mk 31 121 none)),Value.pointer (some a),Value.int IntKind.u64 150]))).run prog w=.ok (some (121,a,150)) w:=by kernel_rfl
theorem zS(a:Addr)(w:World):(ReflectliteValue.parts ((Value.agg #[Value.pointer (some (Addr.mk 31 116 none)),Value.pointer (some a),Value.int IntKind.u64 150]))).run prog w=.ok (some (116,a,150)) w:=by kernel_rfl
theorem zT(a:Addr)(w:World):(ReflectliteValue.parts ((Value.agg #[Value.pointer (some (Addr.mk 31 116 none)),Value.pointer (some a),Value.int IntKind.u64 406]))).run prog w=.ok (some (116,a,406)) w:=by kernel_rfl
theorem zR(w:World):(Rtype.elem? 121).run prog w=.ok (some 116) w:=by kernel_rfl
theorem Ep(p:Addr)(w:World):(ReflectliteValue.mk 116 p ReflectliteValue.flagAddr).run prog w=.ok ((Value.agg #[Value.pointer (some (Addr.mk 31 116 none)),Value.pointer (some p),Value.int IntKind.u64 406])) w:=by kernel_rfl
theorem zQ(w:World):(Rtype.directlyAssignable 116 116).run prog w=.ok true w:=by kernel_rfl
theorem tW(a p:Addr)(W:World)(ha:W.cell? a=some (.pointer (some p))):(callFunc 116 #[(Value.agg #[Value.pointer (some (Addr.mk 31 121 none)),Value.pointer (some a),Value.int IntKind.u64 150])]).run prog W=.ok (.value (.bool false)) W:=by
 rw[@run_callFunc_extern prog 116 _ (ReflectliteValue.method (ReflectliteValue.valueError "reflectlite.Value.IsNil" 0) ReflectliteValue.isNil) func116 (by kernel_rfl) (by kernel_rfl) (by kernel_rfl) (by kernel_rfl)];rw[rlm];simp only[Sem.run_bind,rV,Result.andThen];simp[ReflectliteValue.isNil,loadVar,isAgg,underlying,underlying121,ha,Result.andThen]
theorem Bw(a p:Addr)(W:World)(ha:W.cell? a=some (.pointer (some p))):(callFunc 165 #[(Value.agg #[Value.pointer (some (Addr.mk 31 121 none)),Value.pointer (some a),Value.int IntKind.u64 150])]).run prog W=.ok (.value ((Value.agg #[Value.pointer (some (Addr.mk 31 116 none)),Value.pointer (some p),Value.int IntKind.u64 406]))) W:=by
 rw[@run_callFunc_extern prog 165 _ (ReflectliteValue.method (ReflectliteValue.valueError "reflectlite.Value.Elem" 0) ReflectliteValue.elem) func165 (by kernel_rfl) (by kernel_rfl) (by kernel_rfl) (by kernel_rfl)];rw[rlm];simp only[Sem.run_bind,rV,Result.andThen];simp[ReflectliteValue.elem,loadVar,isAgg,underlying,underlying121,ha,Result.andThen,zR,Ep]
theorem rls(v x:Value):ReflectliteValue.set #[v,x]=(do
    let (some (dst,a,fl),some (src,b,_)):=(←ReflectliteValue.parts v,←ReflectliteValue.parts x)
      |unsupported (.noEntry "extern/(internal/reflectlite.Value).Set.zeroValue")
    if fl / ReflectliteValue.flagAddr % 2 == 0 then unsupported (.noEntry "extern/(internal/reflectlite.Value).Set.unaddressable")
    let val ←loadVar src b
    if ←Rtype.directlyAssignable dst src then storeVar dst a val
    else if ←Rtype.implements dst src then
      if (←Rtype.kind src) == 20 then
        match val with
        |.nilIface=>unsupported (.noEntry "extern/reflectlite: a nil value of one interface type handed on as a value of another")
        |_=>storeVar dst a val
      else storeVar dst a (.iface src val)
    else panicString ("reflectlite.Set: value of type " ++(←Rtype.spelt src) ++ " is not assignable to type " ++(←Rtype.spelt dst))
    pure (.tuple #[])):=rfl
theorem DW(ta b e:Addr)(old:Value)(W:World)(hb:W.cell? b=some (.pointer (some e)))(ht:W.cell? ta=some old)(hf:W.frozen? ta=false):
  (callFunc 166 #[(Value.agg #[Value.pointer (some (Addr.mk 31 116 none)),Value.pointer (some ta),Value.int IntKind.u64 406]),(Value.agg #[Value.pointer (some (Addr.mk 31 116 none)),Value.pointer (some b),Value.int IntKind.u64 150])]).run prog W=.ok (.value (.tuple #[])) (W.setCell ta (.pointer (some e))):=by
 rw[@run_callFunc_extern prog 166 _ ReflectliteValue.set func166 (by kernel_rfl) (by kernel_rfl) (by kernel_rfl) (by kernel_rfl)];rw[rls];simp only[Sem.run_bind,zS,zT,Result.andThen];simp[ReflectliteValue.flagAddr,loadVar,isAgg,underlying,underlying116,hb,Result.andThen,zQ,storeVar,Value.cells,storeCells,Addr.add];rw[run_store prog W ta _ _ (by rfl)];simp[ht,hf]
theorem bk{w:World}{a:Addr}{v:Value}(h:w.cell? a=some v):a.block < w.heap.size:=by
 rcases Nat.lt_or_ge a.block w.heap.size with b | b
 ·exact b
 ·simp[World.cell?,Array.getElem?_eq_none b]at h
def asW(t:Addr)(w:World):World:=((w.alloc (.cells #[.pointer (some t)] 121)).alloc (.cells #[.pointer (some ⟨31,121,none⟩),.pointer (some ⟨w.heap.size,0,none⟩),.int .u64 150] 214))
theorem C7(fb tb:Nat)(old:Value)(w:World)(hg:w.cell? ⟨9,0,none⟩=some (.iface 289 ((Value.agg #[Value.pointer (some (Addr.mk 31 61 none))]))))(ht0:w.heap[tb]? =some (.cells #[old] 116)):
  Calls prog 67 #[.iface 116 (.pointer (some ⟨fb,0,none⟩)),.iface 121 (.pointer (some ⟨tb,0,none⟩))] w fun ev w'=>ev=.returned (.bool true)∧Kp (fun k=>k=tb) w w':=by
 have u:=pP;have q:=nI;have v:=wn;have x:=iK;have y:=iI;have z:=iJ;have A:=fK;have B:=tX;have C:=tY;have D:=wj;have r:=wm;have s:=wi;have t:=kV;have f:=tW ⟨w.heap.size,0,none⟩ ⟨tb,0,none⟩ (asW ⟨tb,0,none⟩ w) (by unfold asW;simp);have c:=bk hg;have j:=ag ht0
 have i:(asW ⟨tb,0,none⟩ w).cell? ⟨9,0,none⟩=some (.iface 289 ((Value.agg #[Value.pointer (some (Addr.mk 31 61 none))]))):=by
  unfold asW;rw[World.cell?_alloc_lt _ _ ⟨9,0,none⟩ (by simp at c ⊢;omega),World.cell?_alloc_lt _ _ ⟨9,0,none⟩ c];exact hg
 have a:(asW ⟨tb,0,none⟩ w).heap.size=w.heap.size+2:=by unfold asW;simp
 have m:Kp (fun k=>k=tb) w (asW ⟨tb,0,none⟩ w):=by unfold asW;exact ((Kp.refl _ _).alloc _).alloc _
 have g:=Bw ⟨w.heap.size,0,none⟩ ⟨tb,0,none⟩ ((asW ⟨tb,0,none⟩ w).alloc (.cells #[.pointer (some ⟨31,121,none⟩),.pointer (some ⟨w.heap.size,0,none⟩),.int .u64 150] 214)) (by rw[World.cell?_alloc_lt _ _ ⟨w.heap.size,0,none⟩ (by rw[a];simp)];unfold asW;simp);have b:Kp (fun k=>k=tb) w (((asW ⟨tb,0,none⟩ w).alloc (.cells #[.pointer (some ⟨31,121,none⟩),.pointer (some ⟨w.heap.size,0,none⟩),.int .u64 150] 214)).alloc (.cells #[.pointer (some ⟨fb,0,none⟩)] 116)):=(m.alloc _).alloc _;have d:(((asW ⟨tb,0,none⟩ w).alloc (.cells #[.pointer (some ⟨31,121,none⟩),.pointer (some ⟨w.heap.size,0,none⟩),.int .u64 150] 214)).alloc (.cells #[.pointer (some ⟨fb,0,none⟩)] 116)).heap.size=w.heap.size+4:=by simp[a]
 have e:(((asW ⟨tb,0,none⟩ w).alloc (.cells #[.pointer (some ⟨31,121,none⟩),.pointer (some ⟨w.heap.size,0,none⟩),.int .u64 150] 214)).alloc (.cells #[.pointer (some ⟨fb,0,none⟩)] 116)).heap[tb]? =some (.cells #[old] 116):=by
  rw[Below.heap_alloc _ _ _ (by simp[a];omega),Below.heap_alloc _ _ _ (by omega)];unfold asW;rw[Below.heap_alloc _ _ _ (by simp;omega),Below.heap_alloc _ _ _ j];exact ht0
 obtain⟨n,p⟩:=aj e;have h:=DW ⟨tb,0,none⟩ ⟨w.heap.size+1+1+1,0,none⟩ ⟨fb,0,none⟩ old (((asW ⟨tb,0,none⟩ w).alloc (.cells #[.pointer (some ⟨31,121,none⟩),.pointer (some ⟨w.heap.size,0,none⟩),.int .u64 150] 214)).alloc (.cells #[.pointer (some ⟨fb,0,none⟩)] 116)) (by rw[World.cell?_alloc_at _ _ _ _ (by simp[a])];rfl) n p;clear e n p a;have l:=ae b;clear m b d;unfold asW at f i g h l;go_enter func67,ntmps67;go_wp2;refine wp_loop_rounds 1 ?_;rw[rounds_succ];go_wp2;go_ret;exact⟨rfl,l.o.setCell (fun _=>rfl) _⟩
theorem Bi(eb:Addr)(tb:Nat)(old:Value)(w:World)(hg:w.cell? ⟨9,0,none⟩=some (.iface 289 ((Value.agg #[Value.pointer (some (Addr.mk 31 61 none))]))))(ht0:w.heap[tb]? =some (.cells #[old] 116)):
  Calls prog 67 #[ax eb,.iface 121 (.pointer (some ⟨tb,0,none⟩))] w fun ev w'=>ev=.returned (.bool false)∧Kp (fun _=>False) w w':=by
 have n:=pP;have d:=nI;have o:=wn;have p:=iK;have q:=iI;have r:=iJ;have s:=fK;have t:=tX;have u:=tY;have v:=wj;have e:=wm;have f:=wi;have g:=kV;have b:=tW ⟨w.heap.size,0,none⟩ ⟨tb,0,none⟩ (asW ⟨tb,0,none⟩ w) (by unfold asW;simp);have a:=bk hg;have m:=ag ht0
 have c:(asW ⟨tb,0,none⟩ w).cell? ⟨9,0,none⟩=some (.iface 289 ((Value.agg #[Value.pointer (some (Addr.mk 31 61 none))]))):=by
  unfold asW;rw[World.cell?_alloc_lt _ _ ⟨9,0,none⟩ (by simp at a ⊢;omega),World.cell?_alloc_lt _ _ ⟨9,0,none⟩ a];exact hg
 have h:=Da;have i:=cH;have j:=md;have k:=dD;have l:=cY;unfold asW at b c;unfold ax;go_enter func67,ntmps67;go_wp2;refine wp_loop_rounds 1 ?_;rw[rounds_succ];go_wp2;go_ret;exact⟨rfl,(((Kp.refl _ _).alloc _).alloc _).alloc _⟩
end
end Go.Proofs.YtocligpfmfmihaaGreatDoor
