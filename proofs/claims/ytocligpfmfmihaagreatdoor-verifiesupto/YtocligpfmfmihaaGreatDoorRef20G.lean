import Derived.Test.YtocligpfmfmihaaGreatDoorRef16G
import Derived.Test.YtocligpfmfmihaaGreatDoorRef11G
import Derived.Test.YtocligpfmfmihaaGreatDoorCanG
import Derived.Deep.CutRange
set_option maxHeartbeats 4000000
set_option maxRecDepth 20000
namespace Go.Proofs.YtocligpfmfmihaaGreatDoor
open Go.Proofs.Tryz
section
open Go Go.RowKit Go.Maps
def aP:J→Nat | .null=>110 | .bool true=>116 | .bool false=>102 | .num _=>35 | .str _=>34 | .arr _=>91 | .obj _=>123
theorem RR.kind{w:World}{F:Nat→Prop}{j:J}{b:Nat}(h:RR w F j b):∃n t K L,w.heap[b]? =some (ar (aP j) n t K L):=by
 cases h with
 |null hF h=>exact⟨_,_,_,_,h⟩
 |tt hF h=>exact⟨_,_,_,_,h⟩
 |ff hF h=>exact⟨_,_,_,_,h⟩
 |num n hn hF h=>exact⟨_,_,_,_,h⟩
 |str t hF h=>exact⟨_,_,_,_,h⟩
 |arr x L hF h=>exact⟨_,_,_,_,h⟩
 |obj x K L hF h=>exact⟨_,_,_,_,h⟩
def RoR(w:World)(l:Bs)(e:Ending)(w':World):Prop:=
 Kp (fun _=>False) w w'∧((∃n:Nat,n≠0∧aM l=.error n∧e=.returned (.tuple #[.pointer none,.int .i64 (n:Int)])) ∨
   (∃o b,aM l=.ok o∧(cJ (.obj o)).length≤600∧e=.returned (.tuple #[.pointer (some ⟨b,0,none⟩),.int .i64 0])∧RR w' (fun c=>w.heap.size≤c∧c < w'.heap.size) (.obj o) b))
theorem gN(W:World)(hG:GL W)(s:ByteArray)(w:World)(ho:Below W.heap.size W w):
  Calls prog 41 #[.string s] w fun e w'=>RoR w s.data.toList e w':=by
 go_enter func41,ntmps41;go_wp2_with fail
 refine (z7 W hG s w ho).mono ?_;have a:s.data.toList.length=s.size:=Array.length_toList;rintro e w1 ⟨K1,(⟨h6,rfl⟩ | ⟨h6,hp,rfl⟩ | ⟨h6,j,b,hp,rfl,hr⟩)⟩
 ·have c:Hid (aM s.data.toList=.error 1):=by show _=_;unfold aM eh;rw[if_pos (by omega)]
  clear a;go_wp2;go_ret2
  exact⟨K1,Or.inl ⟨1,by decide,c.o,rfl⟩⟩
 ·have c:Hid (aM s.data.toList=.error 2):=by show _=_;unfold aM eh;rw[if_neg (by omega),hp]
  clear a hp;go_wp2;go_ret2
  exact⟨K1,Or.inl ⟨2,by decide,c.o,rfl⟩⟩
 ·have d:=(eD hp).2
  have h:eh s.data.toList=.ok j:=by unfold eh;rw[if_neg (by omega),hp]
  obtain⟨n,t,K,L,g⟩:=hr.kind;by_cases f:aP j=123
  ·obtain⟨o,rfl⟩:∃o,j=.obj o:=by
    cases j with
    |obj o=>exact⟨o,rfl⟩
    |bool b=>cases b <;> cases f
    |_=>cases f
   have c:Hid (aM s.data.toList=.ok o):=by show _=_;unfold aM;rw[h]
   have k:=ae (An hr (An d a));rw[f]at g;obtain⟨v0,m,v2,v3,v4,z0,p,z2,z3,z4,i⟩:=aw g;clear h hp hr d a f;go_wp2;go_ret2
   exact⟨K1,Or.inr ⟨o,b,c.o,by have:=k.o.2;omega,rfl,k.o.1⟩⟩
  ·have c:Hid (aM s.data.toList=.error 3):=by
    show _=_
    unfold aM;rw[h]
    cases j with
    |obj o=>exact absurd rfl f
    |_=>rfl
   obtain⟨v0,m,v2,v3,v4,z0,p,z2,z3,z4,i⟩:=aw g;have l:(((aP j:Nat):Int) != 123)=true:=by simp;omega
   clear h hp hr d a g;generalize aP j=kd at *;go_wp2;go_ret2
   exact⟨K1,Or.inl ⟨3,by decide,c.o,rfl⟩⟩
theorem kX{α:Type}(k a:Bs)(v:α)(h:a≠k):∀(l:List (Bs×α)),Srt l→bo k (aC a v l)=aC a v (bo k l)
 | [],_=>by simp[aC,bo,h]
 | (c,x) :: l,hs=>by
  obtain⟨g,i⟩:=List.pairwise_cons.1 hs;have f:=kX k a v h l i;unfold bo at f ⊢;rw[aC];by_cases b:a < c
  ·rw[if_pos b]
   by_cases e:c=k
   ·subst e
    simp only[List.filter_cons,h,decide_false,Bool.not_false,if_true,decide_true,Bool.not_true,Bool.false_eq_true,if_false]
    cases hl:l.filter (fun p=> !decide (p.1=c)) with
    |nil=>rfl
    |cons p q=>
     have hp:p ∈ l:=(List.mem_filter.1 (by rw[hl];simp)).1;rw[aC,if_pos (kC b (g p hp))]
   ·simp only[List.filter_cons,h,e,decide_false,Bool.not_false,if_true]
    rw[aC,if_pos b]
  ·rw[if_neg b]
   by_cases d:c=a
   ·rw[if_pos d]
    subst d;simp only[List.filter_cons,h,decide_false,Bool.not_false,if_true];rw[aC,if_neg b,if_pos rfl]
   ·rw[if_neg d]
    by_cases e:c=k
    ·simp only[List.filter_cons,e,decide_true,Bool.not_true,Bool.false_eq_true,if_false]
     exact f
    ·simp only[List.filter_cons,e,decide_false,Bool.not_false,if_true]
     rw[aC,if_neg b,if_neg d,f]
theorem kI{α:Type}(k:Bs)(m:List (Bs×α)):ofL (m.filter fun p=> !decide (p.1=k))=bo k (ofL m):=by
 have:∀n (m:List (Bs×α)),m.length=n→ofL (m.filter fun p=> !decide (p.1=k))=bo k (ofL m):=by
  intro n
  induction n with
  |zero=>intro m c;obtain rfl:=List.eq_nil_of_length_eq_zero c;rfl
  |succ n d=>
   intro m c;have b:m≠[]:=by intro e;subst e;simp at c
   obtain⟨l,p,rfl⟩:∃l p,m=l ++[p]:=⟨m.dropLast,m.getLast b,(List.dropLast_concat_getLast b).symm⟩;obtain⟨a,x⟩:=p;have d:=d l (by simpa using c);rw[eY,List.filter_append];by_cases h:a=k
   ·subst h
    rw[wC,←d];simp
   ·rw[kX k a x h _ (fR _),←d,←eY]
    simp[h]
 exact this m.length m rfl
structure BaI(lo vb:Nat)(y:List (Bs×Nat))(K L:Value)(w:World):Prop where
 blk:w.heap[vb]? =some (ar 123 0 [] K L)
 rowK:w.ownsRow lo 9 1 K y.length (y.map fun p=>.string ⟨p.1.toArray⟩)
 rowL:w.ownsRow lo 66 1 L y.length (y.map fun p=>ptr p.2)
 ownK:∀k,K.ownBlock=some k→k≠vb
 ownL:∀k,L.ownBlock=some k→k≠vb
 kl:∀k,K.ownBlock=some k→L.ownBlock≠some k
structure BaK(lo vb:Nat)(y:List (Bs×Nat))(a:Bs)(K L:Value)(w:World):Prop where
 blk:w.heap[vb]? =some (ar 123 0 [] K L)
 rowK:w.ownsRow lo 9 1 K (y.length+1) ((y.map fun p=>.string ⟨p.1.toArray⟩) ++[.string ⟨a.toArray⟩])
 rowL:w.ownsRow lo 66 1 L y.length (y.map fun p=>ptr p.2)
 ownK:∀k,K.ownBlock=some k→k≠vb
 ownL:∀k,L.ownBlock=some k→k≠vb
 kl:∀k,K.ownBlock=some k→L.ownBlock≠some k
theorem BaI.key{lo vb:Nat}{y:List (Bs×Nat)}{a:Bs}{K L K':Value}{w5 w6:World}(h:BaI lo vb y K L w5)(B:Kp (fun k=>K.ownBlock=some k) w5 w6)
  (y1:w6.ownsRow lo 9 1 K' (y.length+1) ((y.map fun p=>.string ⟨p.1.toArray⟩) ++[.string ⟨a.toArray⟩])) (g:K'.ownBlock=K.ownBlock∨∃q,w5.heap.size≤q∧K'.ownBlock=some q) :
  BaK lo vb y a K' L (w6.setCell ⟨vb,3,none⟩ K'):=by
 have d:=ag h.blk
 have c:∀k,K'.ownBlock=some k→k≠vb∧L.ownBlock≠some k:=by
  intro k b;rcases g with e | ⟨q,i,e⟩
  ·rw[e]at b
   exact⟨h.ownK k b,h.kl k b⟩
  ·rw[e]at b
   injection b with b
   exact⟨by omega,fun hl=>by have:=(h.rowL.lt k hl).2;omega⟩
 have f:w6.heap[vb]? =some (ar 123 0 [] K L):=(B.block vb d (fun e=>h.ownK _ e rfl)).trans h.blk;refine⟨?_, ?_, ?_,fun k b=>(c k b).1,h.ownL,fun k b=>(c k b).2⟩
 ·simp[World.setCell,Array.getElem?_modify,f,ar]
 ·exact ap y1 fun k b=>af (c k b).1
 ·refine ap h.rowL fun k b=> ?_
  rw[af (h.ownL k b),B.block k (h.rowL.lt k b).2 (fun e=>h.kl k e b)]
theorem BaK.more{lo vb b:Nat}{y:List (Bs×Nat)}{a:Bs}{K L L':Value}{w7 w8:World}(h:BaK lo vb y a K L w7)(B:Kp (fun k=>L.ownBlock=some k) w7 w8)
  (y1:w8.ownsRow lo 66 1 L' (y.length+1) ((y.map fun p=>ptr p.2) ++[ptr b])) (i:L'.ownBlock=L.ownBlock∨∃q,w7.heap.size≤q∧L'.ownBlock=some q) :
  BaI lo vb (y ++[(a,b)]) K L' (w8.setCell ⟨vb,4,none⟩ L'):=by
 have f:=ag h.blk
 have d:∀k,L'.ownBlock=some k→k≠vb∧K.ownBlock≠some k:=by
  intro k c;rcases i with e | ⟨q,j,e⟩
  ·rw[e]at c
   exact⟨h.ownL k c,fun e=>h.kl k e c⟩
  ·rw[e]at c
   injection c with c
   exact⟨by omega,fun e=>by have:=(h.rowK.lt k e).2;omega⟩
 have g:w8.heap[vb]? =some (ar 123 0 [] K L):=(B.block vb f (fun e=>h.ownL _ e rfl)).trans h.blk;refine⟨?_, ?_, ?_,h.ownK,fun k c=>(d k c).1,fun k c e=>(d k e).2 c⟩
 ·simp[World.setCell,Array.getElem?_modify,g,ar]
 ·rw[List.length_append,List.map_append]
  refine ap h.rowK fun k c=> ?_
  rw[af (h.ownK k c),B.block k (h.rowK.lt k c).2 (fun e=>h.kl k c e)]
 ·rw[List.length_append,List.map_append]
  exact ap y1 fun k c=>af (d k c).1
theorem q9(w:World)(key:Bs)(po:Option Addr)(a:po=none∨∃b kind n t K L,po=some ⟨b,0,none⟩∧w.heap[b]? =some (ar kind n t K L)∧kind≠123):
  Calls prog 45 #[.pointer po,.string ⟨key.toArray⟩] w fun e w'=>e=.returned (.pointer none)∧w'=w:=by
 rcases a with rfl | ⟨b,kind,n,t,K,L,rfl,h,f⟩
 ·go_enter func45,ntmps45
  go_wp2;go_ret;exact⟨rfl,rfl⟩
 ·obtain⟨v0,g,v2,v3,v4,z0,i,z2,z3,z4,d⟩:=aw h
  have c:((kind:Int) != 123)=true:=by simp;omega
  go_enter func45,ntmps45;go_wp2;go_ret;exact⟨rfl,rfl⟩
theorem pY{α:Type}(k:Bs)(v:α):∀(l:List (Bs×α)),Srt l→aC k v (bo k l)=aC k v l
 | [],_=>rfl
 | (c,x) :: l,hs=>by
  obtain⟨d,h⟩:=List.pairwise_cons.1 hs;have g:=pY k v l h;unfold bo at g ⊢;by_cases b:c=k
  ·subst b
   simp only[List.filter_cons,decide_true,Bool.not_true,Bool.false_eq_true,if_false]
   have f:l.filter (fun p=> !decide (p.1=c))=l:=by
    rw[List.filter_eq_self];intro p hp;have:p.1≠c:=fun e=>by have:=d p hp;rw[e]at this;exact dz _ this
    simp[this]
   rw[f,aC,if_neg (dz c),if_pos rfl]
   cases l with
   |nil=>rfl
   |cons p q=>rw[aC,if_pos (d p (by simp))]
  ·simp only[List.filter_cons,b,decide_false,Bool.not_false,if_true]
   rw[aC,aC];by_cases a:k < c
   ·rw[if_pos a,if_pos a]
    have f:l.filter (fun p=> !decide (p.1=k))=l:=by
     rw[List.filter_eq_self];intro p hp;have:p.1≠k:=fun e=>by have:=d p hp;rw[e]at this;exact dz _ (kC a this)
     simp[this]
    rw[f]
   ·rw[if_neg a,if_neg a,if_neg b,if_neg b,g]
theorem p7(key:Bs)(x:List (Bs×J×Nat)):(ai key (x.map fun p=>(p.1,p.2.2))=none∧ai key (x.map fun p=>(p.1,p.2.1))=none) ∨
  ∃j c,(key,j,c) ∈ x∧ai key (x.map fun p=>(p.1,p.2.2))=some c∧ai key (x.map fun p=>(p.1,p.2.1))=some j:=by
 induction x with
 |nil=>exact Or.inl ⟨rfl,rfl⟩
 |cons p x b=>
  obtain⟨a,j,c⟩:=p;simp only[List.map_cons,ai];by_cases h:a=key
  ·subst h
   exact Or.inr ⟨j,c,by simp,by simp,by simp⟩
  ·simp only[if_neg h]
   rcases b with b | ⟨g,d,e,f⟩
   ·exact Or.inl b
   ·exact Or.inr ⟨g,d,by simp[e],f⟩
theorem rT{w w':World}{F G:Nat→Prop}{lo xb:Nat}{key:Bs}{jx:J}{x:List (Bs×J×Nat)}{K L:Value}(hN:Nod (x.map fun p=>(p.1,p.2.1)))
  (A:BaI lo lo ((x.map fun p=>(p.1,p.2.2)).filter (fun p=> !decide (p.1=key)) ++[(key,xb)]) K L w') (hx:∀a j c,(a,j,c) ∈ x→RR w F j c) (ht:RR w G jx xb) (hF:∀k,F k→w'.heap[k]? =w.heap[k]? ∧k < w'.heap.size) (hG:∀k,G k→w'.heap[k]? =w.heap[k]? ∧k < w'.heap.size) :
  RR w' (fun c=>c < w'.heap.size) (.obj (aC key jx (ofL (x.map fun p=>(p.1,p.2.1))))) lo:=by
 have f:((x.map fun p=>(p.1,p.2.2)).filter (fun p=> !decide (p.1=key)) ++[(key,xb)])=((x.filter fun p=> !decide (p.1=key)) ++[(key,jx,xb)]).map fun p=>(p.1,p.2.2):=by
  rw[List.filter_map,List.map_append];rfl
 have e:ofL (((x.filter fun p=> !decide (p.1=key)) ++[(key,jx,xb)]).map fun p=>(p.1,p.2.1))=aC key jx (ofL (x.map fun p=>(p.1,p.2.1))):=by
  rw[List.map_append,List.map_cons,List.map_nil,eY]
  have:(x.filter fun p=> !decide (p.1=key)).map (fun p=>(p.1,p.2.1))=(x.map fun p=>(p.1,p.2.1)).filter (fun p=> !decide (p.1=key)):=by
   rw[List.filter_map];rfl
  rw[this,kI,pY _ _ _ (fR _)]
 rw[←e];rw[f]at A;refine .obj _ K L (ag A.blk) A.blk ?_ ?_ (fun k hk=>(A.rowK.lt k hk).2) (fun k hk=>(A.rowL.lt k hk).2) ?_ ?_
 ·have:=dN A.rowK
  simpa only [List.length_map,List.map_map,Function.comp_def] using this
 ·have:=dN A.rowL
  simpa only [List.length_map,List.map_map,Function.comp_def] using this
 ·rw[List.map_append,List.map_cons,List.map_nil]
  refine (eV _ key jx).2 ⟨?_, ?_⟩
  ·have d:((x.filter fun p=> !decide (p.1=key)).map fun p=>(p.1,p.2.1)).Sublist (x.map fun p=>(p.1,p.2.1)):=List.filter_sublist.map _
   unfold Nod at hN ⊢;exact (d.map (fun q:Bs×J=>q.1)).nodup hN
  ·rw[oB]
   intro p hp;obtain⟨q,g,rfl⟩:=List.mem_map.1 hp;have:=(List.mem_filter.1 g).2;simpa using this
 ·intro a j c b
  rcases List.mem_append.1 b with h | h
  ·exact (hx a j c (List.mem_filter.1 h).1).frame (fun k hk=>(hF k hk).1) (fun k hk=>(hF k hk).2)
  ·obtain⟨rfl,rfl,rfl⟩:a=key∧j=jx∧c=xb:=by simpa using h
   exact ht.frame (fun k hk=>(hG k hk).1) (fun k hk=>(hG k hk).2)
def ec(p:Bs×Nat):Bool:= !decide (p.1=kSig) && !decide (p.1=fV)
theorem Cm(w:World)(b:Nat)(x:List (Bs×Nat))(K L:Value)(h:w.heap[b]? =some (ar 123 0 [] K L))
  (hK:w.ownsRow 0 9 1 K x.length (x.map fun p=>.string ⟨p.1.toArray⟩)) (hL:w.ownsRow 0 66 1 L x.length (x.map fun p=>ptr p.2)) (hxl:x.length≤1000000)
  (j:J) (ht:∀t m w1,Kp (fun _=>False) w w1→BaI w.heap.size w.heap.size (x.filter ec) t m w1→Calls prog 38 #[.pointer (some ⟨w.heap.size,0,none⟩)] w1 fun e w2=>e=.returned (.string ⟨(cJ j).toArray⟩)∧Kp (fun _=>False) w1 w2) :
  Calls prog 42 #[.pointer (some ⟨b,0,none⟩)] w fun e w'=>e=.returned (.string ⟨(cJ j).toArray⟩)∧Kp (fun _=>False) w w':=by
 obtain⟨i0,hi,al,am,an⟩:=info_parts jI;obtain⟨i1,hj,ah,ai,aj⟩:=info_parts ew;have ap:=ag h;have HT:=ae ht;clear ht;have I0:=heap_alloc_new w (ar 123 0 [] (.slice none 0 0) (.slice none 0 0))
 have A0:BaI w.heap.size w.heap.size [] (.slice none 0 0) (.slice none 0 0) (w.alloc (ar 123 0 [] (.slice none 0 0) (.slice none 0 0))):=
  ⟨I0,World.ownsRow_nil _ _ _ _,World.ownsRow_nil _ _ _ _,fun k hk=>(by simp[Value.ownBlock]at hk),fun k hk=>(by simp[Value.ownBlock]at hk),fun k hk=>(by simp[Value.ownBlock]at hk)⟩
 have K0:Kp (fun _=>False) w (w.alloc (ar 123 0 [] (.slice none 0 0) (.slice none 0 0))):=(Kp.refl _ _).alloc _;obtain⟨ka,kc,rfl⟩:=aE hK;obtain⟨la,lc,rfl⟩:=aE hL
 have M:∀i p,x[i]? =some p→∃g,ka=some ⟨g,0,none⟩∧g < w.heap.size∧w.cell? ⟨g,i,none⟩=some (.string ⟨p.1.toArray⟩):=by
  intro i p hp;have d:=(List.getElem?_eq_some_iff.1 hp).1;obtain⟨_,⟨e,e0⟩ | ⟨g,aa,ab,e,_⟩⟩:=id hK
  ·omega
  ·injection e with e1 e2 e3
   subst e1;exact⟨g,rfl,(hK.lt g rfl).2,aL hK i _ (by rw[List.getElem?_map,hp];rfl)⟩
 have N:∀i p,x[i]? =some p→∃g,la=some ⟨g,0,none⟩∧g < w.heap.size∧w.cell? ⟨g,i,none⟩=some (ptr p.2):=by
  intro i p hp;have d:=(List.getElem?_eq_some_iff.1 hp).1;obtain⟨_,⟨e,e0⟩ | ⟨g,aa,ab,e,_⟩⟩:=id hL
  ·omega
  ·injection e with e1 e2 e3
   subst e1;exact⟨g,rfl,(hL.lt g rfl).2,aL hL i _ (by rw[List.getElem?_map,hp];rfl)⟩
 have CK:=ae (An M N);clear M N hK hL I0;go_enter func42,ntmps42;go_wp2_with fail
 go_loopg [4] x.length (fun gg a wr=>∃(i:Nat) (t m:Value),gg=x.length - i∧i≤x.length∧a=.int .i64 (i:Int)∧Kp (fun _=>False) w wr∧BaI w.heap.size w.heap.size ((x.take i).filter ec) t m wr)
 case atStart=>exact⟨0,_,_,rfl,by omega,rfl,K0,A0⟩
 case round=>
  clear A0 K0;obtain⟨i,t,m,hg,aq,rfl,v,s⟩:=hrel;have HG:=ae hg;clear hg;obtain⟨o0,o1,o2,o3,o4,p0,p1,p2,p3,p4,A⟩:=aw (vkp h v);by_cases d:i < x.length
  ·have P:(i:Int) < (x.length:Int):=by omega
   obtain⟨p,hp⟩:∃p,x[i]? =some p:=⟨x[i],List.getElem?_eq_getElem d⟩;obtain⟨kg,rfl,ac,ck⟩:=CK.o.1 i p hp;obtain⟨lg,rfl,O,cl⟩:=CK.o.2 i p hp;have G:=(v.cell (p:=⟨kg,i,none⟩) ac (by simp)).trans ck;have H:=(v.cell (p:=⟨lg,i,none⟩) O (by simp)).trans cl;have Q:x.take (i+1)=x.take i ++[p]:=by rw[List.take_succ_eq_append_getElem d,(List.getElem?_eq_some_iff.1 hp).2]
   have HP:=ae (An hp Q);clear hp Q;by_cases F:p.1=kSig
   ·have ad:(p.1 == [115,105,103,110,97,116,117,114,101,115])=true:=by simpa[kSig] using F
    have HS:=ae F;clear F;go_wp2;go_roundg (x.length - (i+1))
    case measure=>rw[HG.o];omega
    case rel=>
     refine⟨i+1,t,m,rfl,by omega,ak (by omega),v, ?_⟩;rw[HP.o.2,List.filter_append];have:ec p=false:=by simp[ec,HS.o]
     simpa[this] using s
   ·have ad:(p.1 == [115,105,103,110,97,116,117,114,101,115])=false:=by simpa[kSig] using F
    have HS:=ae F;clear F;by_cases n:p.1=fV
    ·have af:(p.1 == [117,110,115,105,103,110,101,100])=true:=by simpa[fV] using n
     have HU:=ae n;clear n;go_wp2;go_roundg (x.length - (i+1))
     case measure=>rw[HG.o];omega
     case rel=>
      refine⟨i+1,t,m,rfl,by omega,ak (by omega),v, ?_⟩;rw[HP.o.2,List.filter_append];have:ec p=false:=by simp[ec,HU.o]
      simpa[this] using s
    ·have af:(p.1 == [117,110,115,105,103,110,101,100])=false:=by simpa[fV] using n
     have HU:=ae n;clear n;have av:((x.take i).filter ec).length≤1000000:=Nat.le_trans (List.length_filter_le _ _) (by rw[List.length_take];omega);generalize hyy:(x.take i).filter ec=y at *;have HY:=ae hyy;clear hyy;obtain⟨W,X,n2,Y,n4,q0,q1,q2,q3,q4,l⟩:=aw s.blk;have au:=v.size;go_upto_region 6 with fail
     go_cut [] from 7 to 65 (fun wx=>∃z c,BaK w.heap.size w.heap.size y p.1 (.slice (some ⟨z,0,none⟩) (y.length+1) c) m wx∧Kp (fun _=>False) w wx)
     case first=>
      go_region_law (refine dp rfl (.tmp 38) (.tmp 46) 36 rfl w.heap.size 9 i1 (.string ⟨#[]⟩) 1 16 underlying36 hj ah ai aj rfl (by decide) t y.length (y.map fun p=>.string ⟨p.1.toArray⟩) (by simp[Act.eval]) (by exact World.ownsRow.alloc s.rowK _) ⟨wr.heap.size,0,none⟩ 1 1 [.string ⟨p.1.toArray⟩] (by simp[Act.eval]) rfl (by exact cell_one_new wr _ _) (by intro u n;simp at n;subst n;rfl) (by unfold maxLen;omega) (by omega) (by simp;omega) ?_;intro v' w3 D R S;obtain⟨z,c,rfl⟩:=aK D;have T:Kp (fun k=>t.ownBlock=some k) wr w3:=(((Kp.refl _ wr).drew).alloc _).grown R (fun k hk _=>hk);have i3:w3.heap[w.heap.size]? =some (ar 123 0 [] t m):=(T.block _ l (fun e=>s.ownK _ e rfl)).trans s.blk;obtain⟨m0,m1,m2,m3,m4,r0,r1,r2,r3,r4,C⟩:=aw i3)
      all_goals
       have r:(Value.slice (some ⟨z,0,none⟩) (y.length+1) c).ownBlock=t.ownBlock∨∃q,wr.heap.size≤q∧(Value.slice (some ⟨z,0,none⟩) (y.length+1) c).ownBlock=some q:=by
        rcases S with e | e
        ·exact Or.inl e
        ·exact Or.inr ⟨_,by simp,e⟩
       have B:=s.key T D r
       have E:Kp (fun _=>False) w (w3.setCell ⟨w.heap.size,3,none⟩ (.slice (some ⟨z,0,none⟩) (y.length+1) c)):=
        Kp.setCell (p:=⟨w.heap.size,3,none⟩) (v.and T (fun i hi e=>by have:=(s.rowK.lt i e).1;omega)) (fun d=>by exact absurd d (by show ¬w.heap.size < _;omega)) _
       clear r D R S T i3 W X n2 Y n4 q0 q1 q2 q3 q4 l o0 o1 o2 o3 o4 p0 p1 p2 p3 p4 A G H m0 m1 m2 m3 m4 r0 r1 r2 r3 r4 C;go_wp2_with fail
       go_meet
       exact⟨z,c,B,E⟩
     case rest=>
      obtain⟨z,c,B,E⟩:=hcut;clear W X n2 Y n4 q0 q1 q2 q3 q4 l o0 o1 o2 o3 o4 p0 p1 p2 p3 p4 A G H;obtain⟨o0,o1,o2,o3,o4,p0,p1,p2,p3,p4,A⟩:=aw (vkp h E);have I:=(E.cell (p:=⟨lg,i,none⟩) O (by simp)).trans cl;unfold ptr at I;obtain⟨W,X,n2,Y,n4,q0,q1,q2,q3,q4,l⟩:=aw B.blk;have ao:=E.size;go_wp2_with fail
      go_region_law (refine dp rfl (.tmp 54) (.tmp 62) 78 rfl w.heap.size 66 i0 (.pointer none) 1 8 underlying78 hi al am an rfl (by decide) m y.length (y.map fun p=>ptr p.2) (by simp[Act.eval]) (by exact World.ownsRow.alloc B.rowL _) ⟨wc.heap.size,0,none⟩ 1 1 [ptr p.2] (by simp[Act.eval]) rfl (by exact cell_one_new wc _ _) (by intro u n;simp at n;subst n;rfl) (by unfold maxLen;omega) (by omega) (by simp;omega) ?_;intro v' w5 D R S;obtain⟨V,f,rfl⟩:=aK D;have U:Kp (fun k=>m.ownBlock=some k) wc w5:=(((Kp.refl _ wc).drew).alloc _).grown R (fun k hk _=>hk);have i5:w5.heap[w.heap.size]? =some (ar 123 0 [] (.slice (some ⟨z,0,none⟩) (y.length+1) c) m):=(U.block _ l (fun e=>B.ownL _ e rfl)).trans B.blk;obtain⟨m0,m1,m2,m3,m4,r0,r1,r2,r3,r4,C⟩:=aw i5)
      all_goals
       have r:(Value.slice (some ⟨V,0,none⟩) (y.length+1) f).ownBlock=m.ownBlock∨∃q,wc.heap.size≤q∧(Value.slice (some ⟨V,0,none⟩) (y.length+1) f).ownBlock=some q:=by
        rcases S with e | e
        ·exact Or.inl e
        ·exact Or.inr ⟨_,by simp,e⟩
       have A5:=B.more U D r
       have K5:Kp (fun _=>False) w (w5.setCell ⟨w.heap.size,4,none⟩ (.slice (some ⟨V,0,none⟩) (y.length+1) f)):=
        Kp.setCell (p:=⟨w.heap.size,4,none⟩) (E.and U (fun i hi e=>by have:=(B.rowL.lt i e).1;omega)) (fun d=>by exact absurd d (by show ¬w.heap.size < _;omega)) _
       have Z:=ae (An A5 K5);clear r D R S U i5 A5 K5 W X n2 Y n4 q0 q1 q2 q3 q4 l o0 o1 o2 o3 o4 p0 p1 p2 p3 p4 A I m0 m1 m2 m3 m4 r0 r1 r2 r3 r4 C;go_wp2;go_roundg (x.length - (i+1))
       case measure=>rw[HG.o];omega
       case rel=>
        refine⟨i+1,.slice (some ⟨z,0,none⟩) (y.length+1) c,.slice (some ⟨V,0,none⟩) (y.length+1) f,rfl,by omega,ak (by omega),Z.o.2, ?_⟩;rw[HP.o.2,List.filter_append,HY.o];have:ec p=true:=by simp[ec,HS.o,HU.o]
        simp only[List.filter_cons,this,if_true,List.filter_nil];exact Z.o.1
  ·have P:¬(i:Int) < (x.length:Int):=by omega
   rw[List.take_of_length_le (by omega)]at s;go_wp2_with fail
   refine (HT.o _ _ _ v s).mono ?_;rintro e w2 ⟨rfl,K2⟩;go_wp2;go_ret;exact⟨rfl,v.trans K2⟩
def gF(key:Bs)(p:Bs×Nat):Bool:= !decide (p.1=key)
def PuR(w:World)(key:Bs)(xb:Nat)(x:List (Bs×Nat))(e:Ending)(w':World):Prop:=
 e=.returned (.pointer (some ⟨w.heap.size,0,none⟩))∧Kp (fun _=>False) w w'∧∃K L,BaI w.heap.size w.heap.size (x.filter (gF key) ++[(key,xb)]) K L w'
theorem DJ(w:World)(b xb:Nat)(key:Bs)(x:List (Bs×Nat))(K L:Value)(h:w.heap[b]? =some (ar 123 0 [] K L))
  (hK:w.ownsRow 0 9 1 K x.length (x.map fun p=>.string ⟨p.1.toArray⟩)) (hL:w.ownsRow 0 66 1 L x.length (x.map fun p=>ptr p.2)) (hxl:x.length≤1000000) :
  Calls prog 46 #[.pointer (some ⟨b,0,none⟩),.string ⟨key.toArray⟩,.pointer (some ⟨xb,0,none⟩)] w fun e w'=>PuR w key xb x e w':=by
 obtain⟨i0,W,ao,ap,aq⟩:=info_parts jI;obtain⟨i1,hj,al,am,an⟩:=info_parts ew;have aP:=ag h;have I0:=heap_alloc_new w (ar 123 0 [] (.slice none 0 0) (.slice none 0 0))
 have A0:BaI w.heap.size w.heap.size [] (.slice none 0 0) (.slice none 0 0) (w.alloc (ar 123 0 [] (.slice none 0 0) (.slice none 0 0))):=
  ⟨I0,World.ownsRow_nil _ _ _ _,World.ownsRow_nil _ _ _ _,fun k hk=>(by simp[Value.ownBlock]at hk),fun k hk=>(by simp[Value.ownBlock]at hk),fun k hk=>(by simp[Value.ownBlock]at hk)⟩
 have K0:Kp (fun _=>False) w (w.alloc (ar 123 0 [] (.slice none 0 0) (.slice none 0 0))):=(Kp.refl _ _).alloc _;obtain⟨ka,kc,rfl⟩:=aE hK;obtain⟨la,lc,rfl⟩:=aE hL
 have ad:∀i p,x[i]? =some p→∃g,ka=some ⟨g,0,none⟩∧g < w.heap.size∧w.cell? ⟨g,i,none⟩=some (.string ⟨p.1.toArray⟩):=by
  intro i p hp;have f:=(List.getElem?_eq_some_iff.1 hp).1;obtain⟨_,⟨e,e0⟩ | ⟨g,au,av,e,_⟩⟩:=id hK
  ·omega
  ·injection e with e1 e2 e3
   subst e1;exact⟨g,rfl,(hK.lt g rfl).2,aL hK i _ (by rw[List.getElem?_map,hp];rfl)⟩
 have af:∀i p,x[i]? =some p→∃g,la=some ⟨g,0,none⟩∧g < w.heap.size∧w.cell? ⟨g,i,none⟩=some (ptr p.2):=by
  intro i p hp;have f:=(List.getElem?_eq_some_iff.1 hp).1;obtain⟨_,⟨e,e0⟩ | ⟨g,au,av,e,_⟩⟩:=id hL
  ·omega
  ·injection e with e1 e2 e3
   subst e1;exact⟨g,rfl,(hL.lt g rfl).2,aL hL i _ (by rw[List.getElem?_map,hp];rfl)⟩
 have CK:=ae (An ad af);clear ad af hK hL I0;obtain⟨Y,o1,o2,o3,o4,p0,p1,p2,p3,p4,t⟩:=aw h;go_enter func46,ntmps46;go_wp2_with fail
 go_loopg [8] x.length (fun gg a wr=>∃(i:Nat) (B s:Value),gg=x.length - i∧i≤x.length∧a=.int .i64 (i:Int)∧Kp (fun _=>False) w wr∧BaI w.heap.size w.heap.size ((x.take i).filter (gF key)) B s wr)
 case atStart=>exact⟨0,_,_,rfl,by omega,rfl,K0,A0⟩
 case round=>
  clear A0 K0 Y o1 o2 o3 o4 p0 p1 p2 p3 p4 t;obtain⟨i,B,s,hg,aQ,rfl,Q,r⟩:=hrel;have HG:=ae hg;clear hg;obtain⟨Y,o1,o2,o3,o4,p0,p1,p2,p3,p4,t⟩:=aw (vkp h Q);by_cases f:i < x.length
  ·have ai:(i:Int) < (x.length:Int):=by omega
   obtain⟨p,hp⟩:∃p,x[i]? =some p:=⟨x[i],List.getElem?_eq_getElem f⟩;obtain⟨kg,rfl,ax,ck⟩:=CK.o.1 i p hp;obtain⟨lg,rfl,ah,cl⟩:=CK.o.2 i p hp;have aa:=(Q.cell (p:=⟨kg,i,none⟩) ax (by simp)).trans ck;have ab:=(Q.cell (p:=⟨lg,i,none⟩) ah (by simp)).trans cl;have aj:x.take (i+1)=x.take i ++[p]:=by rw[List.take_succ_eq_append_getElem f,(List.getElem?_eq_some_iff.1 hp).2]
   have HP:=ae (An hp aj);clear hp aj;by_cases X:p.1=key
   ·have ay:(p.1 == key)=true:=by simpa using X
    have HS:=ae X;clear X;go_wp2;go_roundg (x.length - (i+1))
    case measure=>rw[HG.o];omega
    case rel=>
     refine⟨i+1,B,s,rfl,by omega,ak (by omega),Q, ?_⟩;rw[HP.o.2,List.filter_append];have:(gF key) p=false:=by simp[gF,HS.o]
     simpa[this] using r
   ·have ay:(p.1 == key)=false:=by simpa using X
    have HS:=ae X;clear X;have aA:((x.take i).filter (gF key)).length≤1000000:=Nat.le_trans (List.length_filter_le _ _) (by rw[List.length_take];omega);generalize hyy:(x.take i).filter (gF key)=y at *;have HY:=ae hyy;clear hyy;obtain⟨D,E,n2,F,G,H,I,J,M,N,j⟩:=aw r.blk;have az:=Q.size;go_upto_region 7 with fail
    go_cut [] from 20 to 69 (fun wx=>∃m c,BaK w.heap.size w.heap.size y p.1 (.slice (some ⟨m,0,none⟩) (y.length+1) c) s wx∧Kp (fun _=>False) w wx)
    case first=>
     go_region_law (refine dp rfl (.tmp 42) (.tmp 50) 36 rfl w.heap.size 9 i1 (.string ⟨#[]⟩) 1 16 underlying36 hj al am an rfl (by decide) B y.length (y.map fun p=>.string ⟨p.1.toArray⟩) (by simp[Act.eval]) (by exact World.ownsRow.alloc r.rowK _) ⟨wr.heap.size,0,none⟩ 1 1 [.string ⟨p.1.toArray⟩] (by simp[Act.eval]) rfl (by exact cell_one_new wr _ _) (by intro u v;simp at v;subst v;rfl) (by unfold maxLen;omega) (by omega) (by simp;omega) ?_;intro v' w3 n z A;obtain⟨m,c,rfl⟩:=aK n;have B3:Kp (fun k=>B.ownBlock=some k) wr w3:=(((Kp.refl _ wr).drew).alloc _).grown z (fun k hk _=>hk);have i3:w3.heap[w.heap.size]? =some (ar 123 0 [] B s):=(B3.block _ j (fun e=>r.ownK _ e rfl)).trans r.blk;obtain⟨m0,m1,m2,m3,m4,r0,r1,r2,r3,r4,S⟩:=aw i3)
     all_goals
      have l:(Value.slice (some ⟨m,0,none⟩) (y.length+1) c).ownBlock=B.ownBlock∨∃q,wr.heap.size≤q∧(Value.slice (some ⟨m,0,none⟩) (y.length+1) c).ownBlock=some q:=by
       rcases A with e | e
       ·exact Or.inl e
       ·exact Or.inr ⟨_,by simp,e⟩
      have P:=r.key B3 n l
      have V:Kp (fun _=>False) w (w3.setCell ⟨w.heap.size,3,none⟩ (.slice (some ⟨m,0,none⟩) (y.length+1) c)):=
       Kp.setCell (p:=⟨w.heap.size,3,none⟩) (Q.and B3 (fun i W e=>by have:=(r.rowK.lt i e).1;omega)) (fun f=>by exact absurd f (by show ¬w.heap.size < _;omega)) _
      clear l n z A B3 i3 D E n2 F G H I J M N j Y o1 o2 o3 o4 p0 p1 p2 p3 p4 t aa ab m0 m1 m2 m3 m4 r0 r1 r2 r3 r4 S;go_wp2_with fail
      go_meet
      exact⟨m,c,P,V⟩
    case rest=>
     obtain⟨m,c,P,V⟩:=hcut;clear D E n2 F G H I J M N j Y o1 o2 o3 o4 p0 p1 p2 p3 p4 t aa ab;obtain⟨Y,o1,o2,o3,o4,p0,p1,p2,p3,p4,t⟩:=aw (vkp h V);have ac:=(V.cell (p:=⟨lg,i,none⟩) ah (by simp)).trans cl;unfold ptr at ac;obtain⟨D,E,n2,F,G,H,I,J,M,N,j⟩:=aw P.blk;have aO:=V.size;go_wp2_with fail
     go_region_law (refine dp rfl (.tmp 58) (.tmp 66) 78 rfl w.heap.size 66 i0 (.pointer none) 1 8 underlying78 W ao ap aq rfl (by decide) s y.length (y.map fun p=>ptr p.2) (by simp[Act.eval]) (by exact World.ownsRow.alloc P.rowL _) ⟨wc.heap.size,0,none⟩ 1 1 [ptr p.2] (by simp[Act.eval]) rfl (by exact cell_one_new wc _ _) (by intro u v;simp at v;subst v;rfl) (by unfold maxLen;omega) (by omega) (by simp;omega) ?_;intro v' w5 n z A;obtain⟨C,d,rfl⟩:=aK n;have B5:Kp (fun k=>s.ownBlock=some k) wc w5:=(((Kp.refl _ wc).drew).alloc _).grown z (fun k hk _=>hk);have i5:w5.heap[w.heap.size]? =some (ar 123 0 [] (.slice (some ⟨m,0,none⟩) (y.length+1) c) s):=(B5.block _ j (fun e=>P.ownL _ e rfl)).trans P.blk;obtain⟨m0,m1,m2,m3,m4,r0,r1,r2,r3,r4,S⟩:=aw i5)
     all_goals
      have l:(Value.slice (some ⟨C,0,none⟩) (y.length+1) d).ownBlock=s.ownBlock∨∃q,wc.heap.size≤q∧(Value.slice (some ⟨C,0,none⟩) (y.length+1) d).ownBlock=some q:=by
       rcases A with e | e
       ·exact Or.inl e
       ·exact Or.inr ⟨_,by simp,e⟩
      have A5:=P.more B5 n l
      have K5:Kp (fun _=>False) w (w5.setCell ⟨w.heap.size,4,none⟩ (.slice (some ⟨C,0,none⟩) (y.length+1) d)):=
       Kp.setCell (p:=⟨w.heap.size,4,none⟩) (V.and B5 (fun i W e=>by have:=(P.rowL.lt i e).1;omega)) (fun f=>by exact absurd f (by show ¬w.heap.size < _;omega)) _
      have Z:=ae (An A5 K5);clear l n z A B5 i5 A5 K5 D E n2 F G H I J M N j Y o1 o2 o3 o4 p0 p1 p2 p3 p4 t ac m0 m1 m2 m3 m4 r0 r1 r2 r3 r4 S;go_wp2;go_roundg (x.length - (i+1))
      case measure=>rw[HG.o];omega
      case rel=>
       refine⟨i+1,.slice (some ⟨m,0,none⟩) (y.length+1) c,.slice (some ⟨C,0,none⟩) (y.length+1) d,rfl,by omega,ak (by omega),Z.o.2, ?_⟩;rw[HP.o.2,List.filter_append,HY.o];have:(gF key) p=true:=by simp[gF,HS.o]
       simp only[List.filter_cons,this,if_true,List.filter_nil];exact Z.o.1
  ·have ai:¬(i:Int) < (x.length:Int):=by omega
   rw[List.take_of_length_le (by omega)]at r;have aA:(x.filter (gF key)).length≤1000000:=Nat.le_trans (List.length_filter_le _ _) hxl;generalize hyy:x.filter (gF key)=y at *;have HY:=ae hyy;clear hyy;obtain⟨D,E,n2,F,G,H,I,J,M,N,j⟩:=aw r.blk;have az:=Q.size;go_wp2_with (at_builtin;refine wpList_append_own_at _ rfl _ _ 36 rfl w.heap.size 9 i1 (.string ⟨#[]⟩) 1 16 underlying36 hj al am an rfl (by decide) _ _ _ rfl (r.rowK.alloc _) ⟨wr.heap.size,0,none⟩ 1 1 [.string ⟨key.toArray⟩] rfl rfl (cell_one_new _ _ _) (by intro u v;simp at v;subst v;rfl) (by unfold maxLen;omega) (by omega) (by first | omega | (simp;omega)) ?_)
   intro v' O n z _ A;obtain⟨m,c,rfl⟩:=aK n;have B6:Kp (fun k=>B.ownBlock=some k) wr O:=((Kp.refl _ _).alloc _).grown z (fun k hk _=>hk);have U:=r.key B6 n (ez A)
   have K7:Kp (fun _=>False) w (O.setCell ⟨w.heap.size,3,none⟩ (.slice (some ⟨m,0,none⟩) (y.length+1) c)):=
    Kp.setCell (p:=⟨w.heap.size,3,none⟩) (Q.and B6 (fun i W e=>by have:=(r.rowK.lt i e).1;omega)) (fun f=>by exact absurd f (by show ¬w.heap.size < _;omega)) _
   have i6:O.heap[w.heap.size]? =some (ar 123 0 [] B s):=(B6.block _ j (fun e=>r.ownK _ e rfl)).trans r.blk;have aR:w.heap.size≤O.heap.size:=by have:=B6.size;omega
   have T:(O.setCell ⟨w.heap.size,3,none⟩ (.slice (some ⟨m,0,none⟩) (y.length+1) c)).heap.size=O.heap.size:=by simp[World.setCell]
   clear D E n2 F G H I J M N j n z A B6;obtain⟨D,E,n2,F,G,H,I,J,M,N,j⟩:=aw i6;obtain⟨aB,aC,aD,aF,aG,aH,aI,aJ,aM,aN,R⟩:=aw U.blk;clear i6;go_wp2_with (at_builtin;refine wpList_append_own_at _ rfl _ _ 78 rfl w.heap.size 66 i0 (.pointer none) 1 8 underlying78 W ao ap aq rfl (by decide) _ _ _ rfl (U.rowL.alloc _) ⟨O.heap.size,0,none⟩ 1 1 [ptr xb] rfl rfl (by rw[←T];exact cell_one_new _ _ _) (by intro u v;simp at v;subst v;rfl) (by unfold maxLen;omega) (by omega) (by first | omega | (simp;omega)) ?_)
   intro v' w8 n z _ A;obtain⟨C,d,rfl⟩:=aK n;have B8:Kp (fun k=>s.ownBlock=some k) (O.setCell ⟨w.heap.size,3,none⟩ (.slice (some ⟨m,0,none⟩) (y.length+1) c)) w8:=((Kp.refl _ _).alloc _).grown z (fun k hk _=>hk)
   have l:(Value.slice (some ⟨C,0,none⟩) (y.length+1) d).ownBlock=s.ownBlock∨∃q,(O.setCell ⟨w.heap.size,3,none⟩ (.slice (some ⟨m,0,none⟩) (y.length+1) c)).heap.size≤q∧(Value.slice (some ⟨C,0,none⟩) (y.length+1) d).ownBlock=some q:=by
    rw[T];exact ez A
   have A9:=U.more B8 n l
   have K9:Kp (fun _=>False) w (w8.setCell ⟨w.heap.size,4,none⟩ (.slice (some ⟨C,0,none⟩) (y.length+1) d)):=
    Kp.setCell (p:=⟨w.heap.size,4,none⟩) (K7.and B8 (fun i W e=>by have:=(U.rowL.lt i e).1;omega)) (fun f=>by exact absurd f (by show ¬w.heap.size < _;omega)) _
   have i8:w8.heap[w.heap.size]? =some (ar 123 0 [] (.slice (some ⟨m,0,none⟩) (y.length+1) c) s):=(B8.block _ R (fun e=>U.ownL _ e rfl)).trans U.blk;have Z:=ae (An A9 K9);clear A9 K9 l n z A B8 D E n2 F G H I J M N j aB aC aD aF aG aH aI aJ aM aN R T;obtain⟨D,E,n2,F,G,H,I,J,M,N,j⟩:=aw i8;go_wp2;go_ret;exact⟨rfl,Z.o.2,.slice (some ⟨m,0,none⟩) (y.length+1) c,.slice (some ⟨C,0,none⟩) (y.length+1) d,by rw[HY.o];exact Z.o.1⟩
theorem CA(w:World)(xb:Nat)(key:Bs)(po:Option Addr)(ai:po=none∨∃b kind n t K L,po=some ⟨b,0,none⟩∧w.heap[b]? =some (ar kind n t K L)∧kind≠123):
  Calls prog 46 #[.pointer po,.string ⟨key.toArray⟩,.pointer (some ⟨xb,0,none⟩)] w fun e w'=>PuR w key xb [] e w':=by
 obtain⟨i0,hi,af,ag,ah⟩:=info_parts jI;obtain⟨i1,hj,ab,ac,ad⟩:=info_parts ew;have I0:=heap_alloc_new w (ar 123 0 [] (.slice none 0 0) (.slice none 0 0))
 have f:BaI w.heap.size w.heap.size [] (.slice none 0 0) (.slice none 0 0) (w.alloc (.cells #[.int .u8 123,.int .i64 0,.string ⟨#[]⟩,.slice none 0 0,.slice none 0 0] 80)):=
  ⟨I0,World.ownsRow_nil _ _ _ _,World.ownsRow_nil _ _ _ _,fun k r=>(by simp[Value.ownBlock]at r),fun k r=>(by simp[Value.ownBlock]at r),fun k r=>(by simp[Value.ownBlock]at r)⟩
 have K1:Kp (fun _=>False) w (w.alloc (.cells #[.int .u8 123,.int .i64 0,.string ⟨#[]⟩,.slice none 0 0,.slice none 0 0] 80)):=(Kp.refl _ _).alloc _;clear I0;obtain⟨y,hy⟩:∃y:List (Bs×Nat),y=[]:=⟨_,rfl⟩;rw[←hy]at f;have HY:=ae hy;have an:y.length≤1000000:=by rw[hy];simp
 clear hy;rcases ai with rfl | ⟨b,kind,n,t,K,L,rfl,h,r⟩
 ·go_enter func46,ntmps46
  go_upto_region 9 with fail
  generalize w.alloc (.cells #[.int .u8 123,.int .i64 0,.string ⟨#[]⟩,.slice none 0 0,.slice none 0 0] 80)=wr at *;generalize hKK:Value.slice none 0 0=K' at f;obtain⟨L',hLL,f⟩:∃L',L'=Value.slice none 0 0∧BaI w.heap.size w.heap.size y K' L' wr:=⟨_,rfl,by rw[←hKK]at f ⊢;exact f⟩;clear hKK hLL;obtain⟨F,G,n2,H,I,J,M,N,O,P,d⟩:=aw f.blk;have ak:=K1.size;go_wp2_with (at_builtin;refine wpList_append_own_at _ rfl _ _ 36 rfl w.heap.size 9 i1 (.string ⟨#[]⟩) 1 16 underlying36 hj ab ac ad rfl (by decide) _ _ _ rfl (f.rowK.alloc _) ⟨wr.heap.size,0,none⟩ 1 1 [.string ⟨key.toArray⟩] rfl rfl (cell_one_new _ _ _) (by intro u z;simp at z;subst z;rfl) (by unfold maxLen;omega) (by omega) (by first | omega | (simp;omega)) ?_)
  intro v' g m B _ C;obtain⟨v,a,rfl⟩:=aK m;have x:Kp (fun k=>K'.ownBlock=some k) wr g:=((Kp.refl _ _).alloc _).grown B (fun k r _=>r);have s:=f.key x m (ez C)
  have K7:Kp (fun _=>False) w (g.setCell ⟨w.heap.size,3,none⟩ (.slice (some ⟨v,0,none⟩) (y.length+1) a)):=
   Kp.setCell (p:=⟨w.heap.size,3,none⟩) (K1.and x (fun i hi e=>by have:=(f.rowK.lt i e).1;omega)) (fun hlt=>by exact absurd hlt (by show ¬w.heap.size < _;omega)) _
  have i6:g.heap[w.heap.size]? =some (ar 123 0 [] K' L'):=(x.block _ d (fun e=>f.ownK _ e rfl)).trans f.blk;have aj:w.heap.size≤g.heap.size:=by have:=x.size;omega
  have l:(g.setCell ⟨w.heap.size,3,none⟩ (.slice (some ⟨v,0,none⟩) (y.length+1) a)).heap.size=g.heap.size:=by simp[World.setCell]
  clear F G n2 H I J M N O P d m B C x;obtain⟨F,G,n2,H,I,J,M,N,O,P,d⟩:=aw i6;obtain⟨Q,R,S,T,U,V,W,X,Y,aa,j⟩:=aw s.blk;clear i6;go_wp2_with (at_builtin;refine wpList_append_own_at _ rfl _ _ 78 rfl w.heap.size 66 i0 (.pointer none) 1 8 underlying78 hi af ag ah rfl (by decide) _ _ _ rfl (s.rowL.alloc _) ⟨g.heap.size,0,none⟩ 1 1 [ptr xb] rfl rfl (by rw[←l];exact cell_one_new _ _ _) (by intro u z;simp at z;subst z;rfl) (by unfold maxLen;omega) (by omega) (by first | omega | (simp;omega)) ?_)
  intro v' w8 m B _ C;obtain⟨E,c,rfl⟩:=aK m;have D:Kp (fun k=>L'.ownBlock=some k) (g.setCell ⟨w.heap.size,3,none⟩ (.slice (some ⟨v,0,none⟩) (y.length+1) a)) w8:=((Kp.refl _ _).alloc _).grown B (fun k r _=>r)
  have A:(Value.slice (some ⟨E,0,none⟩) (y.length+1) c).ownBlock=L'.ownBlock∨∃q,(g.setCell ⟨w.heap.size,3,none⟩ (.slice (some ⟨v,0,none⟩) (y.length+1) a)).heap.size≤q∧(Value.slice (some ⟨E,0,none⟩) (y.length+1) c).ownBlock=some q:=by
   rw[l];exact ez C
  have A9:=s.more D m A
  have K9:Kp (fun _=>False) w (w8.setCell ⟨w.heap.size,4,none⟩ (.slice (some ⟨E,0,none⟩) (y.length+1) c)):=
   Kp.setCell (p:=⟨w.heap.size,4,none⟩) (K7.and D (fun i hi e=>by have:=(s.rowL.lt i e).1;omega)) (fun hlt=>by exact absurd hlt (by show ¬w.heap.size < _;omega)) _
  have i8:w8.heap[w.heap.size]? =some (ar 123 0 [] (.slice (some ⟨v,0,none⟩) (y.length+1) a) L'):=(D.block _ j (fun e=>s.ownL _ e rfl)).trans s.blk;have Z:=ae (An A9 K9);clear A9 K9 A m B C D F G n2 H I J M N O P d Q R S T U V W X Y aa j l;obtain⟨F,G,n2,H,I,J,M,N,O,P,d⟩:=aw i8;go_wp2;go_ret;exact⟨rfl,Z.o.2,.slice (some ⟨v,0,none⟩) (y.length+1) a,.slice (some ⟨E,0,none⟩) (y.length+1) c,by rw[HY.o]at *;simpa using Z.o.1⟩
 ·obtain⟨v0,v1,v2,v3,v4,z0,z1,z2,z3,z4,al⟩:=aw h
  have am:((kind:Int) == 123)=false:=by simp;omega
  go_enter func46,ntmps46;go_upto_region 9 with fail
  clear v0 v1 v2 v3 v4 z0 z1 z2 z3 z4 al;generalize w.alloc (.cells #[.int .u8 123,.int .i64 0,.string ⟨#[]⟩,.slice none 0 0,.slice none 0 0] 80)=wr at *;generalize hKK:Value.slice none 0 0=K' at f;obtain⟨L',hLL,f⟩:∃L',L'=Value.slice none 0 0∧BaI w.heap.size w.heap.size y K' L' wr:=⟨_,rfl,by rw[←hKK]at f ⊢;exact f⟩;clear hKK hLL;obtain⟨F,G,n2,H,I,J,M,N,O,P,d⟩:=aw f.blk;have ak:=K1.size;go_wp2_with (at_builtin;refine wpList_append_own_at _ rfl _ _ 36 rfl w.heap.size 9 i1 (.string ⟨#[]⟩) 1 16 underlying36 hj ab ac ad rfl (by decide) _ _ _ rfl (f.rowK.alloc _) ⟨wr.heap.size,0,none⟩ 1 1 [.string ⟨key.toArray⟩] rfl rfl (cell_one_new _ _ _) (by intro u z;simp at z;subst z;rfl) (by unfold maxLen;omega) (by omega) (by first | omega | (simp;omega)) ?_)
  intro v' g m B _ C;obtain⟨v,a,rfl⟩:=aK m;have x:Kp (fun k=>K'.ownBlock=some k) wr g:=((Kp.refl _ _).alloc _).grown B (fun k r _=>r);have s:=f.key x m (ez C)
  have K7:Kp (fun _=>False) w (g.setCell ⟨w.heap.size,3,none⟩ (.slice (some ⟨v,0,none⟩) (y.length+1) a)):=
   Kp.setCell (p:=⟨w.heap.size,3,none⟩) (K1.and x (fun i hi e=>by have:=(f.rowK.lt i e).1;omega)) (fun hlt=>by exact absurd hlt (by show ¬w.heap.size < _;omega)) _
  have i6:g.heap[w.heap.size]? =some (ar 123 0 [] K' L'):=(x.block _ d (fun e=>f.ownK _ e rfl)).trans f.blk;have aj:w.heap.size≤g.heap.size:=by have:=x.size;omega
  have l:(g.setCell ⟨w.heap.size,3,none⟩ (.slice (some ⟨v,0,none⟩) (y.length+1) a)).heap.size=g.heap.size:=by simp[World.setCell]
  clear F G n2 H I J M N O P d m B C x;obtain⟨F,G,n2,H,I,J,M,N,O,P,d⟩:=aw i6;obtain⟨Q,R,S,T,U,V,W,X,Y,aa,j⟩:=aw s.blk;clear i6;go_wp2_with (at_builtin;refine wpList_append_own_at _ rfl _ _ 78 rfl w.heap.size 66 i0 (.pointer none) 1 8 underlying78 hi af ag ah rfl (by decide) _ _ _ rfl (s.rowL.alloc _) ⟨g.heap.size,0,none⟩ 1 1 [ptr xb] rfl rfl (by rw[←l];exact cell_one_new _ _ _) (by intro u z;simp at z;subst z;rfl) (by unfold maxLen;omega) (by omega) (by first | omega | (simp;omega)) ?_)
  intro v' w8 m B _ C;obtain⟨E,c,rfl⟩:=aK m;have D:Kp (fun k=>L'.ownBlock=some k) (g.setCell ⟨w.heap.size,3,none⟩ (.slice (some ⟨v,0,none⟩) (y.length+1) a)) w8:=((Kp.refl _ _).alloc _).grown B (fun k r _=>r)
  have A:(Value.slice (some ⟨E,0,none⟩) (y.length+1) c).ownBlock=L'.ownBlock∨∃q,(g.setCell ⟨w.heap.size,3,none⟩ (.slice (some ⟨v,0,none⟩) (y.length+1) a)).heap.size≤q∧(Value.slice (some ⟨E,0,none⟩) (y.length+1) c).ownBlock=some q:=by
   rw[l];exact ez C
  have A9:=s.more D m A
  have K9:Kp (fun _=>False) w (w8.setCell ⟨w.heap.size,4,none⟩ (.slice (some ⟨E,0,none⟩) (y.length+1) c)):=
   Kp.setCell (p:=⟨w.heap.size,4,none⟩) (K7.and D (fun i hi e=>by have:=(s.rowL.lt i e).1;omega)) (fun hlt=>by exact absurd hlt (by show ¬w.heap.size < _;omega)) _
  have i8:w8.heap[w.heap.size]? =some (ar 123 0 [] (.slice (some ⟨v,0,none⟩) (y.length+1) a) L'):=(D.block _ j (fun e=>s.ownL _ e rfl)).trans s.blk;have Z:=ae (An A9 K9);clear A9 K9 A m B C D F G n2 H I J M N O P d Q R S T U V W X Y aa j l;obtain⟨F,G,n2,H,I,J,M,N,O,P,d⟩:=aw i8;go_wp2;go_ret;exact⟨rfl,Z.o.2,.slice (some ⟨v,0,none⟩) (y.length+1) a,.slice (some ⟨E,0,none⟩) (y.length+1) c,by rw[HY.o]at *;simpa using Z.o.1⟩
end
end Go.Proofs.YtocligpfmfmihaaGreatDoor
