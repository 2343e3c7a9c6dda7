import Derived.Test.YtocligpfmfmihaaGreatDoorRef20G
import Derived.Test.YtocligpfmfmihaaGreatDoorSizeG
import Derived.Deep.CutRange
set_option maxHeartbeats 4000000
set_option maxRecDepth 20000
namespace Go.Proofs.YtocligpfmfmihaaGreatDoor
open Go.Proofs.Tryz
section
open Go Go.RowKit Go.Maps
def PoL(w:World)(po:Option Addr)(l:List (Bs×J)):Prop:=
 (l=[]∧(po=none∨∃b kind n t K L,po=some ⟨b,0,none⟩∧w.heap[b]? =some (ar kind n t K L)∧kind≠123)) ∨
 ((cJ (.obj l)).length≤600∧∃b,po=some ⟨b,0,none⟩∧RR w (fun c=>c < w.heap.size) (.obj l) b)
theorem PoL.kp{w w':World}{po:Option Addr}{l:List (Bs×J)}(h:PoL w po l)(hk:Kp (fun _=>False) w w'):PoL w' po l:=by
 rcases h with⟨c,a⟩ | ⟨f,b,c,a⟩
 ·refine Or.inl ⟨c, ?_⟩
  rcases a with a | ⟨b,kind,n,t,K,L,e,g,d⟩
  ·exact Or.inl a
  ·exact Or.inr ⟨b,kind,n,t,K,L,e,vkp g hk,d⟩
 ·exact Or.inr ⟨f,b,c,a.frame (fun k hk2=>hk.block k hk2 (by simp)) (fun k hk2=>Nat.lt_of_lt_of_le hk2 hk.size)⟩
theorem RR.parts{w:World}{F:Nat→Prop}{l:List (Bs×J)}{b:Nat}(h:RR w F (.obj l) b):∃(x:List (Bs×J×Nat)) (K L:Value),w.heap[b]? =some (ar 123 0 [] K L)∧w.ownsRow 0 9 1 K x.length (x.map fun p=>.string ⟨p.1.toArray⟩)∧w.ownsRow 0 66 1 L x.length (x.map fun p=>ptr p.2.2) ∧
  Nod (x.map fun p:Bs×J×Nat=>(p.1,p.2.1))∧(∀a j c,(a,j,c) ∈ x→RR w F j c)∧l=ofL (x.map fun p=>(p.1,p.2.1)):=by
 generalize d:J.obj l=j at h
 cases h with
 |obj x K L hFb h hK hL hG hH hN hx=>
  injection d with d
  exact⟨x,K,L,h,hK,hL,hN,hx,d⟩
 |_=>cases d
theorem iu{x:List (Bs×J×Nat)}(hN:Nod (x.map fun p=>(p.1,p.2.1))){n:Nat}(h:(cJ (.obj (ofL (x.map fun p=>(p.1,p.2.1))))).length≤n):x.length≤n:=by
 have a:=je ((ofL (x.map fun p=>(p.1,p.2.1))).map aD);have b:=mg _ hN;rw[c7]at h;simp only[List.length_cons,List.length_append,List.length_nil,List.length_map]at h a b;omega
theorem eQ{k:Bs}{l:List (Bs×J)}{j:J}(h:ai k l=some j):(cJ j).length≤(cJ (.obj l)).length:=by
 have a:=fQ h;have:=(eT (l.map aD) 0).2 (aD (k,j)) (List.mem_map.2 ⟨_,a,rfl⟩);rw[c7];simp only[aD,List.length_append,List.length_cons,List.length_nil]at this ⊢;omega
theorem wU(w:World)(po:Option Addr)(l:List (Bs×J))(h:PoL w po l)(key:Bs):
  Calls prog 45 #[.pointer po,.string ⟨key.toArray⟩] w fun e w'=>∃po',e=.returned (.pointer po')∧w'=w∧PoL w po' (aq key l):=by
 rcases h with⟨rfl,i⟩ | ⟨v,b,rfl,i⟩
 ·refine (q9 w key po i).mono ?_
  rintro e w1 ⟨rfl,rfl⟩;exact⟨none,rfl,rfl,Or.inl ⟨rfl,Or.inl rfl⟩⟩
 ·obtain⟨x,K,L,A,y,z,q,D,rfl⟩:=i.parts
  have E:=iu q v;refine (vf (m:=x.map fun p=>(p.1,p.2.2)) A (by simpa[List.map_map,Function.comp_def] using y) (by simpa[List.map_map,Function.comp_def] using z) (by simp;omega) key).mono ?_;rintro e w1 ⟨rfl,rfl⟩;refine⟨_,rfl,rfl, ?_⟩;have a:=eU key _ q;rcases p7 key x with⟨g,d⟩ | ⟨j,c,C,g,d⟩
  ·rw[g]
   refine Or.inl ⟨?_,Or.inl rfl⟩;rw[aq,a,d]
  ·rw[g]
   have r:=D key j c C;have B:=eQ (a.trans d);obtain⟨n,t,s,u,k⟩:=r.kind;by_cases o:∃f,j=.obj f
   ·obtain⟨f,rfl⟩:=o
    refine Or.inr ⟨?_,c,rfl, ?_⟩
    ·rw[aq,a,d]
     simp only;omega
    ·rw[aq,a,d]
     exact r
   ·refine Or.inl ⟨?_,Or.inr ⟨c,aP j,n,t,s,u,rfl,k, ?_⟩⟩
    ·rw[aq,a,d]
     cases j with
     |obj f=>exact absurd ⟨f,rfl⟩ o
     |_=>rfl
    ·cases j with
     |obj f=>exact absurd ⟨f,rfl⟩ o
     |bool b=>cases b <;> simp[aP]
     |_=>simp[aP]
theorem rR(w:World)(po:Option Addr)(l:List (Bs×J))(h:PoL w po l)(key:Bs)(xb:Nat)(jx:J)(hx:RR w (fun c=>c < w.heap.size) jx xb):
  Calls prog 46 #[.pointer po,.string ⟨key.toArray⟩,.pointer (some ⟨xb,0,none⟩)] w fun e w'=>
   e=.returned (.pointer (some ⟨w.heap.size,0,none⟩))∧Kp (fun _=>False) w w'∧RR w' (fun c=>c < w'.heap.size) (.obj (aC key jx l)) w.heap.size:=by
 rcases h with⟨rfl,f⟩ | ⟨j,b,rfl,f⟩
 ·refine (CA w xb key po f).mono ?_
  rintro e w1 ⟨rfl,d,K,L,A⟩;refine⟨rfl,d, ?_⟩;have a:∀k,k < w.heap.size→w1.heap[k]? =w.heap[k]? ∧k < w1.heap.size:=fun k hk=>⟨d.block k hk (by simp),Nat.lt_of_lt_of_le hk d.size⟩
  exact rT (x:=[]) (F:=fun _=>False) List.nodup_nil A (fun _ _ _ hm=>by cases hm) hx (fun _ h=>h.elim) a
 ·obtain⟨x,K,L,o,m,n,i,g,rfl⟩:=f.parts
  have q:=iu i j;refine (DJ w b xb key (x.map fun p=>(p.1,p.2.2)) K L o (by simpa[List.map_map,Function.comp_def] using m) (by simpa[List.map_map,Function.comp_def] using n) (by simp;omega)).mono ?_;rintro e w1 ⟨rfl,d,r,s,A⟩;refine⟨rfl,d, ?_⟩;have a:∀k,k < w.heap.size→w1.heap[k]? =w.heap[k]? ∧k < w1.heap.size:=fun k hk=>⟨d.block k hk (by simp),Nat.lt_of_lt_of_le hk d.size⟩
  exact rT i A g hx a a
end
section
open Go.Lib
structure Ky where
 id:Bs
 key:Bs
 old:Bool
 till:Int
def lB:Bs:=[115,101,114,118,101,114,95,110,97,109,101]
def lC:Bs:=[118,97,108,105,100,95,117,110,116,105,108,95,116,115]
def iG:Bs:=[118,101,114,105,102,121,95,107,101,121,115]
def gY:Bs:=[111,108,100,95,118,101,114,105,102,121,95,107,101,121,115]
def gX:Bs:=[107,101,121]
def lu:Bs:=[101,120,112,105,114,101,100,95,116,115]
def cd(s:Bs):Bool:=decide (1≤s.length) && decide (s.length≤20)
def dS:Option J→Option Bs | some (.str s)=>some s | _=>none
def bs(o:Option J):Option Bs:=(dS o).bind fun s=>if cd s then some s else none
def cC:Option J→Option Int | some (.num n)=>if 0≤n then some n else none | _=>none
def dB(old:Bool)(till:Int)(id:Bs)(j:J):Option Ky:=
 if cd id then
  match j with
  |.obj m=>(dS (ai gX m)).bind fun k=>if old then (cC (ai lu m)).map fun t=>⟨id,k,true,t⟩ else some ⟨id,k,false,till⟩
  |_=>none
 else none
def aI(old:Bool)(till:Int):List (Bs×J)→Option (List Ky)
 | []=>some []
 | (id,j) :: l=>(dB old till id j).bind fun k=>(aI old till l).map fun r=>k :: r
def bJ(a b:List Ky):Option (List Ky):=
 if (((a ++b).map (·.id)).Nodup) then some ((ofL ((a ++b).map fun k=>(k.id,k))).map (·.2)) else none
def fW(l:List (Bs×J)):Option (List Ky):=match ai gY l with | none=>some [] | some (.obj m)=>aI true 0 m | some _=>none
def cw(l:List (Bs×J)):Option (Bs×Int×List Ky):=
 (bs (ai lB l)).bind fun s=>(cC (ai lC l)).bind fun u=>
  match ai iG l with
  |some (.obj m)=>if 1≤m.length∧m.length≤4 then (aI false u m).bind fun a=>(fW l).bind fun b=>(bJ a b).map fun ks=>(s,u,ks) else none
  |_=>none
theorem de{old:Bool}{till:Int}:∀ {l:List (Bs×J)} {r:List Ky},aI old till l=some r→r.map (·.id)=l.map (·.1)∧∀k ∈ r,k.old=old∧cd k.id=true
 | [],r,h=>by
  simp only[aI,Option.some.injEq]at h;subst h;exact⟨rfl,by simp⟩
 | (id,j) :: l,r,h=>by
  simp only[aI,Option.bind_eq_some_iff,Option.map_eq_some_iff]at h;obtain⟨k,b,q,g,rfl⟩:=h;obtain⟨e,f⟩:=de g
  have c:k.id=id∧k.old=old∧cd id=true:=by
   unfold dB at b;split at b
   ·rename_i hn
    split at b
    ·simp only[Option.bind_eq_some_iff]at b
     obtain⟨a,_,b⟩:=b;split at b
     ·rename_i ho
      simp only[Option.map_eq_some_iff]at b;obtain⟨t,_,rfl⟩:=b;exact⟨rfl,by simp[ho],hn⟩
     ·rename_i ho
      simp only[Option.some.injEq]at b;subst b;exact⟨rfl,by simpa using ho,hn⟩
    ·cases b
   ·cases b
  refine⟨by simp[e,c.1], ?_⟩;intro x d;rcases List.mem_cons.1 d with rfl | d
  ·exact⟨c.2.1,by rw[c.1];exact c.2.2⟩
  ·exact f x d
end
section
open Go Go.RowKit Go.Maps
def PoJ(w:World)(po:Option Addr)(o:Option J):Prop:=
 (po=none∧o=none)∨∃b j,po=some ⟨b,0,none⟩∧o=some j∧(cJ j).length≤600∧RR w (fun c=>c < w.heap.size) j b
theorem PoJ.kp{w w':World}{po:Option Addr}{o:Option J}(h:PoJ w po o)(hk:Kp (fun _=>False) w w'):PoJ w' po o:=by
 rcases h with h | ⟨b,j,c,d,a,e⟩
 ·exact Or.inl h
 ·exact Or.inr ⟨b,j,c,d,a,e.frame (fun k hk2=>hk.block k hk2 (by simp)) (fun k hk2=>Nat.lt_of_lt_of_le hk2 hk.size)⟩
def bP(key:Bs):Option J→Option J | some (.obj l)=>ai key l | _=>none
theorem fT(w:World)(po:Option Addr)(o:Option J)(h:PoJ w po o)(key:Bs):
  Calls prog 45 #[.pointer po,.string ⟨key.toArray⟩] w fun e w'=>∃po',e=.returned (.pointer po')∧w'=w∧PoJ w po' (bP key o):=by
 rcases h with⟨rfl,rfl⟩ | ⟨b,j,rfl,rfl,u,k⟩
 ·refine (q9 w key none (Or.inl rfl)).mono ?_
  rintro e w1 ⟨rfl,rfl⟩;exact⟨none,rfl,rfl,Or.inl ⟨rfl,rfl⟩⟩
 ·by_cases i:∃l,j=.obj l
  ·obtain⟨l,rfl⟩:=i
   obtain⟨x,K,L,z,v,y,q,D,rfl⟩:=k.parts;have E:=iu q u;refine (vf (m:=x.map fun p=>(p.1,p.2.2)) z (by simpa[List.map_map,Function.comp_def] using v) (by simpa[List.map_map,Function.comp_def] using y) (by simp;omega) key).mono ?_;rintro e w1 ⟨rfl,rfl⟩;refine⟨_,rfl,rfl, ?_⟩;have a:=eU key _ q;rcases p7 key x with⟨f,d⟩ | ⟨j,c,C,f,d⟩
   ·rw[f]
    exact Or.inl ⟨rfl,a.trans d⟩
   ·rw[f]
    have A:=eQ (a.trans d);exact Or.inr ⟨c,j,rfl,a.trans d,by omega,D key j c C⟩
  ·obtain⟨n,t,r,s,g⟩:=k.kind
   have B:aP j≠123:=by
    cases j with
    |obj l2=>exact absurd ⟨l2,rfl⟩ i
    |bool b=>cases b <;> simp[aP]
    |_=>simp[aP]
   refine (q9 w key _ (Or.inr ⟨b,aP j,n,t,r,s,rfl,g,B⟩)).mono ?_;rintro e w1 ⟨rfl,rfl⟩;refine⟨none,rfl,rfl,Or.inl ⟨rfl, ?_⟩⟩
   cases j with
   |obj l2=>exact absurd ⟨l2,rfl⟩ i
   |_=>rfl
theorem uq(w:World)(s:ByteArray):Calls prog 139 #[.string s] w fun e w'=>e=.returned (.bool (cd s.data.toList))∧w'=w:=by
 have b:cd s.data.toList=(decide ((0:Int) < (s.size:Int)) && decide ((s.size:Int)≤20)):=by
  unfold cd;have:s.data.toList.length=s.size:=Array.length_toList;rw[this,Bool.eq_iff_iff];simp;omega
 have a:=ae b;clear b;by_cases c:(0:Int) < (s.size:Int)
 ·go_enter func139,ntmps139
  go_wp2;go_ret;exact⟨by rw[a.o];simp;omega,rfl⟩
 ·go_enter func139,ntmps139
  go_wp2;go_ret;exact⟨by rw[a.o];simp;omega,rfl⟩
theorem kh{j:J}(h:aP j=34):∃t,j=.str t:=by
 cases j with
 |str t=>exact⟨t,rfl⟩
 |bool b=>cases b <;> simp[aP]at h
 |_=>simp[aP]at h
theorem zo{j:J}(h:aP j=35):∃n,j=.num n:=by
 cases j with
 |num n=>exact⟨n,rfl⟩
 |bool b=>cases b <;> simp[aP]at h
 |_=>simp[aP]at h
theorem jR(w:World)(po:Option Addr)(o:Option J)(h:PoJ w po o):
  Calls prog 80 #[.pointer po] w fun e w'=>e=.returned (.bool (bs o).isSome)∧w'=w:=by
 rcases h with⟨rfl,rfl⟩ | ⟨b,j,rfl,rfl,r,d⟩
 ·go_enter func80,ntmps80
  go_wp2;go_ret;exact⟨rfl,rfl⟩
 ·by_cases f:aP j=34
  ·obtain⟨t,rfl⟩:=kh f
   cases d with
   |str t hF h=>
    obtain⟨v0,l,v2,v3,v4,z0,m,z2,z3,z4,g⟩:=aw h
    have c:Hid ((bs (some (.str t))).isSome=cd t):=by
     show _=_
     unfold bs dS;by_cases i:cd t=true
     ·simp[i]
     ·have:cd t=false:=by simpa using i
      simp[this]
    go_enter func80,ntmps80;go_wp2_with fail
    refine (uq w ⟨t.toArray⟩).mono ?_;rintro e w1 ⟨rfl,rfl⟩;go_wp2;go_ret;exact⟨by rw[c.o];rfl,rfl⟩
  ·obtain⟨n,t,p,q,a⟩:=d.kind
   obtain⟨v0,l,v2,v3,v4,z0,m,z2,z3,z4,g⟩:=aw a;have k:(((aP j:Nat):Int) == 34)=false:=by simp;omega
   have c:Hid ((bs (some j)).isSome=false):=by
    show _=_
    cases j with
    |str t=>exact absurd rfl f
    |_=>rfl
   clear d a f;generalize aP j=kd at *;go_enter func80,ntmps80;go_wp2;go_ret;exact⟨by rw[c.o];rfl,rfl⟩
theorem ny(w:World)(po:Option Addr)(o:Option J)(h:PoJ w po o):
  Calls prog 81 #[.pointer po] w fun e w'=>e=.returned (.bool (cC o).isSome)∧w'=w:=by
 rcases h with⟨rfl,rfl⟩ | ⟨b,j,rfl,rfl,q,d⟩
 ·go_enter func81,ntmps81
  go_wp2;go_ret;exact⟨rfl,rfl⟩
 ·by_cases f:aP j=35
  ·obtain⟨n,rfl⟩:=zo f
   cases d with
   |num n hn hF h=>
    obtain⟨v0,k,v2,v3,v4,z0,l,z2,z3,z4,g⟩:=aw h
    have c:Hid ((cC (some (.num n))).isSome=decide (0≤n)):=by
     show _=_
     unfold cC;by_cases hp:0≤n <;> simp[hp]
    go_enter func81,ntmps81;go_wp2
    all_goals
     go_ret;refine⟨?_,rfl⟩;rw[c.o]
     first | rfl | (simp[*];done) | (simp;omega)
  ·obtain⟨n,t,m,p,a⟩:=d.kind
   obtain⟨v0,k,v2,v3,v4,z0,l,z2,z3,z4,g⟩:=aw a;have i:(((aP j:Nat):Int) == 35)=false:=by simp;omega
   have c:Hid ((cC (some j)).isSome=false):=by
    show _=_
    cases j with
    |num t=>exact absurd rfl f
    |_=>rfl
   clear d a f;generalize aP j=kd at *;go_enter func81,ntmps81;go_wp2;go_ret;exact⟨by rw[c.o];rfl,rfl⟩
theorem jH:(prog.info? 35).map (fun i=>(i.zero,i.size,i.bytes))=some (some (.agg #[.string ⟨#[]⟩,.string ⟨#[]⟩,.bool false,.int .i64 0]),4,48):=by kernel_rfl
def kyC(k:Ky):List Value:=[.string ⟨k.id.toArray⟩,.string ⟨k.key.toArray⟩,.bool k.old,.int .i64 k.till]
theorem ij(old:Bool)(till:Int)(l:List (Bs×J))(id:Bs)(j:J):aI old till (l ++[(id,j)])=(aI old till l).bind fun r=>(dB old till id j).map fun k=>r ++[k]:=by
 induction l with
 |nil=>cases h:dB old till id j <;> simp[aI,h]
 |cons p l ih=>
  obtain⟨a,q⟩:=p;simp only[List.cons_append,aI,ih]
  cases dB old till a q with
  |none=>rfl
  |some k=>
   simp only[Option.bind_some]
   cases aI old till l with
   |none=>rfl
   |some r=>cases dB old till id j <;> simp
theorem xg(old:Bool)(till:Int)(l m:List (Bs×J))(h:aI old till l=none):aI old till (l ++m)=none:=by
 induction l with
 |nil=>cases h
 |cons p l ih=>
  obtain⟨a,q⟩:=p;simp only[List.cons_append,aI]at h ⊢
  cases hk:dB old till a q with
  |none=>rfl
  |some k=>
   rw[hk]at h;simp only[Option.bind_some,Option.map_eq_none_iff]at h ⊢;exact ih h
theorem jM(l:List Ky):(l.flatMap kyC).length=l.length*4:=by
 induction l with
 |nil=>rfl
 |cons k l ih=>
  simp only[List.flatMap_cons,List.length_append,List.length_cons,ih,kyC,List.length_nil];omega
theorem ov(old:Bool)(till:Int)(id:Bs)(j:J):dB old till id j =
  if cd id=true then (dS (bP gX (some j))).bind fun k=>if old then (cC (bP lu (some j))).map fun t=>⟨id,k,true,t⟩ else some ⟨id,k,false,till⟩ else none:=by
 unfold dB;by_cases h:cd id=true
 ·rw[if_pos h,if_pos h]
  cases j with
  |obj m=>rfl
  |_=>rfl
 ·rw[if_neg h,if_neg h]
def KsR(w:World)(o:Option (List Ky))(e:Ending)(w':World):Prop:=
 Kp (fun _=>False) w w'∧match o with
 |none=>e=.returned (.tuple #[.slice none 0 0,.bool false])
 |some ks=>∃v,e=.returned (.tuple #[v,.bool true])∧w'.ownsRow w.heap.size 35 4 v ks.length (ks.flatMap kyC)
theorem iH{w w':World}{o:Option (List Ky)}(ho:o=none)(hk:Kp (fun _=>False) w w'):KsR w o (.returned (.tuple #[.slice none 0 0,.bool false])) w':=by
 subst ho;exact⟨hk,rfl⟩
theorem uK(w:World)(b:Nat)(x:List (Bs×J×Nat))(K L:Value)(h:w.heap[b]? =some (ar 123 0 [] K L))
  (hK:w.ownsRow 0 9 1 K x.length (x.map fun p=>.string ⟨p.1.toArray⟩)) (hL:w.ownsRow 0 66 1 L x.length (x.map fun p=>ptr p.2.2))
  (hx:∀a j c,(a,j,c) ∈ x→(cJ j).length≤600∧RR w (fun c=>c < w.heap.size) j c) (hxl:x.length≤700) (old:Bool) (till:Int) :
  Calls prog 82 #[.pointer (some ⟨b,0,none⟩),.bool old,.int .i64 till] w fun e w'=>KsR w (aI old till (x.map fun p=>(p.1,p.2.1))) e w':=by
 obtain⟨i0,hi,Z,aa,ab⟩:=info_parts jH;obtain⟨ka,kc,rfl⟩:=aE hK;obtain⟨la,lc,rfl⟩:=aE hL
 have M:∀i p,x[i]? =some p→∃g,ka=some ⟨g,0,none⟩∧g < w.heap.size∧w.cell? ⟨g,i,none⟩=some (.string ⟨p.1.toArray⟩):=by
  intro i p hp;have r:=(List.getElem?_eq_some_iff.1 hp).1;obtain⟨_,⟨e,e0⟩ | ⟨g,ac,ad,e,_⟩⟩:=id hK
  ·omega
  ·injection e with e1 e2 e3
   subst e1;exact⟨g,rfl,(hK.lt g rfl).2,aL hK i _ (by rw[List.getElem?_map,hp];rfl)⟩
 have N:∀i p,x[i]? =some p→∃g,la=some ⟨g,0,none⟩∧g < w.heap.size∧w.cell? ⟨g,i,none⟩=some (.pointer (some ⟨p.2.2,0,none⟩)):=by
  intro i p hp;have r:=(List.getElem?_eq_some_iff.1 hp).1;obtain⟨_,⟨e,e0⟩ | ⟨g,ac,ad,e,_⟩⟩:=id hL
  ·omega
  ·injection e with e1 e2 e3
   subst e1;exact⟨g,rfl,(hL.lt g rfl).2,aL hL i _ (by rw[List.getElem?_map,hp];rfl)⟩
 have CK:=ae (An M (An N hx));clear M N hK hL hx;go_enter func82,ntmps82;go_wp2_with fail
 go_loopg [8,9] x.length (fun gg a bb wr=>∃(i:Nat) (E:List Ky),gg=x.length - i∧i≤x.length∧bb=.int .i64 (i:Int)∧Kp (fun _=>False) w wr∧E.length=i∧aI old till ((x.take i).map fun p=>(p.1,p.2.1))=some E∧wr.ownsRow w.heap.size 35 4 a i (E.flatMap kyC))
 case atStart=>exact⟨0,[],rfl,by omega,rfl,Kp.refl _ _,rfl,rfl,World.ownsRow_nil _ _ _ _⟩
 case round=>
  obtain⟨i,E,hg,av,rfl,l,S,U,f⟩:=hrel;have y:=ae (An hg (An S U));clear hg S U;obtain⟨o0,o1,o2,o3,o4,p0,p1,p2,p3,p4,az⟩:=aw (vkp h l);by_cases r:i < x.length
  ·have V:(i:Int) < (x.length:Int):=by omega
   obtain⟨p,hp⟩:∃p,x[i]? =some p:=⟨x[i],List.getElem?_eq_getElem r⟩;obtain⟨kg,rfl,B,ck⟩:=CK.o.1 i p hp;obtain⟨lg,rfl,ag,cl⟩:=CK.o.2.1 i p hp;obtain⟨af,W⟩:=CK.o.2.2 p.1 p.2.1 p.2.2 (List.mem_of_getElem? hp);have aq:=(l.cell (p:=⟨kg,i,none⟩) B (by simp)).trans ck;have au:=(l.cell (p:=⟨lg,i,none⟩) ag (by simp)).trans cl
   have D:(x.take (i+1)).map (fun p=>(p.1,p.2.1))=(x.take i).map (fun p=>(p.1,p.2.1)) ++[(p.1,p.2.1)]:=by
    rw[List.take_succ_eq_append_getElem r,(List.getElem?_eq_some_iff.1 hp).2,List.map_append];rfl
   have s:dB old till p.1 p.2.1=none→aI old till (x.map fun p=>(p.1,p.2.1))=none:=by
    intro P;have h1:x.map (fun p=>(p.1,p.2.1))=(x.take (i+1)).map (fun p=>(p.1,p.2.1)) ++(x.drop (i+1)).map (fun p=>(p.1,p.2.1)):=by rw[←List.map_append,List.take_append_drop]
    rw[h1];apply xg;rw[D,ij,P];cases aI old till ((x.take i).map fun p=>(p.1,p.2.1)) <;> rfl
   have F:=ae (An D s);have PJ:PoJ wr (some ⟨p.2.2,0,none⟩) (some p.2.1):=PoJ.kp (Or.inr ⟨p.2.2,p.2.1,rfl,rfl,af,W⟩) l;clear hp D s W ck cl;have T:=ov old till p.1 p.2.1;have q:=ae T;clear T;go_wp2_with fail
   refine (fT wr _ _ PJ gX).mono ?_;rintro e w2 ⟨pk,rfl,rfl,PK⟩;go_wp2_with fail
   refine (fT w2 _ _ PJ lu).mono ?_;rintro e w3 ⟨px,rfl,rfl,PX⟩;generalize bP gX (some p.2.1)=ok at *;generalize bP lu (some p.2.1)=ox at *;go_wp2_with fail
   refine (uq w3 ⟨p.1.toArray⟩).mono ?_;rintro e w4 ⟨rfl,rfl⟩;go_wp2_with fail
   refine (ny w4 _ _ PX).mono ?_;rintro e G ⟨rfl,rfl⟩;simp only[]
   cases hnm:cd p.1 with
   |false=>
    have A:=ae (F.o.2 (by rw[q.o,hnm];rfl));go_wp2;go_ret2
    exact iH A.o l
   |true=>
    rcases PK with⟨rfl,rfl⟩ | ⟨kb,jk,rfl,rfl,ax,C⟩
    ·have A:=ae (F.o.2 (by rw[q.o,hnm];rfl))
     go_wp2;go_ret2
     exact iH A.o l
    ·by_cases v:aP jk=34
     ·obtain⟨t,rfl⟩:=kh v
      clear v
      cases C with
      |str t hF hkb=>
       obtain⟨k0,k1,k2,k3,k4,aj,al,am,an,ao,Q⟩:=aw hkb
       cases old with
       |false=>
        have z:Hid (dB false till p.1 p.2.1=some ⟨p.1,t,false,till⟩):=by
         show _=_
         rw[q.o,hnm];rfl
        generalize (cC ox).isSome=cb;have R:kg < G.heap.size:=Nat.lt_of_lt_of_le B l.size;go_upto_region 12 with fail
        go_region
        have H:Kp (fun _=>False) w (G.alloc (.cells #[.string ⟨p.1.toArray⟩,.string ⟨t.toArray⟩,.bool false,.int .i64 till] 35)):=l.alloc _;have r6:=f.alloc (.cells #[.string ⟨p.1.toArray⟩,.string ⟨t.toArray⟩,.bool false,.int .i64 till] 35);have ai:=l.size;go_wp2_with (at_builtin;(refine wpList_append_own_at _ rfl _ _ 28 rfl w.heap.size 35 i0 (.agg #[.string ⟨#[]⟩,.string ⟨#[]⟩,.bool false,.int .i64 0]) 4 48 underlying28 hi Z aa ab rfl (by decide) _ _ _ rfl (by exact World.ownsRow.alloc r6 _) ⟨G.heap.size+1,0,none⟩ 1 1 (kyC ⟨p.1,t,false,till⟩) rfl rfl ?c1 (by intro u Y;simp[kyC]at Y;rcases Y with rfl | rfl | rfl | rfl <;> rfl) (by unfold maxLen;omega) (by omega) (by simp;omega) ?_))
        case c1=>
         intro j u O;rcases j with _ | _ | _ | _ | j
         all_goals simp[kyC]at O
         all_goals subst O
         all_goals simp[Addr.add]
        intro v' w6 y1 y2 _ y3;have K7:Kp (fun _=>False) w w6:=((H.drew).alloc _).grown y2 (fun k P r=>by have:=(f.lt k P).1;omega);have R7:=ae y1;clear y1 y2 y3 r6 H;go_wp2;go_roundg (x.length - (i+1))
        case measure=>rw[y.o.1];omega
        case rel=>
         refine⟨i+1,E ++[⟨p.1,t,false,till⟩],rfl,by omega,ak (by omega),K7,by simp[y.o.2.1], ?_, ?_⟩
         ·rw[F.o.1,ij,y.o.2.2,z.o]
          rfl
         ·rw[List.flatMap_append]
          have e9:List.flatMap kyC [⟨p.1,t,false,till⟩]=kyC ⟨p.1,t,false,till⟩:=by simp
          rw[e9];exact R7.o
       |true=>
        cases d:cC ox with
        |none=>
         have A:=ae (F.o.2 (by rw[q.o,hnm,d];rfl));simp only[Option.isSome_none];go_wp2;go_ret2
         exact iH A.o l
        |some n=>
         have z:Hid (dB true till p.1 p.2.1=some ⟨p.1,t,true,n⟩):=by
          show _=_
          rw[q.o,hnm,d];rfl
         simp only[Option.isSome_some];rcases PX with⟨rfl,rfl⟩ | ⟨xb,jx,rfl,rfl,aA,ah⟩
         ·cases d
         ·obtain⟨rfl,hn0⟩:jx=.num n∧0≤n:=by
           unfold cC at d;split at d
           ·rename_i m hm
            injection hm with hm
            subst hm;split at d
            ·injection d with d
             subst d;exact⟨rfl,by assumption⟩
            ·cases d
           ·cases d
          clear d
          cases ah with
          |num n hn hF2 hxb=>
           obtain⟨x0,x1,x2,x3,x4,aB,aC,aD,aF,aG,ap⟩:=aw hxb;have R:kg < G.heap.size:=Nat.lt_of_lt_of_le B l.size;go_upto_region 12 with fail
           go_region
           have H:Kp (fun _=>False) w (G.alloc (.cells #[.string ⟨p.1.toArray⟩,.string ⟨t.toArray⟩,.bool true,.int .i64 n] 35)):=l.alloc _;have r6:=f.alloc (.cells #[.string ⟨p.1.toArray⟩,.string ⟨t.toArray⟩,.bool true,.int .i64 n] 35);have ai:=l.size;go_wp2_with (at_builtin;(refine wpList_append_own_at _ rfl _ _ 28 rfl w.heap.size 35 i0 (.agg #[.string ⟨#[]⟩,.string ⟨#[]⟩,.bool false,.int .i64 0]) 4 48 underlying28 hi Z aa ab rfl (by decide) _ _ _ rfl (by exact World.ownsRow.alloc r6 _) ⟨G.heap.size+1,0,none⟩ 1 1 (kyC ⟨p.1,t,true,n⟩) rfl rfl ?c1 (by intro u Y;simp[kyC]at Y;rcases Y with rfl | rfl | rfl | rfl <;> rfl) (by unfold maxLen;omega) (by omega) (by simp;omega) ?_))
           case c1=>
            intro j u O;rcases j with _ | _ | _ | _ | j
            all_goals simp[kyC]at O
            all_goals subst O
            all_goals simp
           intro v' w6 y1 y2 _ y3;have K7:Kp (fun _=>False) w w6:=((H.drew).alloc _).grown y2 (fun k P r=>by have:=(f.lt k P).1;omega);have R7:=ae y1;clear y1 y2 y3 r6 H;go_wp2;go_roundg (x.length - (i+1))
           case measure=>rw[y.o.1];omega
           case rel=>
            refine⟨i+1,E ++[⟨p.1,t,true,n⟩],rfl,by omega,ak (by omega),K7,by simp[y.o.2.1], ?_, ?_⟩
            ·rw[F.o.1,ij,y.o.2.2,z.o]
             rfl
            ·rw[List.flatMap_append]
             have e9:List.flatMap kyC [⟨p.1,t,true,n⟩]=kyC ⟨p.1,t,true,n⟩:=by simp
             rw[e9];exact R7.o
     ·obtain⟨n2,t2,K2,L2,I⟩:=C.kind
      obtain⟨k0,k1,k2,k3,k4,aj,al,am,an,ao,Q⟩:=aw I;have ay:(((aP jk:Nat):Int) != 34)=true:=by simp;omega
      have X:dS (some jk)=none:=by
       cases jk with
       |str t=>exact absurd rfl v
       |_=>rfl
      have A:=ae (F.o.2 (by rw[q.o,hnm,X];rfl));clear C I v X;generalize aP jk=kd at *;go_wp2;go_ret2
      exact iH A.o l
  ·have V:¬(i:Int) < (x.length:Int):=by omega
   have HX:Hid (aI old till (x.map fun p=>(p.1,p.2.1))=some E):=by
    have:=y.o.2.2;rw[List.take_of_length_le (by omega)]at this;exact this
   go_wp2;go_ret2
   refine⟨l, ?_⟩;rw[HX.o];exact⟨_,rfl,by rw[y.o.2.1];exact f⟩
end
end Go.Proofs.YtocligpfmfmihaaGreatDoor
