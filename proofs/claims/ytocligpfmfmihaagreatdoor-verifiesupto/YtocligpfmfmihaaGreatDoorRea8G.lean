import Derived.Test.YtocligpfmfmihaaGreatDoorRea4G
import Derived.Test.YtocligpfmfmihaaGreatDoorMapsG
import Derived.Test.YtocligpfmfmihaaGreatDoorRef27G
set_option maxHeartbeats 4000000
set_option maxRecDepth 20000
namespace Go.Proofs.YtocligpfmfmihaaGreatDoor
open Go.Proofs.Tryz
section
open Go Go.RowKit Go.Maps
def el(l:List (Bs×J))(s:Bs)(k:Ky):Bool:=
 k.old || match bP k.id (bP s (bP kSig (some (.obj l)))) with | some (.str t)=>decide (t=(cQ ⟨k.key.toArray⟩ ⟨(aA l).toArray⟩).data.toList) | _=>false
def fI(l:List (Bs×J)):Except Nat (Bs×Int×List Ky):=
 match cw l with
 |none=>.error 4
 |some (s,u,ks)=>if ks.all (el l s) then .ok (s,u,ks) else .error 5
def aZ(t:Bs):Except Nat (Bs×Int×List Ky):=match aM t with | .error n=>.error n | .ok l=>fI l
def RdR(w:World)(o:Except Nat (Bs×Int×List Ky))(e:Ending)(w':World):Prop:=
 Kp (fun _=>False) w w'∧match o with
 |.error n=>e=.returned (.tuple #[.agg #[.string ⟨#[]⟩,.int .i64 0,.slice none 0 0],.int .i64 (n:Int)])
 |.ok (s,u,ks)=>∃v,e=.returned (.tuple #[.agg #[.string ⟨s.toArray⟩,.int .i64 u,v],.int .i64 0])∧w'.ownsRow w.heap.size 35 4 v ks.length (ks.flatMap kyC)
theorem oL{w w6:World}{o:Except Nat (Bs×Int×List Ky)}{n:Nat}(h:Kp (fun _=>False) w w6)(ho:o=.error n):RdR w o (.returned (.tuple #[.agg #[.string ⟨#[]⟩,.int .i64 0,.slice none 0 0],.int .i64 (n:Int)])) (((w6.setCell ⟨w.heap.size,0,none⟩ (.string ⟨#[]⟩)).setCell ⟨w.heap.size,1,none⟩ (.int .i64 0)).setCell ⟨w.heap.size,2,none⟩ (.slice none 0 0)):=by
 subst ho;exact⟨kp3 h,rfl⟩
theorem D7{w w6:World}{B:Nat}{o:Except Nat (Bs×Int×List Ky)}{s:Bs}{u:Int}{ks:List Ky}{v:Value}(h:Kp (fun _=>False) w w6)(hB:w.heap.size < B)(row:w6.ownsRow B 35 4 v ks.length (ks.flatMap kyC))(ho:o=.ok (s,u,ks)):
  RdR w o (.returned (.tuple #[.agg #[.string ⟨s.toArray⟩,.int .i64 u,v],.int .i64 0])) (((w6.setCell ⟨w.heap.size,0,none⟩ (.string ⟨s.toArray⟩)).setCell ⟨w.heap.size,1,none⟩ (.int .i64 u)).setCell ⟨w.heap.size,2,none⟩ v):=by
 subst ho;refine⟨kp3 h,v,rfl, ?_⟩;refine cr (Nat.le_of_lt hB) (ap row fun k hk=> ?_);have a:=(row.lt k hk).1;rw[af (by show k≠w.heap.size;omega),af (by show k≠w.heap.size;omega),af (by show k≠w.heap.size;omega)]
theorem Cn{w w6:World}{o:Except Nat (Bs×Int×List Ky)}{n:Nat}{D:Obj}(h:Kp (fun _=>False) w w6)(ho:o=.error n):RdR w o (.returned (.tuple #[.agg #[.string ⟨#[]⟩,.int .i64 0,.slice none 0 0],.int .i64 (n:Int)])) ((((w6.setCell ⟨w.heap.size,0,none⟩ (.string ⟨#[]⟩)).setCell ⟨w.heap.size,1,none⟩ (.int .i64 0)).setCell ⟨w.heap.size,2,none⟩ (.slice none 0 0)).alloc D):=by
 subst ho;exact⟨(kp3 h).alloc _,rfl⟩
theorem Ea{w:World}{q:Nat}{x y z a b c:Value}{T:TypeId}{D:Obj}(h:w.heap[q]? =some (.cells #[x,y,z] T)):((((w.setCell ⟨q,0,none⟩ a).setCell ⟨q,1,none⟩ b).setCell ⟨q,2,none⟩ c).alloc D).heap[q]? =some (.cells #[a,b,c] T):=by
 have d:=cM (a:=a) (b:=b) (c:=c) h;rw[Below.heap_alloc _ _ _ (ag d)];exact d
theorem sj(W:World)(hG:GL W)(s:ByteArray)(w:World)(ho:Below W.heap.size W w)(hno:∀o,aM s.data.toList=.ok o→cw o=none):
  Calls prog 21 #[.string s] w fun e w'=>RdR w (aZ s.data.toList) e w':=by
 have l:Kp (fun _=>False) w (w.alloc (.cells #[.string ⟨#[]⟩,.int .i64 0,.slice none 0 0] 30)):=(Kp.refl _ _).alloc _;have i:=heap_alloc_new w (.cells #[.string ⟨#[]⟩,.int .i64 0,.slice none 0 0] 30);have h:=gN W hG s _ (am ho l);have k:=ae h;clear h;go_enter func21,ntmps21;go_wp2_with fail
 generalize (w.alloc (.cells #[.string ⟨#[]⟩,.int .i64 0,.slice none 0 0] 30))=w0 at *;refine k.o.mono ?_;rintro e w1 ⟨j,⟨n,K,a,rfl⟩ | ⟨o,b,a,p,rfl,A⟩⟩
 ·have C:Hid (aZ s.data.toList=.error n):=by show _=_;unfold aZ;rw[a]
  have E:((n:Int) != 0)=true:=by simp;omega
  have d:=l.trans j;have g:=(j.block _ (ag i) (by simp)).trans i;obtain⟨F,G,H,t,u,v,r⟩:=ba g;clear a hno;go_wp2;exact bodyPost_ret (fE _ rfl rfl (cM g)) rfl (oL d C.o)
 ·have f:=hno o a
  have B:Hid (aZ s.data.toList=.error 4):=by show _=_;unfold aZ;rw[a];show fI o=_;unfold fI;rw[f]
  have d:=l.trans j;have g:=(j.block _ (ag i) (by simp)).trans i;have q:RR w1 (fun c=>c < w1.heap.size) (.obj o) b:=A.frame (fun _ _=>rfl) (fun c hc=>hc.2);have D:PoJ w1 (some ⟨b,0,none⟩) (some (.obj o)):=Or.inr ⟨b,_,rfl,rfl,p,q⟩;clear a A;go_wp2_with fail
  refine (xQ w1 b o D).mono ?_;rintro e w2 ⟨y,z⟩;have m:=d.trans y;have x:=(y.block _ (ag g) (by simp)).trans g;obtain⟨F,G,H,t,u,v,r⟩:=ba x;rw[f]at z;obtain⟨I,J,rfl⟩:=z;clear f hno;go_wp2;exact bodyPost_ret (fE _ rfl rfl (Ea x)) rfl (Cn m B.o)
theorem tw{l:List (Bs×J)}{a:Bs}{j:J}(h:(a,j) ∈ l):(cJ j).length≤(cJ (.obj l)).length:=by
 have:=(eT (l.map aD) 0).2 (aD (a,j)) (List.mem_map.2 ⟨_,h,rfl⟩);rw[c7];simp only[aD,List.length_append,List.length_cons,List.length_nil]at this ⊢;omega
theorem zk{old:Bool}{till:Int}{id:Bs}{j:J}{k:Ky}(h:dB old till id j=some k):k.key.length≤(cJ j).length:=by
 rw[ov]at h;split at h
 ·simp only[Option.bind_eq_some_iff]at h
  obtain⟨t,a,b⟩:=h
  have d:k.key=t:=by
   split at b
   ·simp only[Option.map_eq_some_iff]at b
    obtain⟨_,_,rfl⟩:=b;rfl
   ·simp only[Option.some.injEq]at b
    subst b;rfl
  cases j with
  |obj m=>
   simp only[bP]at a;unfold dS at a;split at a
   ·rename_i q hq
    injection a with a
    subst a;have c:=eQ hq;have e:=jU q;rw[cJ]at c;rw[d];omega
   ·cases a
  |_=>cases a
 ·cases h
theorem lD{old:Bool}{till:Int}:∀ {l:List (Bs×J)} {r:List Ky},aI old till l=some r→∀k ∈ r,k.key.length≤(cJ (.obj l)).length
 | [],r,h,k,a=>by
  simp only[aI,Option.some.injEq]at h;subst h;cases a
 | (id,j) :: l,r,h,k,a=>by
  simp only[aI,Option.bind_eq_some_iff,Option.map_eq_some_iff]at h;obtain⟨q,e,i,f,rfl⟩:=h;rcases List.mem_cons.1 a with rfl | a
  ·exact Nat.le_trans (zk e) (tw (List.mem_cons_self))
  ·have b:=lD f k a
   refine Nat.le_trans b ?_;have c:=fP aD l;have d:=fP aD ((id,j) :: l);rw[if_neg (by simp)]at d;have g:bE aD ((id,j) :: l)=(aD (id,j)).length+1+bE aD l:=by simp[bE]
   rw[c7,c7];simp only[List.length_cons,List.length_append,List.length_nil];split at c <;> omega
theorem mT{l:List (Bs×J)}{s:Bs}{u:Int}{ks:List Ky}(h:cw l=some (s,u,ks)):∀k ∈ ks,k.key.length≤(cJ (.obj l)).length:=by
 unfold cw at h;simp only[Option.bind_eq_some_iff]at h;obtain⟨_,_,_,_,h⟩:=h;split at h
 ·rename_i m hm
  split at h
  ·simp only[Option.bind_eq_some_iff,Option.map_eq_some_iff,Prod.mk.injEq]at h
   obtain⟨a,j,b,c,q,d,rfl,rfl,rfl⟩:=h;intro k n
   have e:k ∈ a ++b:=by
    unfold bJ at d;split at d
    ·injection d with d
     subst d;obtain⟨p,hp,rfl⟩:=List.mem_map.1 n;obtain⟨o,g,rfl⟩:=List.mem_map.1 (jN hp);exact g
    ·cases d
   rcases List.mem_append.1 e with i | f
   ·exact Nat.le_trans (lD j k i) (eQ hm)
   ·unfold fW at c
    split at c
    ·injection c with c
     subst c;cases f
    ·rename_i m2 hm2
     exact Nat.le_trans (lD c k f) (eQ hm2)
    ·cases c
  ·cases h
 ·cases h
end
section
structure Ldg where
 keys:Bs→Bs→Option (Bs×Int)
 docs:Bs→Option Bs
 asked:Bs→Option Int
def Ldg.zero:Ldg:=⟨fun _ _=>none,fun _=>none,fun _=>none⟩
def jV(now:Int):Int:=if 9223372036854774807 < now then 9223372036854775807 else now+1000
def bX(now:Int)(k:Ky):Int:=if k.old then k.till else min k.till (jV now)
def bp(sn:Bs)(now:Int)(st:Ldg)(k:Ky):Ldg:=
 { st with keys:=fun s i=>if s=sn∧i=k.id then some (k.key,match st.keys sn k.id with | some p=>max (bX now k) p.2 | none=>bX now k) else st.keys s i }
def iz(st:Ldg)(sn:Bs)(k:Ky):Bool:=match st.keys sn k.id with | some p=>decide (p.1≠k.key) | none=>false
def iZ(st:Ldg)(sn:Bs)(ks:List Ky):Bool:=ks.any (iz st sn)
def fC(st:Ldg)(sn text:Bs):Ldg:={ st with docs:=fun s=>if s=sn then some text else st.docs s }
def bR(st:Ldg)(sn:Bs)(ks:List Ky)(text:Bs)(now:Int):Nat×Ldg:=if iZ st sn ks then (6,st) else (0,fC (ks.foldl (bp sn now) st) sn text)
def bi(st:Ldg)(text:Bs)(now:Int):Nat×Ldg:=match aZ text with | .error n=>(n,st) | .ok (sn,_,ks)=>bR st sn ks text now
def bT(st:Ldg)(s i:Bs)(at':Int):Option Bs:=(st.keys s i).bind fun p=>if p.2 < at' then none else some p.1
def cP(st:Ldg)(name id key s:Bs):Bs×Nat:=match st.docs s with | none=>([],8) | some t=>bB t name id (cQ ⟨key.toArray⟩ ⟨(bU t).1.toArray⟩).data.toList
theorem yj(sn:Bs)(now:Int)(st:Ldg)(k:Ky):(bp sn now st k).docs=st.docs:=rfl
theorem vQ(sn:Bs)(now:Int)(st:Ldg)(k:Ky):(bp sn now st k).asked=st.asked:=rfl
theorem oP(sn:Bs)(now:Int)(st:Ldg)(k:Ky)(s i:Bs)(h:¬(s=sn∧i=k.id)):(bp sn now st k).keys s i=st.keys s i:=if_neg h
theorem ld(sn:Bs)(now:Int)(ks:List Ky):∀st:Ldg,(ks.foldl (bp sn now) st).docs=st.docs:=by
 induction ks with
 |nil=>intro st;rfl
 |cons k ks ih=>intro st;rw[List.foldl_cons,ih,yj]
theorem ii(sn:Bs)(now:Int)(ks:List Ky):∀st:Ldg,(ks.foldl (bp sn now) st).asked=st.asked:=by
 induction ks with
 |nil=>intro st;rfl
 |cons k ks ih=>intro st;rw[List.foldl_cons,ih,vQ]
theorem u9(sn:Bs)(now:Int)(ks:List Ky)(s:Bs)(h:s≠sn):∀(st:Ldg) (i:Bs),(ks.foldl (bp sn now) st).keys s i=st.keys s i:=by
 induction ks with
 |nil=>intro st i;rfl
 |cons k ks ih=>intro st i;rw[List.foldl_cons,ih,oP _ _ _ _ _ _ (fun e=>h e.1)]
theorem wQ(sn:Bs)(now:Int)(ks:List Ky)(i:Bs)(h:∀k ∈ ks,i≠k.id):∀(st:Ldg) (s:Bs),(ks.foldl (bp sn now) st).keys s i=st.keys s i:=by
 induction ks with
 |nil=>intro st s;rfl
 |cons k ks ih=>
  intro st s;rw[List.foldl_cons,ih (fun k' hk'=>h k' (List.mem_cons_of_mem _ hk')),oP _ _ _ _ _ _ (fun e=>h k List.mem_cons_self e.2)]
theorem gS{α:Type}{l:List α}{i:Nat}{x:α}(h:l[i]? =some x):l.take (i+1)=l.take i ++[x]:=by
 have b:i < l.length:=by
  rcases Nat.lt_or_ge i l.length with a | a
  ·exact a
  ·rw[List.getElem?_eq_none a]at h;cases h
 rw[List.take_succ_eq_append_getElem b];rw[List.getElem?_eq_getElem b]at h;injection h with h
 rw[h]
theorem wR{sn:Bs}{now:Int}{ks:List Ky}{st:Ldg}{i:Nat}{k:Ky}(h:ks[i]? =some k):(ks.take (i+1)).foldl (bp sn now) st=bp sn now ((ks.take i).foldl (bp sn now) st) k:=by
 rw[gS h,List.foldl_append];rfl
theorem tk{sn:Bs}{now:Int}{ks:List Ky}{st:Ldg}(hn:(ks.map (·.id)).Nodup)(hc:iZ st sn ks=false){i:Nat}{k:Ky}(h:ks[i]? =some k):((ks.take i).foldl (bp sn now) st).keys sn k.id=st.keys sn k.id∧iz st sn k=false:=by
 refine⟨wQ sn now _ _ ?_ st sn, ?_⟩
 ·intro k' d e
  obtain⟨j,l,f⟩:=List.mem_iff_getElem.1 d
  have c:j < i:=by
   have:(ks.take i).length≤i:=by rw[List.length_take];omega
   omega
  have g:i < ks.length:=by
   rcases Nat.lt_or_ge i ks.length with a | a
   ·exact a
   ·rw[List.getElem?_eq_none a]at h;cases h
  have b:=List.pairwise_iff_getElem.1 hn j i (by simp;omega) (by simpa using g) c;simp only[List.getElem_map]at b;rw[List.getElem_take]at f;rw[List.getElem?_eq_getElem g]at h;injection h with h
  rw[f,h]at b;exact b e.symm
 ·unfold iZ at hc
  rw[List.any_eq_false]at hc;have:=hc k (List.mem_of_getElem? h);simpa using this
structure Kn where
 srv:Bs
 id:Bs
 key:Bs
 till:Int
def bv{α:Type}(p:α→Bool)(l:List α):Option Nat:=l.findIdx? p
theorem fB{α:Type}{p:α→Bool}{l:List α}{n:Nat}(h:bv p l=some n):∃x,l[n]? =some x∧p x=true∧l.find? p=some x:=by
 induction l generalizing n with
 |nil=>simp[bv]at h
 |cons a l ih=>
  unfold bv at h ih;rw[List.findIdx?_cons]at h;by_cases b:p a=true
  ·rw[if_pos b]at h
   injection h with h
   subst h;exact⟨a,rfl,b,by simp[b]⟩
  ·rw[if_neg b]at h
   obtain⟨m,f,rfl⟩:=Option.map_eq_some_iff.1 h;obtain⟨x,c,d,e⟩:=ih f;exact⟨x,by simpa using c,d,by simp[b,e]⟩
theorem fA{α:Type}{p:α→Bool}{l:List α}(h:bv p l=none):l.find? p=none:=by
 unfold bv at h;rw[List.findIdx?_eq_none_iff]at h;rw[List.find?_eq_none];intro x a;simp[h x a]
theorem rk{α:Type}{p:α→Bool}{l:List α}{n:Nat}{x:α}(a:l[n]? =some x)(h1:p x=true)(hb:∀(j:Nat) (q:α),j < n→l[j]? =some q→p q=false):bv p l=some n:=by
 unfold bv
 have c:n < l.length:=by
  rcases Nat.lt_or_ge n l.length with b | b
  ·exact b
  ·rw[List.getElem?_eq_none b]at a;cases a
 rw[List.getElem?_eq_getElem c]at a;injection a with a
 refine List.findIdx?_eq_some_iff_getElem.2 ⟨c,by rw[a];exact h1, ?_⟩;intro j d;have:=hb j _ d (List.getElem?_eq_getElem (by omega));simpa using this
theorem BL{α:Type}{p:α→Bool}{l:List α}(hb:∀(j:Nat) (q:α),l[j]? =some q→p q=false):bv p l=none:=by
 unfold bv;rw[List.findIdx?_eq_none_iff];intro x b;obtain⟨j,a⟩:=List.mem_iff_getElem?.1 b;exact hb j x a
theorem qZ{α:Type}(p:α→Bool)(l:List α)(x:α):(l ++[x]).find? p=(l.find? p).or (if p x then some x else none):=by
 rw[List.find?_append];congr 1
 by_cases h:p x=true <;> simp[h]
theorem q7{α:Type}(p q:α→Bool)(l:List α)(n:Nat)(x y:α)(c:bv q l=some n)(hx:l[n]? =some x)(hpq:∀z,q z=true→p z=p x)(hy:p y=p x):(l.set n y).find? p=if p x then (if (l.find? p).isSome then some (match l.find? p with | some z=>if q z then y else z | none=>y) else none) else l.find? p:=by
 induction l generalizing n with
 |nil=>cases hx
 |cons a l ih=>
  unfold bv at c;rw[List.findIdx?_cons]at c;by_cases d:q a=true
  ·rw[if_pos d]at c
   injection c with c
   subst c;have e:a=x:=by simpa using hx
   subst e;rw[List.set_cons_zero];by_cases b:p a=true
   ·simp[b,hy,d]
   ·simp[b,hy]
  ·rw[if_neg d]at c
   obtain⟨m,g,rfl⟩:=Option.map_eq_some_iff.1 c;rw[List.set_cons_succ];have h:=ih m g (by simpa using hx);by_cases b:p a=true
   ·simp only[List.find?_cons,b,Option.isSome_some,if_true,d]
    by_cases f:p x=true <;> simp[f]
   ·simp only[List.find?_cons,b]
    exact h
def isK(s i:Bs)(k:Kn):Bool:=decide (k.srv=s) && decide (k.id=i)
theorem jK{s i:Bs}{k:Kn}:isK s i k=true↔k.srv=s∧k.id=i:=by simp[isK]
def cK(L:List Kn)(s i:Bs):Option (Bs×Int):=(L.find? (isK s i)).map fun k=>(k.key,k.till)
def isS{α:Type}(s:Bs)(p:Bs×α):Bool:=decide (p.1=s)
def asc{α:Type}(D:List (Bs×α))(s:Bs):Option α:=(D.find? (isS s)).map (·.2)
theorem zr{L:List Kn}{s i:Bs}(h:bv (isK s i) L=none)(key:Bs)(t:Int)(s' i':Bs):cK (L ++[⟨s,i,key,t⟩]) s' i'=if s'=s∧i'=i then some (key,t) else cK L s' i':=by
 unfold cK;rw[qZ];by_cases a:s'=s∧i'=i
 ·obtain⟨rfl,rfl⟩:=a
  rw[fA h];simp[isK]
 ·rw[if_neg a]
  have:isK s' i' ⟨s,i,key,t⟩=false:=by
   simp only[isK,Bool.and_eq_false_iff,decide_eq_false_iff_not];by_cases b:s=s'
   ·exact Or.inr (fun h2=>a ⟨b.symm,h2.symm⟩)
   ·exact Or.inl b
  rw[this];simp
theorem zs{L:List Kn}{s i:Bs}{n:Nat}{k:Kn}(h:bv (isK s i) L=some n)(hk:L[n]? =some k)(t:Int)(s' i':Bs):cK (L.set n { k with till:=t }) s' i'=if s'=s∧i'=i then some (k.key,t) else cK L s' i':=by
 obtain⟨x,b,c,f⟩:=fB h;rw[hk]at b;injection b with b
 subst b;have a:=jK.1 c;unfold cK
 rw[q7 (isK s' i') (isK s i) L n k { k with till:=t } h hk (by
   intro z g;have d:=jK.1 g;unfold isK;rw[d.1,d.2,a.1,a.2]) rfl]
 by_cases e:s'=s∧i'=i
 ·obtain⟨rfl,rfl⟩:=e
  rw[if_pos c,f];simp[c]
 ·rw[if_neg e]
  have:isK s' i' k=false:=by
   simp only[isK,Bool.and_eq_false_iff,decide_eq_false_iff_not,a.1,a.2];by_cases b:s=s'
   ·exact Or.inr (fun c=>e ⟨b.symm,c.symm⟩)
   ·exact Or.inl b
  rw[this];simp
theorem tS{α:Type}{D:List (Bs×α)}{s:Bs}(h:bv (isS s) D=none)(x:α)(s':Bs):asc (D ++[(s,x)]) s'=if s'=s then some x else asc D s':=by
 unfold asc;rw[qZ];by_cases a:s'=s
 ·subst a
  rw[fA h];simp[isS]
 ·rw[if_neg a]
  have:isS s' (s,x)=false:=by simp[isS,Ne.symm a]
  rw[this];simp
theorem tT{α:Type}{D:List (Bs×α)}{s:Bs}{n:Nat}{p:Bs×α}(h:bv (isS s) D=some n)(hk:D[n]? =some p)(x:α)(s':Bs):asc (D.set n (p.1,x)) s'=if s'=s then some x else asc D s':=by
 obtain⟨q,b,c,f⟩:=fB h;rw[hk]at b;injection b with b
 subst b;have a:p.1=s:=by simpa[isS] using c
 unfold asc
 rw[q7 (isS s') (isS s) D n p (p.1,x) h hk (by
   intro z g;have e:z.1=s:=by simpa[isS] using g
   unfold isS;rw[e,a]) rfl]
 by_cases d:s'=s
 ·subst d
  rw[if_pos c,f];simp[c]
 ·rw[if_neg d]
  have:isS s' p=false:=by simp[isS,a,Ne.symm d]
  rw[this];simp
end
section
open Go Go.RowKit Go.Maps
theorem iM{w:World}{B:Nat}{e:TypeId}{v:Value}{n:Nat}{xs:List Value}(h:w.ownsRow B e 4 v n xs):n≤9223372036854775807:=by
 obtain⟨_,⟨_,rfl⟩ | ⟨g,a,b,_,_,_,d,c,_⟩⟩:=h
 ·omega
 ·unfold maxLen at c;omega
theorem xV(W:World)(hG:GL W)(s:ByteArray)(w:World)(ho:Below W.heap.size W w)(o:List (Bs×J))(d:aM s.data.toList=.ok o)(sn:Bs)(u:Int)(ks:List Ky)(hdf:cw o=some (sn,u,ks)):
  Calls prog 21 #[.string s] w fun e w'=>RdR w (aZ s.data.toList) e w':=by
 have HN:Hid (aZ s.data.toList=if ks.all (el o sn) then .ok (sn,u,ks) else .error 5):=by show _=_;unfold aZ;rw[d];show fI o=_;unfold fI;rw[hdf]
 have U:=mT hdf;have K0:Kp (fun _=>False) w (w.alloc (.cells #[.string ⟨#[]⟩,.int .i64 0,.slice none 0 0] 30)):=(Kp.refl _ _).alloc _;have I0:=heap_alloc_new w (.cells #[.string ⟨#[]⟩,.int .i64 0,.slice none 0 0] 30);have aa:=gN W hG s _ (am ho K0);have z:=ae (An aa (An d hdf));clear aa d hdf;go_enter func21,ntmps21;go_wp2_with fail
 generalize (w.alloc (.cells #[.string ⟨#[]⟩,.int .i64 0,.slice none 0 0] 30))=w0 at *;refine z.o.1.mono ?_;rintro e w1 ⟨K1,⟨n,hn,d,rfl⟩ | ⟨f,b,d,V,rfl,hr⟩⟩
 ·rw[z.o.2.1]at d;cases d
 have au:f=o:=by
  rw[z.o.2.1]at d;injection d with d
  exact d.symm
 subst au;have aj:=K0.trans K1;have I1:=(K1.block _ (ag I0) (by simp)).trans I0;have G:RR w1 (fun c=>c < w1.heap.size) (.obj f) b:=hr.frame (fun _ _=>rfl) (fun c hc=>hc.2);have PJ:PoJ w1 (some ⟨b,0,none⟩) (some (.obj f)):=Or.inr ⟨b,_,rfl,rfl,V,G⟩;clear d hr;go_wp2_with fail
 refine (xQ w1 b f PJ).mono ?_;rintro e w2 ⟨O,hd⟩;have al:=aj.trans O;have I2:=(O.block _ (ag I1) (by simp)).trans I1;rw[z.o.2.2]at hd;obtain⟨v,rfl,row⟩:=hd;obtain⟨N,vc,rfl,ad⟩:=aJ row;have I:Kp (fun _=>False) w2 (w2.alloc (.cells #[.string ⟨sn.toArray⟩,.int .i64 u,.slice N ks.length vc] 30)):=(Kp.refl _ _).alloc _;have I3:=heap_alloc_new w2 (.cells #[.string ⟨sn.toArray⟩,.int .i64 u,.slice N ks.length vc] 30);have Q:=(PJ.kp O).kp I
 have ab:RR (w2.alloc (.cells #[.string ⟨sn.toArray⟩,.int .i64 u,.slice N ks.length vc] 30)) (fun c=>c < (w2.alloc (.cells #[.string ⟨sn.toArray⟩,.int .i64 u,.slice N ks.length vc] 30)).heap.size) (.obj f) b:=
  G.frame (fun k p=>((O.trans I).block k p (by simp))) (fun k p=>Nat.lt_of_lt_of_le p (O.trans I).size)
 have HB:=ae (oK ab (fun k p=>p) (by omega) (Kp.refl _ _));have F:=(I.block _ (ag I2) (by simp)).trans I2;have D:=an row I (by simp);have ao:=al.trans I;have ax:w.heap.size < w1.heap.size:=ag I1;clear ab G PJ row;go_wp2_with fail
 generalize (w2.alloc (.cells #[.string ⟨sn.toArray⟩,.int .i64 u,.slice N ks.length vc] 30))=w3 at *;refine HB.o.mono ?_;rintro e w4 ⟨rfl,P⟩;have r:=(P.block _ (ag F) (by simp)).trans F;have ai:=(P.block _ (ag I3) (by simp)).trans I3;have y:=an D P (by simp);have A:=ao.trans P;have ap:=Q.kp P;obtain⟨r0,r1,r2,aT,aU,aV,aS⟩:=ba r;obtain⟨d0,d1,d2,aG,aH,aI,aL⟩:=ba ai;clear HB D Q I3 F;go_wp2_with fail
 refine (fT w4 _ _ ap kSig).mono ?_;rintro e w5 ⟨pa,rfl,rfl,PA⟩;go_wp2_with fail
 refine (fT w5 _ _ PA sn).mono ?_;rintro e w6 ⟨pm,rfl,rfl,PM⟩
 have T:∀i,i < ks.length→∃g,N=some ⟨g,0,none⟩:=fun i hi=>by
  obtain⟨g,hg,_⟩:=ad (by omega);exact⟨g,hg⟩
 have aQ:=iM y;have HV:=ae (An T (An y U));clear T y U ad;have aK:(aA f).length≤600:=Nat.le_trans (jT f) V;generalize hM:bP sn (bP kSig (some (.obj f)))=M at *;have HM:=ae hM;clear hM;go_wp2_with fail
 go_loopg [11] ks.length (fun gg a wr=>∃(i:Nat),gg=ks.length - i∧i≤ks.length∧a=.int .i64 (i:Int)∧wr=w6∧∀j k,j < i→ks[j]? =some k→el f sn k=true)
 case atStart=>exact⟨0,rfl,by omega,rfl,rfl,fun _ _ h=>absurd h (by omega)⟩
 case round=>
  obtain⟨i,hg,aO,rfl,rfl,m⟩:=hrel;have HG:=ae (An hg m);clear hg m;by_cases Y:i < ks.length
  ·have Z:(i:Int) < (ks.length:Int):=by omega
   obtain⟨k,p⟩:∃k,ks[i]? =some k:=⟨ks[i],List.getElem?_eq_getElem Y⟩;obtain⟨g,rfl⟩:=HV.o.1 i Y;obtain⟨c0,c1,c2,c3⟩:=eC HV.o.2.1 i k p;have aq:=HV.o.2.2 k (List.mem_of_getElem? p);obtain⟨tl,htl⟩:∃tl:Bs,cQ ⟨k.key.toArray⟩ ⟨(aA f).toArray⟩=⟨tl.toArray⟩:=⟨_,rfl⟩;have x:=gI ⟨k.key.toArray⟩ ⟨(aA f).toArray⟩ wr (by rw[aN];omega) (by rw[aN];omega)
   have ah:Hid (Calls prog 49 #[.string ⟨k.key.toArray⟩,.string ⟨(aA f).toArray⟩] wr fun e w'=>e=.returned (.string ⟨tl.toArray⟩)∧w'=wr):=by
    refine x.mono ?_;rintro e w' ⟨rfl,rfl⟩;exact⟨congrArg (fun q=>Ending.returned (.string q)) htl,rfl⟩
   have ac:el f sn k=(k.old || match bP k.id M with | some (.str t)=>decide (t=tl) | _=>false):=by
    unfold el;have e9:(⟨tl.toArray⟩:ByteArray).data.toList=tl:=by simp
    rw[HM.o,htl,e9]
    all_goals
     cases bP k.id M with
     |none=>rfl
     |some j=>cases j <;> rfl
   have C:=ae (An ac p);clear ac p x htl aq;go_wp2_with fail
   refine (fT wr _ _ PM k.id).mono ?_;rintro e w7 ⟨px,rfl,rfl,PX⟩;generalize bP k.id M=X at *;go_wp2_with fail
   refine ah.o.mono ?_;rintro e w8 ⟨rfl,rfl⟩
   have next:el f sn k=true→∀j q,j < i+1→ks[j]? =some q→el f sn q=true:=by
    intro l j q hj hq;rcases Nat.lt_or_ge j i with h | h
    ·exact HG.o.2 j q h hq
    ·have:j=i:=by omega
     subst this;rw[C.o.2]at hq;injection hq with hq
     subst hq;exact l
   have R:el f sn k=false→aZ s.data.toList=.error 5:=by
    intro ar;rw[HN.o,if_neg];intro m;have:=List.all_eq_true.1 m k (List.mem_of_getElem? C.o.2);rw[ar]at this;cases this
   have K:=ae (An next R);clear next R
   cases hko:k.old with
   |true=>
    rw[hko]at c2;have l:el f sn k=true:=by rw[C.o.1,hko];rfl
    have HK:=ae l;clear hko l;go_wp2;go_roundg (ks.length - (i+1))
    case measure=>rw[HG.o.1];omega
    case rel=>exact⟨i+1,rfl,by omega,ak (by omega),rfl,K.o.1 HK.o⟩
   |false=>
    rw[hko]at c2;rcases PX with⟨rfl,rfl⟩ | ⟨xb,jx,rfl,rfl,_,H⟩
    ·have E:=ae (K.o.2 (by rw[C.o.1,hko];rfl))
     clear hko;go_wp2;exact bodyPost_ret (fE _ rfl rfl (cM r)) rfl (oL A E.o)
    ·by_cases B:aP jx=34
     ·obtain⟨t,rfl⟩:=kh B
      clear B
      cases H with
      |str t hFx hxb=>
       obtain⟨x0,x1,x2,x3,x4,ay,az,aB,aC,aD,af⟩:=aw hxb;by_cases L:t=tl
       ·have av:(t == tl)=true:=by simpa using L
        have l:el f sn k=true:=by rw[C.o.1,hko];simp[L]
        have HK:=ae l;clear hko l L;go_wp2;go_roundg (ks.length - (i+1))
        case measure=>rw[HG.o.1];omega
        case rel=>exact⟨i+1,rfl,by omega,ak (by omega),rfl,K.o.1 HK.o⟩
       ·have av:(t == tl)=false:=by simpa using L
        have E:=ae (K.o.2 (by rw[C.o.1,hko];simp[L]));clear hko L;go_wp2;exact bodyPost_ret (fE _ rfl rfl (cM r)) rfl (oL A E.o)
     ·obtain⟨nn,tt,aE,aF,S⟩:=H.kind
      obtain⟨x0,x1,x2,x3,x4,ay,az,aB,aC,aD,af⟩:=aw S;have aR:(((aP jx:Nat):Int) != 34)=true:=by simp;omega
      have E:=ae (K.o.2 (by
        rw[C.o.1,hko]
        cases jx with
        |str t=>exact absurd rfl B
        |_=>rfl))
      clear H S B hko C K;generalize aP jx=kd at *;go_wp2;exact bodyPost_ret (fE _ rfl rfl (cM r)) rfl (oL A E.o)
  ·have Z:¬(i:Int) < (ks.length:Int):=by omega
   have E:Hid (aZ s.data.toList=.ok (sn,u,ks)):=by
    show _=_
    rw[HN.o,if_pos];rw[List.all_eq_true];intro k p;obtain⟨j,hj,he⟩:=List.mem_iff_getElem.1 p;exact HG.o.2 j k (by omega) (by rw[List.getElem?_eq_getElem hj,he])
   go_wp2;exact bodyPost_ret (fE _ rfl rfl (cM r)) rfl (D7 A ax HV.o.2.1 E.o)
theorem uP(W:World)(hG:GL W)(s:ByteArray)(w:World)(ho:Below W.heap.size W w):
  Calls prog 21 #[.string s] w fun e w'=>RdR w (aZ s.data.toList) e w':=by
 cases hof:aM s.data.toList with
 |error n=>exact sj W hG s w ho (fun o h=>by rw[hof]at h;cases h)
 |ok o=>
  cases hdf:cw o with
  |none=>exact sj W hG s w ho (fun o' h=>by rw[hof]at h;injection h with h;subst h;exact hdf)
  |some d=>
   obtain⟨sn,u,a⟩:=d;exact xV W hG s w ho o hof sn u a hdf
end
end Go.Proofs.YtocligpfmfmihaaGreatDoor
