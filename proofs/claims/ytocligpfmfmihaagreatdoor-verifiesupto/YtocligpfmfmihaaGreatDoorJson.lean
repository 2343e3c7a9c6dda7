import Derived.Lib.ValidLaws
namespace Go.Proofs.YtocligpfmfmihaaGreatDoor
section
open Go.Lib
abbrev Bs:=List UInt8
inductive J where
 |null
 |bool (b:Bool)
 |num (n:Int)
 |str (s:Bs)
 |arr (l:List J)
 |obj (l:List (Bs×J))
def ai{α:Type}(k:Bs):List (Bs×α)→Option α
 | []=>none
 | (a,x) :: l=>if a=k then some x else ai k l
def aC{α:Type}(k:Bs)(v:α):List (Bs×α)→List (Bs×α)
 | []=>[(k,v)]
 | (a,x) :: l=>if k < a then (k,v) :: (a,x) :: l else if a=k then (k,v) :: l else (a,x) :: aC k v l
def bo{α:Type}(k:Bs)(l:List (Bs×α)):List (Bs×α):=l.filter fun p=> !decide (p.1=k)
def ofL{α:Type}(l:List (Bs×α)):List (Bs×α):=l.foldl (fun a p=>aC p.1 p.2 a) []
def Srt{α:Type}(l:List (Bs×α)):Prop:=l.Pairwise fun a b=>a.1 < b.1
theorem dz(a:Bs):¬a < a:=List.lt_irrefl a
theorem kC{a b c:Bs}(h:a < b)(g:b < c):a < c:=List.lt_trans h g
theorem xo(a b:Bs):a < b∨a=b∨b < a:=by
 by_cases h:a < b
 ·exact .inl h
 ·by_cases g:b < a
  ·exact .inr (.inr g)
  ·exact .inr (.inl (List.le_antisymm (List.not_lt.1 g) (List.not_lt.1 h)))
variable{α:Type}
theorem oA(k:Bs)(v:α)(l:List (Bs×α)):ai k (aC k v l)=some v:=by
 induction l with
 |nil=>simp[aC,ai]
 |cons p l ih=>
  obtain⟨a,x⟩:=p;unfold aC;split
  ·simp[ai]
  ·split
   ·simp[ai]
   ·simp[ai, *]
theorem nc(k c:Bs)(v:α)(l:List (Bs×α))(h:c≠k):ai c (aC k v l)=ai c l:=by
 induction l with
 |nil=>simp[aC,ai,Ne.symm h]
 |cons p l ih=>
  obtain⟨a,x⟩:=p;unfold aC;split
  ·simp[ai,Ne.symm h]
  ·split
   ·rename_i h1 h2
    subst h2;simp[ai,Ne.symm h]
   ·simp[ai,ih]
theorem nh{k:Bs}{v:α}{l:List (Bs×α)}{p:Bs×α}(h:p ∈ aC k v l):p=(k,v)∨p ∈ l:=by
 induction l with
 |nil=>simpa[aC] using h
 |cons q l b=>
  obtain⟨a,x⟩:=q;unfold aC at h;split at h
  ·simpa using h
  ·split at h
   ·rcases List.mem_cons.1 h with h | h
    ·exact .inl h
    ·exact .inr (List.mem_cons.2 (.inr h))
   ·rcases List.mem_cons.1 h with h | h
    ·exact .inr (List.mem_cons.2 (.inl h))
    ·rcases b h with h | h
     ·exact .inl h
     ·exact .inr (List.mem_cons.2 (.inr h))
theorem gC(k:Bs)(v:α)(l:List (Bs×α))(h:Srt l):Srt (aC k v l):=by
 induction l with
 |nil=>simp[aC,Srt]
 |cons p l ih=>
  obtain⟨a,x⟩:=p;obtain⟨c,d⟩:=List.pairwise_cons.1 h;unfold aC;split
  ·rename_i hlt
   refine List.pairwise_cons.2 ⟨?_,h⟩;intro q b;rcases List.mem_cons.1 b with rfl | b
   ·exact hlt
   ·exact kC hlt (c q b)
  ·split
   ·rename_i _ e
    subst e;exact List.pairwise_cons.2 ⟨c,d⟩
   ·rename_i hn hne
    refine List.pairwise_cons.2 ⟨?_,ih d⟩;intro q b;rcases nh b with rfl | b
    ·rcases xo a k with h | h | h
     ·exact h
     ·exact absurd h hne
     ·exact absurd h hn
    ·exact c q b
theorem fR(l:List (Bs×α)):Srt (ofL l):=by
 unfold ofL
 have:∀(a:List (Bs×α)),Srt a→Srt (l.foldl (fun a p=>aC p.1 p.2 a) a):=by
  induction l with
  |nil=>intro a h;exact h
  |cons p l ih=>intro a h;exact ih _ (gC _ _ _ h)
 exact this [] List.Pairwise.nil
theorem eY(l:List (Bs×α))(k:Bs)(v:α):ofL (l ++[(k,v)])=aC k v (ofL l):=by simp[ofL]
theorem lE(k:Bs)(l m:List (Bs×α)):ai k (l ++m)=(ai k l).or (ai k m):=by
 induction l with
 |nil=>simp[ai]
 |cons p l ih=>
  obtain⟨a,x⟩:=p;by_cases h:a=k <;> simp[ai,h,ih]
theorem oB{k:Bs}{l:List (Bs×α)}:ai k l=none↔∀p ∈ l,p.1≠k:=by
 induction l with
 |nil=>simp[ai]
 |cons p l ih=>
  obtain⟨a,x⟩:=p;by_cases h:a=k <;> simp[ai,h,ih]
def Nod(l:List (Bs×α)):Prop:=(l.map (·.1)).Nodup
theorem eV(l:List (Bs×α))(k:Bs)(v:α):Nod (l ++[(k,v)])↔Nod l∧ai k l=none:=by
 unfold Nod;rw[oB,List.map_append,List.nodup_append];constructor
 ·rintro⟨h,_,g⟩
  refine⟨h,fun p hp e=> ?_⟩;exact g p.1 (List.mem_map.2 ⟨p,hp,rfl⟩) k (by simp) e
 ·rintro⟨h,g⟩
  refine⟨h,by simp, ?_⟩;intro a c b d;obtain⟨p,hp,rfl⟩:=List.mem_map.1 c;obtain rfl:b=k:=by simpa using d
  exact g p hp
theorem eU(k:Bs)(l:List (Bs×α))(h:Nod l):ai k (ofL l)=ai k l:=by
 have:∀n (l:List (Bs×α)),l.length=n→Nod l→ai k (ofL l)=ai k l:=by
  intro n
  induction n with
  |zero=>intro l c _;obtain rfl:=List.eq_nil_of_length_eq_zero c;rfl
  |succ n ih=>
   intro l c i;have b:l≠[]:=by intro e;subst e;simp at c
   obtain⟨m,p,rfl⟩:∃m p,l=m ++[p]:=⟨l.dropLast,l.getLast b,(List.dropLast_concat_getLast b).symm⟩;obtain⟨a,x⟩:=p;obtain⟨f,g⟩:=(eV m a x).1 i;rw[eY];have e:=ih m (by simpa using c) f;by_cases d:k=a
   ·subst d
    rw[oA,lE,g];simp[ai]
   ·rw[nc _ _ _ _ d,e,lE]
    simp[ai,Ne.symm d]
 exact this l.length l rfl h
def gt(c:UInt8):Bool:=c == 32 || c == 9 || c == 10 || c == 13
def sk(s:Bs):Bs:=s.dropWhile gt
def aW(c:UInt8):Bool:=decide (48≤c) && decide (c≤57)
def dgs(s:Bs):Bs:=s.takeWhile aW
def aO(l:Bs):Nat:=l.foldl (fun n c=>n*10+(c.toNat - 48)) 0
def bK:Nat:=9007199254740991
def whole(d:Bs):Bool:=d == [48] || (d != [] && d.head? != some 48)
def iO(s:Bs):Option (Nat×Bs):=if whole (dgs s) && decide (aO (dgs s)≤bK) then some (aO (dgs s),s.dropWhile aW) else none
def eA(s:Bs):Option (Int×Bs):=
 match s with
 | []=>none
 |c :: t=>if c=45 then (match iO t with | some (n,r)=>if n=0 then none else some (-(n:Int),r) | none=>none) else (iO (c :: t)).map fun x=>((x.1:Int),x.2)
def bG(c:UInt8):Option Nat:=
 if 48≤c∧c≤57 then some (c.toNat - 48) else if 97≤c∧c≤102 then some (c.toNat - 97+10) else if 65≤c∧c≤70 then some (c.toNat - 65+10) else none
def cI(s:Bs):Option (Nat×Bs):=
 match s with
 |a :: b :: c :: d :: t=>(bG a).bind fun a=>(bG b).bind fun b=>(bG c).bind fun c=>(bG d).map fun d=>(((a*16+b)*16+c)*16+d,t)
 |_=>none
def dJ(s:Bs):Option (Nat×Bs):=
 match cI s with
 |none=>none
 |some (x,r)=>
  if x < 55296∨57343 < x then some (x,r) else if 56319 < x then none else
  match r with
  |a :: b :: q=>if a=92∧b=117 then (match cI q with | some (y,z)=>if 56320≤y∧y≤57343 then some (65536+(x - 55296)*1024+(y - 56320),z) else none | none=>none) else none
  |_=>none
def esc(s:Bs):Option (Nat×Bs):=
 match s with
 | []=>none
 |c :: t=>
  if c=34∨c=92∨c=47 then some (c.toNat,t) else if c=98 then some (8,t) else if c=102 then some (12,t) else if c=110 then some (10,t)
  else if c=114 then some (13,t) else if c=116 then some (9,t) else if c=117 then dJ t else none
def ch(u:Bool)(c:UInt8)(t:Bs):Option (Bs×Bs):=
 if c < 32 then none
 else if c=92 then (esc t).map fun x=>((Utf8.encode x.1).data.toList,x.2)
 else if u then (if (decodeL (c :: t)).1=65533∧(decodeL (c :: t)).2=1 then none else some ((c :: t).take (decodeL (c :: t)).2,(c :: t).drop (decodeL (c :: t)).2))
 else some ([c],t)
def br(u:Bool)(s:Bs):Option (Bs×Bs):=
 match s with
 | []=>none
 |c :: t=>if c=34 then some ([],t) else
  match ch u c t with
  |none=>none
  |some (o,r)=>if r.length < (c :: t).length then (br u r).map fun x=>(o ++x.1,x.2) else none
termination_by s.length
def bc{σ:Type}(p:σ→Bs→Option (σ×Bs))(e:UInt8):Nat→σ→Bs→Option (σ×Bs)
 |0,_,_=>none
 |n+1,a,s=>
  match sk s with
  | []=>none
  |c :: t=>if c=44 then (match p a t with | some (b,r)=>bc p e n b r | none=>none) else if c=e then some (a,t) else none
def bD{σ:Type}(p:σ→Bs→Option (σ×Bs))(e:UInt8)(a:σ)(s:Bs):Option (σ×Bs):=
 if (sk s).head? =some e then some (a,(sk s).tail) else match p a s with | some (b,r)=>bc p e (r.length+1) b r | none=>none
def pEl(pv:Bs→Option (J×Bs))(a:List J)(s:Bs):Option (List J×Bs):=(pv s).map fun x=>(a ++[x.1],x.2)
def bq(u:Bool)(pv:Bs→Option (J×Bs))(a:List (Bs×J))(s:Bs):Option (List (Bs×J)×Bs):=
 match sk s with
 | []=>none
 |c :: t=>if c=34 then
   (match br u t with
    |none=>none
    |some (k,r)=>if (ai k a).isSome then none else
      match sk r with
      | []=>none
      |c :: q=>if c=58 then (pv q).map fun x=>(a ++[(k,x.1)],x.2) else none) else none
def b7(s:Bs):Option (J×Bs):=
 if s.take 4=[110,117,108,108] then some (.null,s.drop 4) else if s.take 4=[116,114,117,101] then some (.bool true,s.drop 4)
 else if s.take 5=[102,97,108,115,101] then some (.bool false,s.drop 5) else none
def cE(u:Bool)(c:UInt8)(t:Bs):Option (J×Bs):=
 if c=34 then (br u t).map fun x=>(.str x.1,x.2)
 else if c=45∨aW c=true then (eA (c :: t)).map fun x=>(.num x.1,x.2)
 else b7 (c :: t)
def az(u:Bool):Nat→Bs→Option (J×Bs)
 |0,s=>
  match sk s with
  | []=>none
  |c :: t=>if c=123∨c=91 then none else cE u c t
 |d+1,s=>
  match sk s with
  | []=>none
  |c :: t=>
   if c=123 then (bD (bq u (az u d)) 125 [] t).map fun x=>(.obj (ofL x.1),x.2)
   else if c=91 then (bD (pEl (az u d)) 93 [] t).map fun x=>(.arr x.1,x.2)
   else cE u c t
def iP(u:Bool)(s:Bs):Option J:=
 match az u 6 s with
 |some (j,t)=>if sk t=[] then some j else none
 |none=>none
def dk(s:Bs):Option J:=if validD s then iP false s else none
theorem cN(s:Bs):(sk s).length≤s.length:=by unfold sk;exact (List.dropWhile_suffix _).length_le
theorem l8{s r:Bs}{x:Nat}(h:esc s=some (x,r)):r.length < s.length:=by
 have a:∀ {q z:Bs} {y:Nat},cI q=some (y,z)→z.length < q.length:=by
  intro q z y h;unfold cI at h;split at h
  ·simp only[Option.bind_eq_some_iff,Option.map_eq_some_iff,Prod.mk.injEq]at h
   obtain⟨_,_,_,_,_,_,_,_,_,rfl⟩:=h;simp;omega
  ·simp at h
 unfold esc at h;split at h
 ·simp at h
 ·rename_i c t
  repeat' split at h
  all_goals first | (simp at h;obtain⟨_,rfl⟩:=h;simp) | (simp at h;done) | skip
  unfold dJ at h;split at h
  ·simp at h
  ·rename_i x' r' h1
   have b:=a h1;split at h
   ·simp at h;obtain⟨_,rfl⟩:=h;simp;omega
   ·split at h
    ·simp at h
    ·split at h
     ·split at h
      ·split at h
       ·rename_i h2
        have d:=a h2;split at h
        ·simp at h;obtain⟨_,rfl⟩:=h;simp at b ⊢;omega
        ·simp at h
       ·simp at h
      ·simp at h
     ·simp at h
theorem nK{u:Bool}{c:UInt8}{t o r:Bs}(h:ch u c t=some (o,r)):r.length < (c :: t).length:=by
 unfold ch at h;split at h
 ·simp at h
 ·split at h
  ·simp only[Option.map_eq_some_iff,Prod.mk.injEq]at h
   obtain⟨⟨x,b⟩,a,_,rfl⟩:=h;have:=l8 a;simp only[List.length_cons];omega
  ·split at h
   ·split at h
    ·simp at h
    ·simp only[Option.some.injEq,Prod.mk.injEq]at h
     obtain⟨_,rfl⟩:=h;have:=decodeL_width (c :: t);rw[List.length_drop];simp only[List.length_cons];omega
   ·simp only[Option.some.injEq,Prod.mk.injEq]at h
    obtain⟨_,rfl⟩:=h;simp
theorem bN(u:Bool)(c:UInt8)(t:Bs):br u (c :: t)=if c=34 then some ([],t) else match ch u c t with | none=>none | some (o,r)=>(br u r).map fun x=>(o ++x.1,x.2):=by
 rw[br];split
 ·rfl
 ·split
  ·rfl
  ·rename_i o r h
   rw[if_pos (nK h)]
theorem fL(u:Bool):br u []=none:=by rw[br]
theorem kL{u:Bool}:∀(n:Nat) {s o r:Bs},s.length≤n→br u s=some (o,r)→r.length < s.length
 |n,[],o,r,_,h=>by rw[fL]at h;simp at h
 |0,c :: t,o,r,hn,_=>by simp at hn
 |n+1,c :: t,o,r,hn,h=>by
  rw[bN]at h;split at h
  ·simp at h;obtain⟨_,rfl⟩:=h;simp
  ·split at h
   ·simp at h
   ·rename_i o' b h1
    have g:=nK h1;simp only[Option.map_eq_some_iff,Prod.mk.injEq]at h;obtain⟨⟨x,r''⟩,a,_,rfl⟩:=h;have:=kL n (by simp at g hn;omega) a;simp only[List.length_cons]at *;omega
theorem qN(l:Bs)(hne:l≠[])(h0:128≤(l.getD 0 0).toNat):
  (decodeL l).2≤l.length∧∀i,i < (decodeL l).2→128≤(l.getD i 0).toNat:=by
 refine⟨decodeL_le l hne, ?_⟩;intro i a;rw[decodeL_N]at a;unfold decodeN at a
 repeat' split at a
 all_goals simp only at a
 all_goals (rcases (show i=0∨i=1∨i=2∨i=3 by omega) with rfl | rfl | rfl | rfl)
 all_goals first | exact h0 | omega | (exfalso;omega)
theorem xE(l r:Bs)(h:∀b ∈ l,128≤b.toNat):br false (l ++r)=(br false r).map fun x=>(l ++x.1,x.2):=by
 induction l with
 |nil=>simp
 |cons c l ih=>
  have f:=h c (by simp);have d:c≠34:=by rintro rfl;revert f;decide
  have e:c≠92:=by rintro rfl;revert f;decide
  have a:¬c < 32:=by rw[UInt8.lt_iff_toNat_lt];simp;omega
  rw[List.cons_append,bN,if_neg d];simp only[ch,if_neg a,if_neg e,Bool.false_eq_true,if_false];rw[ih (fun b hb=>h b (by simp[hb]))];cases br false r <;> simp
theorem pS{s r:Bs}{x:Nat}(h:esc s=some (x,r)):validD s=validD r:=by
 have d:∀ {c:UInt8} {y:Nat},bG c=some y→c.toNat < 128:=by
  intro c y h;unfold bG at h;have:=UInt8.le_iff_toNat_le (a:=c) (b:=57);have:=UInt8.le_iff_toNat_le (a:=c) (b:=102);have:=UInt8.le_iff_toNat_le (a:=c) (b:=70)
  repeat' split at h
  all_goals simp_all
  all_goals omega
 have e:∀ {q z:Bs} {y:Nat},cI q=some (y,z)→validD q=validD z:=by
  intro q z y h;unfold cI at h;split at h
  ·simp only[Option.bind_eq_some_iff,Option.map_eq_some_iff,Prod.mk.injEq]at h
   obtain⟨_,f,_,g,_,g3,_,g4,_,rfl⟩:=h;rw[validD_cons _ _ (d f),validD_cons _ _ (d g),validD_cons _ _ (d g3),validD_cons _ _ (d g4)]
  ·simp at h
 unfold esc at h;split at h
 ·simp at h
 ·rename_i c t
  repeat' split at h
  case h_2.isTrue=>
   rename_i hc;simp at h;obtain⟨_,rfl⟩:=h;rw[validD_cons];rcases hc with rfl | rfl | rfl <;> decide
  all_goals first | (rename_i hc;subst hc;simp at h;obtain⟨_,rfl⟩:=h;rw[validD_cons _ _ (by decide)];done) | (simp at h;done) | skip
  rename_i hc;subst hc;rw[validD_cons _ _ (by decide)];unfold dJ at h;split at h
  ·simp at h
  ·rename_i x' r' h1
   rw[e h1];split at h
   ·simp at h;obtain⟨_,rfl⟩:=h;rfl
   ·split at h
    ·simp at h
    ·split at h
     ·split at h
      ·rename_i hab
       obtain⟨rfl,rfl⟩:=hab;split at h
       ·rename_i h2
        split at h
        ·simp at h;obtain⟨_,rfl⟩:=h
         rw[validD_cons _ _ (by decide),validD_cons _ _ (by decide)];exact e h2
        ·simp at h
       ·simp at h
      ·simp at h
     ·simp at h
theorem eL:∀(n:Nat) {s o r:Bs},s.length≤n→br true s=some (o,r)→validD s=validD r
 |n,[],o,r,_,h=>by rw[fL]at h;simp at h
 |0,c :: t,o,r,hn,_=>by simp at hn
 |n+1,c :: t,o,r,hn,h=>by
  rw[bN]at h;split at h
  ·rename_i hc
   subst hc;simp at h;obtain⟨_,rfl⟩:=h;rw[validD_cons _ _ (by decide)]
  ·split at h
   ·simp at h
   ·rename_i o' d h1
    have g:=nK h1;simp only[Option.map_eq_some_iff,Prod.mk.injEq]at h;obtain⟨⟨x,r''⟩,a,_,rfl⟩:=h;rw[←eL n (by simp at g hn;omega) a];unfold ch at h1;split at h1
    ·simp at h1
    ·split at h1
     ·rename_i hc
      subst hc;simp only[Option.map_eq_some_iff,Prod.mk.injEq]at h1;obtain⟨⟨e,q⟩,b,_,rfl⟩:=h1;rw[validD_cons _ _ (by decide)];exact pS b
     ·simp only[if_true]at h1
      split at h1
      ·simp at h1
      ·rename_i hb
       simp only[Option.some.injEq,Prod.mk.injEq]at h1;obtain⟨_,rfl⟩:=h1;rw[validD_step _ (by simp),if_neg hb]
theorem pU{l:Bs}{k:Nat}(h:∀i,i < k→128≤(l.getD i 0).toNat)(hk:k≤l.length):∀b ∈ l.take k,128≤b.toNat:=by
 intro b a;obtain⟨i,c,rfl⟩:=List.mem_iff_getElem.1 a;simp only[List.length_take]at c;have:=h i (by omega);rw[List.getElem_take];simpa[List.getD_eq_getElem?_getD,List.getElem?_eq_getElem (show i < l.length by omega)] using this
theorem ga:∀(n:Nat) {s:Bs},s.length≤n→validD s=true→br true s=br false s
 |n,[],_,_=>by rw[fL,fL]
 |0,c :: t,hn,_=>by simp at hn
 |n+1,c :: t,hn,hv=>by
  rw[bN];by_cases a:c=34
  ·rw[bN,if_pos a,if_pos a]
  rw[if_neg a];by_cases b:c < 32
  ·rw[bN,if_neg a];simp[ch,b]
  by_cases f:c=92
  ·subst f
   rw[bN,if_neg a];simp only[ch,if_neg b,if_true]
   cases he:esc t with
   |none=>simp
   |some p=>
    obtain⟨x,r⟩:=p;simp only[Option.map_some];have g:=l8 he;rw[ga n (by simp at hn;omega) (by rw[←pS he,←validD_cons 92 t (by decide)];exact hv)]
  have d:¬((decodeL (c :: t)).1=65533∧(decodeL (c :: t)).2=1):=by
   intro j;rw[validD_step _ (by simp),if_pos j]at hv;cases hv
  have h:validD ((c :: t).drop (decodeL (c :: t)).2)=true:=by rw[validD_step _ (by simp),if_neg d]at hv;exact hv
  have e:ch true c t=some ((c :: t).take (decodeL (c :: t)).2,(c :: t).drop (decodeL (c :: t)).2):=by simp only[ch,if_neg b,if_neg f,if_true,if_neg d]
  rw[e];simp only;have m:=decodeL_width (c :: t);rw[ga n (by rw[List.length_drop];simp only[List.length_cons]at *;omega) h];by_cases i:c.toNat < 128
  ·rw[decodeL_ascii c t i,bN,if_neg a]
   simp[ch,b,f]
  ·obtain⟨l,k⟩:=qN (c :: t) (by simp) (by simpa using i)
   have:=xE ((c :: t).take (decodeL (c :: t)).2) ((c :: t).drop (decodeL (c :: t)).2) (pU k l);rw[List.take_append_drop]at this;exact this.symm
theorem gB(s:Bs):validD (sk s)=validD s:=by
 induction s with
 |nil=>rfl
 |cons c t ih=>
  unfold sk at ih ⊢;rw[List.dropWhile_cons];split
  ·rename_i h
   rw[ih,validD_cons];unfold gt at h;simp only[Bool.or_eq_true,beq_iff_eq]at h;rcases h with ((rfl | rfl) | rfl) | rfl <;> decide
  ·rfl
theorem bu{s t:Bs}{c:UInt8}(h:sk s=c :: t)(hc:c.toNat < 128):validD s=validD t:=by rw[←gB s,h,validD_cons c t hc]
theorem DX{c:UInt8}(h:aW c=true):c.toNat < 128:=by
 unfold aW at h;simp only[Bool.and_eq_true,decide_eq_true_eq]at h;have:=UInt8.le_iff_toNat_le.1 h.2;simp at this;omega
theorem qS(s:Bs):validD (s.dropWhile aW)=validD s:=by
 induction s with
 |nil=>rfl
 |cons c t ih=>
  rw[List.dropWhile_cons];split
  ·rename_i h
   rw[ih,validD_cons _ _ (DX h)]
  ·rfl
theorem oH{s r:Bs}{n:Nat}(h:iO s=some (n,r)):validD s=validD r:=by
 unfold iO at h;split at h
 ·simp only[Option.some.injEq,Prod.mk.injEq]at h
  obtain⟨_,rfl⟩:=h;exact (qS s).symm
 ·simp at h
theorem vz{s r:Bs}{n:Int}(h:eA s=some (n,r)):validD s=validD r:=by
 unfold eA at h;split at h
 ·simp at h
 ·split at h
  ·rename_i hc
   subst hc;rw[validD_cons _ _ (by decide)];split at h
   ·rename_i a
    split at h
    ·simp at h
    ·simp only[Option.some.injEq,Prod.mk.injEq]at h
     obtain⟨_,rfl⟩:=h;exact oH a
   ·simp at h
  ·simp only[Option.map_eq_some_iff,Prod.mk.injEq]at h
   obtain⟨⟨x,q⟩,a,_,rfl⟩:=h;exact oH a
theorem vP{s w:Bs}{k:Nat}(h:s.take k=w)(hw:∀b ∈ w,b.toNat < 128):validD s=validD (s.drop k):=by
 subst h;exact validD_ascii k s hw
theorem tz{s r:Bs}{j:J}(h:b7 s=some (j,r)):validD s=validD r:=by
 unfold b7 at h
 repeat' split at h
 all_goals first | (simp only[Option.some.injEq,Prod.mk.injEq]at h;rename_i h1;rw[←h.2];exact vP h1 (by decide)) | (simp at h;done)
theorem ji{c:UInt8}{t r:Bs}{j:J}(h:cE true c t=some (j,r)):validD (c :: t)=validD r:=by
 unfold cE at h;split at h
 ·rename_i hc
  subst hc;simp only[Option.map_eq_some_iff,Prod.mk.injEq]at h;obtain⟨⟨x,q⟩,a,_,rfl⟩:=h;rw[validD_cons _ _ (by decide)];exact eL _ (Nat.le_refl _) a
 ·split at h
  ·simp only[Option.map_eq_some_iff,Prod.mk.injEq]at h
   obtain⟨⟨x,q⟩,a,_,rfl⟩:=h;exact vz a
  ·exact tz h
def kU{σ:Type}(p:σ→Bs→Option (σ×Bs)):Prop:=∀a s b r,p a s=some (b,r)→validD s=validD r
theorem mK{σ:Type}{p:σ→Bs→Option (σ×Bs)}(hp:kU p){e:UInt8}(he:e.toNat < 128):
  ∀(n:Nat) (a:σ) (s:Bs) (b:σ) (r:Bs),bc p e n a s=some (b,r)→validD s=validD r
 |0,a,s,b,r,h=>by simp[bc]at h
 |n+1,a,s,b,r,h=>by
  unfold bc at h;split at h
  ·simp at h
  ·rename_i c t hs
   split at h
   ·rename_i hc
    subst hc;split at h
    ·rename_i b' r' h1
     rw[bu hs (by decide),hp _ _ _ _ h1];exact mK hp he n _ _ _ _ h
    ·simp at h
   ·split at h
    ·rename_i hc
     subst hc;simp only[Option.some.injEq,Prod.mk.injEq]at h;obtain⟨_,rfl⟩:=h;exact bu hs he
    ·simp at h
theorem oI{σ:Type}{p:σ→Bs→Option (σ×Bs)}(hp:kU p){e:UInt8}(he:e.toNat < 128){a b:σ}{s r:Bs}(h:bD p e a s=some (b,r)):validD s=validD r:=by
 unfold bD at h;split at h
 ·rename_i hh
  simp only[Option.some.injEq,Prod.mk.injEq]at h;obtain⟨_,rfl⟩:=h
  cases hs:sk s with
  |nil=>rw[hs]at hh;simp at hh
  |cons c t=>
   rw[hs]at hh;simp at hh;subst hh;exact bu hs he
 ·split at h
  ·rename_i h1
   rw[hp _ _ _ _ h1];exact mK hp he _ _ _ _ _ h
  ·simp at h
theorem jh{pv:Bs→Option (J×Bs)}(hp:∀s j r,pv s=some (j,r)→validD s=validD r):kU (bq true pv):=by
 intro a s b r h;unfold bq at h;split at h
 ·simp at h
 ·rename_i c t hs
  split at h
  ·rename_i hc
   subst hc;rw[bu hs (by decide)];split at h
   ·simp at h
   ·rename_i k q h1
    rw[eL _ (Nat.le_refl _) h1];split at h
    ·simp at h
    ·split at h
     ·simp at h
     ·rename_i c2 q2 hs2
      split at h
      ·rename_i hc2
       subst hc2;rw[bu hs2 (by decide)];simp only[Option.map_eq_some_iff,Prod.mk.injEq]at h;obtain⟨⟨x,z⟩,d,_,rfl⟩:=h;exact hp _ _ _ d
      ·simp at h
  ·simp at h
theorem eg:∀(d:Nat) (s:Bs) (j:J) (r:Bs),az true d s=some (j,r)→validD s=validD r
 |0,s,j,r,h=>by
  unfold az at h;split at h
  ·simp at h
  ·rename_i c t hs
   split at h
   ·simp at h
   ·rw[←gB s,hs];exact ji h
 |d+1,s,j,r,h=>by
  unfold az at h;split at h
  ·simp at h
  ·rename_i c t hs
   split at h
   ·rename_i hc
    subst hc;simp only[Option.map_eq_some_iff,Prod.mk.injEq]at h;obtain⟨⟨x,z⟩,e,_,rfl⟩:=h;rw[bu hs (by decide)];exact oI (jh (eg d)) (by decide) e
   ·split at h
    ·rename_i hc
     subst hc;simp only[Option.map_eq_some_iff,Prod.mk.injEq]at h;obtain⟨⟨x,z⟩,e,_,rfl⟩:=h;rw[bu hs (by decide)];refine oI ?_ (by decide) e;intro a s b r f;unfold pEl at f;simp only[Option.map_eq_some_iff,Prod.mk.injEq]at f;obtain⟨⟨x,z⟩,g,_,rfl⟩:=f;exact eg d _ _ _ g
    ·rw[←gB s,hs];exact ji h
theorem uB{c:UInt8}{t:Bs}(h:validD (c :: t)=true):cE true c t=cE false c t:=by
 unfold cE;split
 ·rename_i hc
  subst hc;rw[ga _ (Nat.le_refl _) (by rw[←validD_cons 34 t (by decide)];exact h)]
 ·rfl
def Ar{σ:Type}(p q:σ→Bs→Option (σ×Bs)):Prop:=∀a s,validD s=true→p a s=q a s
theorem rN{σ:Type}{p q:σ→Bs→Option (σ×Bs)}(hp:kU p)(hpq:Ar p q){e:UInt8}:
  ∀(n:Nat) (a:σ) (s:Bs),validD s=true→bc p e n a s=bc q e n a s
 |0,a,s,_=>rfl
 |n+1,a,s,hv=>by
  unfold bc;split
  ·rfl
  ·rename_i c t hs
   split
   ·rename_i hc
    subst hc;have d:validD t=true:=by rw[←bu hs (by decide)];exact hv
    rw[←hpq a t d];split
    ·rename_i b r h1
     exact rN hp hpq n b r (by rw[←hp _ _ _ _ h1];exact d)
    ·rfl
   ·rfl
theorem uF{σ:Type}{p q:σ→Bs→Option (σ×Bs)}(hp:kU p)(hpq:Ar p q){e:UInt8}(a:σ)(s:Bs)(hv:validD s=true):bD p e a s=bD q e a s:=by
 unfold bD;split
 ·rfl
 ·rw[←hpq a s hv]
  split
  ·rename_i b r h1
   exact rN hp hpq _ b r (by rw[←hp _ _ _ _ h1];exact hv)
  ·rfl
theorem pz:∀(d:Nat) (s:Bs),validD s=true→az true d s=az false d s
 |0,s,e=>by
  unfold az;split
  ·rfl
  ·rename_i c t hs
   split
   ·rfl
   ·exact uB (by rw[←hs,gB];exact e)
 |d+1,s,e=>by
  unfold az;split
  ·rfl
  ·rename_i c t hs
   split
   ·rename_i hc
    subst hc;have f:validD t=true:=by rw[←bu hs (by decide)];exact e
    rw[uF (jh (eg d)) ?_ _ _ f];intro a s e;unfold bq;split
    ·rfl
    ·rename_i c t hs
     split
     ·rename_i hc
      subst hc;have f:validD t=true:=by rw[←bu hs (by decide)];exact e
      rw[←ga _ (Nat.le_refl _) f];split
      ·rfl
      ·rename_i k r h1
       have i:validD r=true:=by rw[←eL _ (Nat.le_refl _) h1];exact f
       split
       ·rfl
       ·split
        ·rfl
        ·rename_i c2 q2 hs2
         split
         ·rename_i hc2
          subst hc2;rw[pz d q2 (by rw[←bu hs2 (by decide)];exact i)]
         ·rfl
     ·rfl
   ·split
    ·rename_i hc
     subst hc;have f:validD t=true:=by rw[←bu hs (by decide)];exact e
     rw[uF ?_ ?_ _ _ f]
     ·intro a s b r g
      unfold pEl at g;simp only[Option.map_eq_some_iff,Prod.mk.injEq]at g;obtain⟨⟨x,z⟩,h,_,rfl⟩:=g;exact eg d _ _ _ h
     ·intro a s e
      unfold pEl;rw[pz d s e]
    ·exact uB (by rw[←hs,gB];exact e)
theorem sx{s:Bs}(h:sk s=[]):validD s=true:=by rw[←gB,h];rfl
theorem rQ(s:Bs):iP true s=dk s:=by
 unfold dk;split
 ·rename_i hv
  unfold iP;rw[pz 6 s hv]
 ·rename_i hv
  unfold iP;split
  ·rename_i j t h
   split
   ·rename_i ht
    exact absurd (by rw[eg _ _ _ _ h];exact sx ht) hv
   ·rfl
  ·rfl
end
end Go.Proofs.YtocligpfmfmihaaGreatDoor
