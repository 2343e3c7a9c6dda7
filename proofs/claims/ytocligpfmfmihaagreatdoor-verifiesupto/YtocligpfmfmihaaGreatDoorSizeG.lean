import Derived.Test.YtocligpfmfmihaaGreatDoorCanonG
set_option maxRecDepth 100000
namespace Go.Proofs.YtocligpfmfmihaaGreatDoor
section
open Go.Lib
def dU(x:Nat):Bs:=(Utf8.encode (x:Int)).data.toList
def okR(x:Nat):Prop:=x < 55296∨(57343 < x∧x < 1114112)
theorem ig(x:Nat)(h:okR x):
  (x < 128∧dU x=[UInt8.ofNat x])∨(128≤x∧x < 2048∧dU x=[UInt8.ofNat (192+x / 64),UInt8.ofNat (128+x % 64)]) ∨
  (2048≤x∧x < 65536∧dU x=[UInt8.ofNat (224+x / 4096),UInt8.ofNat (128+x / 64 % 64),UInt8.ofNat (128+x % 64)]) ∨
  (65536≤x∧dU x=[UInt8.ofNat (240+x / 262144),UInt8.ofNat (128+x / 4096 % 64),UInt8.ofNat (128+x / 64 % 64),UInt8.ofNat (128+x % 64)]):=by
 unfold okR at h;have d:Utf8.valid (x:Int)=true:=by unfold Utf8.valid;simp;omega
 unfold dU Utf8.encode;simp only[d,if_true,Int.toNat_natCast];by_cases a:x < 128
 ·exact .inl ⟨a,by rw[if_pos a]⟩
 ·rw[if_neg a]
  by_cases b:x < 2048
  ·exact .inr (.inl ⟨by omega,b,by rw[if_pos b]⟩)
  ·rw[if_neg b]
   by_cases c:x < 65536
   ·exact .inr (.inr (.inl ⟨by omega,c,by rw[if_pos c]⟩))
   ·exact .inr (.inr (.inr ⟨by omega,by rw[if_neg c]⟩))
theorem cv(n:Nat)(h:n < 256):(UInt8.ofNat n).toNat=n:=by simp;omega
theorem tJ(x:Nat)(r:Bs)(h:okR x):validD (dU x ++r)=validD r:=by
 rcases ig x h with⟨h1,e⟩ | ⟨h1,h2,e⟩ | ⟨h1,h2,e⟩ | ⟨h1,e⟩ <;> rw[e]
 ·rw[List.singleton_append,validD_cons _ _ (by rw[cv _ (by omega)];omega)]
 ·have d:decodeL ([UInt8.ofNat (192+x / 64),UInt8.ofNat (128+x % 64)] ++r)=(x,2):=by
   rw[decodeL_N];simp only[List.cons_append,List.nil_append,List.getD_cons_zero,List.getD_cons_succ,List.length_cons];rw[cv (192+x / 64) (by omega),cv (128+x % 64) (by omega)];unfold decodeN;rw[if_neg (by omega),if_pos ⟨by omega,by omega,by omega⟩,if_pos (by omega)];simp;omega
  rw[validD_step _ (by simp),d,if_neg (by simp)];rfl
 ·have d:decodeL ([UInt8.ofNat (224+x / 4096),UInt8.ofNat (128+x / 64 % 64),UInt8.ofNat (128+x % 64)] ++r)=(x,3):=by
   unfold okR at h;rw[decodeL_N];simp only[List.cons_append,List.nil_append,List.getD_cons_zero,List.getD_cons_succ,List.length_cons];rw[cv (224+x / 4096) (by omega),cv (128+x / 64 % 64) (by omega),cv (128+x % 64) (by omega)];unfold decodeN;have a:(224+x / 4096) % 16*4096+(128+x / 64 % 64) % 64*64+(128+x % 64) % 64=x:=by omega
   rw[if_neg (by omega),if_neg (by omega),if_pos ⟨by omega,⟨by omega,by omega⟩,by omega,by omega⟩,a,if_pos (by omega)]
  rw[validD_step _ (by simp),d,if_neg (by simp)];rfl
 ·have d:decodeL ([UInt8.ofNat (240+x / 262144),UInt8.ofNat (128+x / 4096 % 64),UInt8.ofNat (128+x / 64 % 64),UInt8.ofNat (128+x % 64)] ++r)=(x,4):=by
   unfold okR at h;rw[decodeL_N];simp only[List.cons_append,List.nil_append,List.getD_cons_zero,List.getD_cons_succ,List.length_cons];rw[cv (240+x / 262144) (by omega),cv (128+x / 4096 % 64) (by omega),cv (128+x / 64 % 64) (by omega),cv (128+x % 64) (by omega)];unfold decodeN;have a:(240+x / 262144) % 8*262144+(128+x / 4096 % 64) % 64*4096+(128+x / 64 % 64) % 64*64+(128+x % 64) % 64=x:=by omega
   rw[if_neg (by omega),if_neg (by omega),if_neg (by omega),if_pos ⟨by omega,⟨by omega,by omega⟩,⟨by omega,by omega⟩,by omega,by omega⟩,a,if_pos (by omega)]
  rw[validD_step _ (by simp),d,if_neg (by simp)];rfl
theorem ma{c:UInt8}{y:Nat}(h:bG c=some y):y < 16:=by
 unfold bG at h;have d:=UInt8.le_iff_toNat_le (a:=c) (b:=57);have a2:=UInt8.le_iff_toNat_le (a:=c) (b:=102);have a3:=UInt8.le_iff_toNat_le (a:=c) (b:=70);simp at d a2 a3
 repeat' split at h
 all_goals simp only[Option.some.injEq,reduceCtorEq]at h
 all_goals rename_i g
 ·have:=d.1 g.2;omega
 ·have:=a2.1 g.2;omega
 ·have:=a3.1 g.2;omega
theorem ui{q z:Bs}{y:Nat}(h:cI q=some (y,z)):y < 65536∧q.length=z.length+4:=by
 unfold cI at h;split at h
 ·simp only[Option.bind_eq_some_iff,Option.map_eq_some_iff,Prod.mk.injEq]at h
  obtain⟨a,e,b,f,c,g3,d,g4,rfl,rfl⟩:=h;have:=ma e;have:=ma f;have:=ma g3;have:=ma g4;exact⟨by omega,by simp⟩
 ·simp at h
theorem wL{s r:Bs}{x:Nat}(h:esc s=some (x,r)):okR x∧((dU x).flatMap cB).length+r.length≤s.length+1:=by
 have a:∀x:Nat,x < 128→(dU x).flatMap cB=cB (UInt8.ofNat x):=by
  intro x j;unfold dU;rw[Dh x j];simp
 have f:∀c:UInt8,(cB c).length≤6:=by
  intro c;unfold cB;repeat' split
  all_goals simp
 unfold esc at h;split at h
 ·simp at h
 ·rename_i c t
  split at h
  ·rename_i n
   simp at h;obtain⟨rfl,rfl⟩:=h;rcases n with rfl | rfl | rfl
   all_goals exact⟨by unfold okR;simp,by rw[a _ (by decide)];simp[cB];omega⟩
  ·split at h
   ·simp at h;obtain⟨rfl,rfl⟩:=h;exact⟨by unfold okR;simp,by rw[a _ (by decide)];simp[cB];omega⟩
   ·split at h
    ·simp at h;obtain⟨rfl,rfl⟩:=h;exact⟨by unfold okR;simp,by rw[a _ (by decide)];simp[cB];omega⟩
    ·split at h
     ·simp at h;obtain⟨rfl,rfl⟩:=h;exact⟨by unfold okR;simp,by rw[a _ (by decide)];simp[cB];omega⟩
     ·split at h
      ·simp at h;obtain⟨rfl,rfl⟩:=h;exact⟨by unfold okR;simp,by rw[a _ (by decide)];simp[cB];omega⟩
      ·split at h
       ·simp at h;obtain⟨rfl,rfl⟩:=h;exact⟨by unfold okR;simp,by rw[a _ (by decide)];simp[cB];omega⟩
       ·split at h
        ·have l:∀x,okR x→128≤x→(dU x).flatMap cB=dU x∧(dU x).length≤4:=by
          intro x d j
          have i:∀b ∈ dU x,128≤b.toNat:=by
           unfold okR at d;rcases ig x d with⟨h1,e⟩ | ⟨h1,h2,e⟩ | ⟨h1,h2,e⟩ | ⟨h1,e⟩ <;> rw[e]
           ·omega
           all_goals
            intro b i;simp only[List.mem_cons,List.not_mem_nil,or_false]at i
           ·rcases i with rfl | rfl <;> rw[cv _ (by omega)] <;> omega
           ·rcases i with rfl | rfl | rfl <;> rw[cv _ (by omega)] <;> omega
           ·rcases i with rfl | rfl | rfl | rfl <;> rw[cv _ (by omega)] <;> omega
          refine⟨pT _ i, ?_⟩;rcases ig x d with⟨h1,e⟩ | ⟨h1,h2,e⟩ | ⟨h1,h2,e⟩ | ⟨h1,e⟩ <;> rw[e] <;> simp
         have k:∀x,okR x→((dU x).flatMap cB).length≤6:=by
          intro x d;by_cases j:x < 128
          ·rw[a x j];exact f _
          ·obtain⟨e,g⟩:=l x d (by omega);rw[e];omega
         unfold dJ at h;split at h
         ·simp at h
         ·rename_i x' r' h1
          obtain⟨o,m⟩:=ui h1;split at h
          ·rename_i j
           simp at h;obtain⟨rfl,rfl⟩:=h;have d:okR x':=by unfold okR;omega
           refine⟨d, ?_⟩;have:=k x' d;simp only[List.length_cons];omega
          ·split at h
           ·simp at h
           ·rename_i j hx2
            split at h
            ·split at h
             ·split at h
              ·rename_i y z h2
               obtain⟨p,q⟩:=ui h2;split at h
               ·rename_i hy
                simp at h;obtain⟨rfl,rfl⟩:=h;have d:okR (65536+(x' - 55296)*1024+(y - 56320)):=by unfold okR;omega
                refine⟨d, ?_⟩;have:=k _ d;simp only[List.length_cons]at m ⊢;omega
               ·simp at h
              ·simp at h
             ·simp at h
            ·simp at h
        ·simp at h
theorem pw:∀(n:Nat) {s o r:Bs},s.length≤n→br true s=some (o,r)→validD o=true∧(o.flatMap cB).length+1+r.length≤s.length
 |n,[],o,r,_,h=>by rw[fL]at h;simp at h
 |0,c :: t,o,r,hn,_=>by simp at hn
 |n+1,c :: t,o,r,hn,h=>by
  rw[bN]at h;split at h
  ·simp at h;obtain⟨rfl,rfl⟩:=h;exact⟨rfl,by simp;omega⟩
  ·rename_i h34
   split at h
   ·simp at h
   ·rename_i o' z h1
    have g:=nK h1;simp only[Option.map_eq_some_iff,Prod.mk.injEq]at h;obtain⟨⟨x,r''⟩,l,rfl,rfl⟩:=h;obtain⟨A,v2⟩:=pw n (by simp at g hn;omega) l
    have key:validD (o' ++x)=validD x∧(o'.flatMap cB).length+z.length≤(c :: t).length:=by
     unfold ch at h1;split at h1
     ·simp at h1
     ·rename_i h32
      split at h1
      ·rename_i h92
       simp only[Option.map_eq_some_iff,Prod.mk.injEq]at h1;obtain⟨⟨y,q⟩,m,rfl,rfl⟩:=h1;obtain⟨v,w⟩:=wL m;have j:(Utf8.encode ((y:Nat):Int)).data.toList=dU y:=by rw[dU]
       rw[j];refine⟨tJ y x v, ?_⟩;rw[List.length_cons];exact w
      ·rename_i h92
       simp only[if_true]at h1;split at h1
       ·simp at h1
       ·rename_i hb
        simp only[Option.some.injEq,Prod.mk.injEq]at h1;obtain⟨rfl,rfl⟩:=h1;have u:=decodeL_le (c :: t) (by simp);have B:=decodeL_width (c :: t);have e:=BC (c :: t) x (by simp) hb;constructor
        ·have a:((c :: t).take (decodeL (c :: t)).2).length=(decodeL (c :: t)).2:=by simp only[List.length_take];omega
         rw[validD_step _ (by intro k;have:=congrArg List.length k;rw[List.length_append,a]at this;simp at this;omega),e,if_neg hb];rw[List.drop_append_of_le_length (by omega),List.drop_eq_nil_of_le (by omega),List.nil_append]
        ·by_cases f:c.toNat < 128
         ·rw[decodeL_ascii c t f]
          have:cB c=[c]:=by
           have c8:c≠8:=by rintro rfl;exact h32 (by decide)
           have c12:c≠12:=by rintro rfl;exact h32 (by decide)
           have b:c≠10:=by rintro rfl;exact h32 (by decide)
           have d:c≠13:=by rintro rfl;exact h32 (by decide)
           have i:c≠9:=by rintro rfl;exact h32 (by decide)
           simp[cB,h34,h92,c8,c12,b,d,i,h32]
          simp[this];omega
         ·obtain⟨_,p⟩:=qN (c :: t) (by simp) (by simpa using f)
          rw[pT _ (pU p u),List.length_take,List.length_drop];omega
    refine⟨by rw[key.1];exact A, ?_⟩;rw[List.flatMap_append,List.length_append];simp only[List.length_cons]at *;omega
theorem uZ(d:Bs)(k:∀c ∈ d,aW c=true)(f:d≠[])(i:d.head? ≠some 48∨d=[48]):dA (aO d)=d:=by
 have j:∀c:UInt8,aW c=true→48≤c.toNat∧c.toNat≤57:=by
  intro c g;unfold aW at g;simp only[Bool.and_eq_true,decide_eq_true_eq]at g;have a:=UInt8.le_iff_toNat_le.1 g.1;have b:=UInt8.le_iff_toNat_le.1 g.2;simp at a b;omega
 have h:∀c:UInt8,aW c=true→UInt8.ofNat (48+(c.toNat - 48))=c:=by
  intro c g;have:=j c g;rw[show 48+(c.toNat - 48)=c.toNat by omega];simp
 have pos:∀n (l:Bs),l.length=n→(∀c ∈ l,aW c=true)→l≠[]→l.head? ≠some 48→0 < aO l∧dA (aO l)=l:=by
  intro n
  induction n with
  |zero=>intro l o _ f;exact absurd (List.eq_nil_of_length_eq_zero o) f
  |succ n ih=>
   intro l o k f i;obtain⟨m,c,rfl⟩:∃m c,l=m ++[c]:=⟨l.dropLast,l.getLast f,(List.dropLast_concat_getLast f).symm⟩;have g:=k c (by simp);have r:=j c g;rw[vo]
   cases m with
   |nil=>
    simp only[List.nil_append,List.head?_cons,ne_eq,Option.some.injEq]at i;have q:c.toNat≠48:=fun e=>i (by rw[←rH c,e];rfl)
    simp only[aO,List.foldl_nil,List.nil_append];refine⟨by omega, ?_⟩;rw[dA,if_pos (by omega),show 48+(0*10+(c.toNat - 48))=48+(c.toNat - 48) by omega,h c g]
   |cons a m=>
    obtain⟨p,e⟩:=ih (a :: m) (by simpa using o) (fun x hx=>k x (List.mem_append.2 (.inl hx))) (by simp) (by simpa using i);refine⟨by omega, ?_⟩;rw[dA,if_neg (by omega),show (aO (a :: m)*10+(c.toNat - 48)) / 10=aO (a :: m) by omega,e,show (aO (a :: m)*10+(c.toNat - 48)) % 10=c.toNat - 48 by omega,h c g]
 rcases i with i | rfl
 ·exact (pos d.length d rfl k f i).2
 ·have e:aO [48]=0:=by decide
  rw[e,dA];rfl
theorem uz{s r:Bs}{n:Nat}(h:iO s=some (n,r)):n≤bK∧(dA n).length+r.length=s.length:=by
 unfold iO at h;split at h
 ·rename_i hw
  simp only[Option.some.injEq,Prod.mk.injEq]at h;obtain⟨rfl,rfl⟩:=h;simp only[Bool.and_eq_true,decide_eq_true_eq]at hw;refine⟨hw.2, ?_⟩
  have e:∀c ∈ dgs s,aW c=true:=by
   intro c d;unfold dgs at d;exact List.all_eq_true.1 (List.all_takeWhile) c d
  have a:=hw.1;unfold whole at a;simp only[Bool.or_eq_true,beq_iff_eq,Bool.and_eq_true,bne_iff_ne,ne_eq]at a;have b:dgs s≠[]:=by rcases a with h | h;rw[h];simp;exact h.1
  rw[uZ (dgs s) e b (by rcases a with h | h;exact .inr h;exact .inl h.2)];have:=congrArg List.length (List.takeWhile_append_dropWhile (p:=aW) (l:=s));rw[List.length_append]at this;exact this
 ·simp at h
theorem uA{s r:Bs}{n:Int}(h:eA s=some (n,r)):n.natAbs≤bK∧(gT n).length+r.length=s.length:=by
 unfold eA at h;split at h
 ·simp at h
 ·split at h
  ·split at h
   ·rename_i m q a
    obtain⟨b,c⟩:=uz a;split at h
    ·simp at h
    ·simp only[Option.some.injEq,Prod.mk.injEq]at h
     obtain⟨rfl,rfl⟩:=h;have e:(-(m:Int)).natAbs=m:=by omega
     refine⟨by omega, ?_⟩;rw[gT,if_pos (by omega),e];simp only[List.length_cons];omega
   ·simp at h
  ·simp only[Option.map_eq_some_iff,Prod.mk.injEq]at h
   obtain⟨⟨x,q⟩,a,rfl,rfl⟩:=h;obtain⟨b,c⟩:=uz a;refine⟨by simpa using b, ?_⟩;rw[gT,if_neg (by simp)];simpa using c
theorem uD{d:Nat}{c:UInt8}{t r:Bs}{j:J}(h:cE true c t=some (j,r)):WF d j∧(cJ j).length+r.length≤(c :: t).length:=by
 unfold cE at h;split at h
 ·simp only[Option.map_eq_some_iff,Prod.mk.injEq]at h
  obtain⟨⟨x,q⟩,a,rfl,rfl⟩:=h;obtain⟨b,e⟩:=pw _ (Nat.le_refl _) a;refine⟨by simpa[WF] using b, ?_⟩;rw[cJ,cU];simp only[List.length_cons,List.length_append,List.length_nil]at e ⊢;omega
 ·split at h
  ·simp only[Option.map_eq_some_iff,Prod.mk.injEq]at h
   obtain⟨⟨x,q⟩,a,rfl,rfl⟩:=h;obtain⟨b,e⟩:=uA a;exact⟨by simpa[WF] using b,by rw[cJ];exact Nat.le_of_eq e⟩
  ·unfold b7 at h
   repeat' split at h
   all_goals first
    | (simp at h;done)
    | (simp only[Option.some.injEq,Prod.mk.injEq]at h
       obtain⟨rfl,rfl⟩:=h;refine⟨by simp[WF], ?_⟩;rename_i a;have:=congrArg List.length a;simp only[List.length_take,List.length_cons,List.length_nil]at this;rw[List.length_drop];simp[cJ];omega)
theorem rO{σ:Type}{p:σ→Bs→Option (σ×Bs)}(I:σ→Prop)(M:σ→Nat)(hp:∀a s b r,I a→p a s=some (b,r)→I b∧0 < M b∧M b+r.length≤M a+s.length+1)(e:UInt8):
  ∀(n:Nat) (a:σ) (s:Bs) (b:σ) (r:Bs),I a→0 < M a→bc p e n a s=some (b,r)→I b∧0 < M b∧M b+r.length+1≤M a+s.length
 |0,a,s,b,r,_,_,h=>by simp[bc]at h
 |n+1,a,s,b,r,ha,hm,h=>by
  unfold bc at h;split at h
  ·simp at h
  ·rename_i c t hs
   have d:=cN s;rw[hs]at d;simp only[List.length_cons]at d;split at h
   ·split at h
    ·rename_i b' r' h1
     obtain⟨i,j,k⟩:=hp _ _ _ _ ha h1;obtain⟨f,g,g3⟩:=rO I M hp e n b' r' b r i j h;exact⟨f,g,by omega⟩
    ·simp at h
   ·split at h
    ·simp only[Option.some.injEq,Prod.mk.injEq]at h
     obtain⟨rfl,rfl⟩:=h;exact⟨ha,hm,by omega⟩
    ·simp at h
theorem uH{σ:Type}{p:σ→Bs→Option (σ×Bs)}(I:σ→Prop)(M:σ→Nat)(hp:∀a s b r,I a→p a s=some (b,r)→I b∧0 < M b∧M b+r.length≤M a+s.length+1)(e:UInt8)
  {a b:σ} {s r:Bs} (ha:I a) (h:bD p e a s=some (b,r)):I b∧((b=a∧r.length+1≤s.length)∨(0 < M b∧M b+r.length≤M a+s.length)):=by
 unfold bD at h;split at h
 ·rename_i hh
  simp only[Option.some.injEq,Prod.mk.injEq]at h;obtain⟨rfl,rfl⟩:=h;have d:=cN s
  cases hs:sk s with
  |nil=>rw[hs]at hh;simp at hh
  |cons c t=>
   rw[hs]at d;simp only[List.length_cons,List.tail_cons]at d ⊢;exact⟨ha,.inl ⟨by simp,by omega⟩⟩
 ·split at h
  ·rename_i b' r' h1
   obtain⟨i,j,k⟩:=hp _ _ _ _ ha h1;obtain⟨f,g,g3⟩:=rO I M hp e _ b' r' b r i j h;exact⟨f,.inr ⟨g,by omega⟩⟩
  ·simp at h
def bE{α:Type}(f:α→Bs)(l:List α):Nat:=(l.map fun x=>(f x).length+1).sum
theorem fP{α:Type}(f:α→Bs)(l:List α):(aB (l.map f)).length+(if l=[] then 0 else 1)=bE f l:=by
 cases l with
 |nil=>simp[aB,bE]
 |cons x l=>
  rw[List.map_cons,vk,List.length_append]
  have:∀l:List α,(((l.map f).flatMap (fun y=>44 :: y)).length)=bE f l:=by
   intro l
   induction l with
   |nil=>simp[bE]
   |cons y l ih=>simp[bE]at ih ⊢;omega
  rw[this];simp[bE];omega
theorem ye(k:Bs)(v:J)(l:List (Bs×J))(h:ai k l=none):bE aD (aC k v l)=bE aD l+((aD (k,v)).length+1):=by
 induction l with
 |nil=>simp[aC,bE]
 |cons q l ih=>
  obtain⟨a,x⟩:=q;have b:a≠k:=by intro e;simp[ai,e]at h
  rw[ai,if_neg b]at h;rw[aC];split
  ·simp[bE];omega
  ·have:=ih h
   simp[bE]at this ⊢;omega
theorem Ah(l:List (Bs×J))(h:Nod l):bE aD (ofL l)=bE aD l:=by
 have:∀n (l:List (Bs×J)),l.length=n→Nod l→bE aD (ofL l)=bE aD l:=by
  intro n
  induction n with
  |zero=>intro l c _;obtain rfl:=List.eq_nil_of_length_eq_zero c;rfl
  |succ n ih=>
   intro l c g;have b:l≠[]:=by intro e;subst e;simp at c
   obtain⟨m,p,rfl⟩:∃m p,l=m ++[p]:=⟨l.dropLast,l.getLast b,(List.dropLast_concat_getLast b).symm⟩;obtain⟨a,x⟩:=p;obtain⟨d,f⟩:=(eV m a x).1 g;rw[eY,ye _ _ _ (by rw[eU _ _ d];exact f),ih m (by simpa using c) d];simp[bE]
 exact this l.length l rfl h
theorem jN{α:Type}{l:List (Bs×α)}{p:Bs×α}(h:p ∈ ofL l):p ∈ l:=by
 have:∀(l a:List (Bs×α)),p ∈ l.foldl (fun a p=>aC p.1 p.2 a) a→p ∈ a∨p ∈ l:=by
  intro l
  induction l with
  |nil=>intro a h;exact .inl h
  |cons q l b=>
   intro a h;rcases b _ h with h | h
   ·rcases nh h with rfl | h
    ·exact .inr (by simp)
    ·exact .inl h
   ·exact .inr (by simp[h])
 rcases this l [] h with h | h
 ·simp at h
 ·exact h
theorem ut{α:Type}:ofL ([]:List (Bs×α))=[]:=rfl
theorem pA:∀(d:Nat) (s:Bs) (j:J) (r:Bs),az true d s=some (j,r)→WF d j∧(cJ j).length+r.length≤s.length
 |0,s,j,r,h=>by
  unfold az at h;split at h
  ·simp at h
  ·rename_i c t hs
   have i:=cN s;rw[hs]at i;split at h
   ·simp at h
   ·obtain⟨m,u⟩:=uD (d:=0) h
    exact⟨m,by omega⟩
 |d+1,s,j,r,h=>by
  unfold az at h;split at h
  ·simp at h
  ·rename_i c t hs
   have i:=cN s;rw[hs]at i;simp only[List.length_cons]at i;split at h
   ·simp only[Option.map_eq_some_iff,Prod.mk.injEq]at h
    obtain⟨⟨l,q⟩,w,rfl,rfl⟩:=h
    have hp:∀(a:List (Bs×J)) (s:Bs) (b:List (Bs×J)) (r:Bs),(Nod a∧∀p ∈ a,validD p.1=true∧WF d p.2)→bq true (az true d) a s=some (b,r) →
      (Nod b∧∀p ∈ b,validD p.1=true∧WF d p.2)∧0 < bE aD b∧bE aD b+r.length≤bE aD a+s.length+1:=by
     intro a s b r ⟨B,i2⟩ f;unfold bq at f;split at f
     ·simp at f
     ·rename_i c t hs
      have i:=cN s;rw[hs]at i;simp only[List.length_cons]at i;split at f
      ·split at f
       ·simp at f
       ·rename_i k q1 h3
        obtain⟨E,G⟩:=pw _ (Nat.le_refl _) h3;split at f
        ·simp at f
        ·rename_i hlk
         split at f
         ·simp at f
         ·rename_i c2 q2 hs2
          have n:=cN q1;rw[hs2]at n;simp only[List.length_cons]at n;split at f
          ·simp only[Option.map_eq_some_iff,Prod.mk.injEq]at f
           obtain⟨⟨x,z⟩,A,rfl,rfl⟩:=f;obtain⟨D,F⟩:=pA d _ _ _ A;refine⟨⟨(eV _ _ _).2 ⟨B,by simpa using hlk⟩, ?_⟩, ?_, ?_⟩
           ·intro p hp
            rcases List.mem_append.1 hp with hp | hp
            ·exact i2 p hp
            ·obtain rfl:=List.mem_singleton.1 hp;exact⟨E,D⟩
           ·simp[bE];omega
           ·simp[bE,aD,cU]at *;omega
          ·simp at f
      ·simp at f
    obtain⟨⟨m,u⟩,g⟩:=uH (fun l:List (Bs×J)=>Nod l∧∀p ∈ l,validD p.1=true∧WF d p.2) (bE aD) hp 125 (by constructor;simp[Nod];simp) w
    ·refine⟨by rw[WF,jD];exact⟨fR l,fun p hp=>u p (jN hp)⟩, ?_⟩
     rw[c7];have e:=fP aD (ofL l);rw[Ah l m]at e;simp only[List.length_cons,List.length_append,List.length_nil];rcases g with⟨rfl,g⟩ | ⟨g,C⟩
     ·simp[ut,bE]at e;simp[ut,aB];omega
     ·have:ofL l≠[]:=by
       intro v;rw[v]at e;simp[aB]at e;omega
      rw[if_neg this]at e;simp[bE]at C e;omega
   ·split at h
    ·simp only[Option.map_eq_some_iff,Prod.mk.injEq]at h
     obtain⟨⟨l,q⟩,w,rfl,rfl⟩:=h
     have hp:∀(a:List J) (s:Bs) (b:List J) (r:Bs),(∀x ∈ a,WF d x)→pEl (az true d) a s=some (b,r) →
       (∀x ∈ b,WF d x)∧0 < bE cJ b∧bE cJ b+r.length≤bE cJ a+s.length+1:=by
      intro a s b r B f;unfold pEl at f;simp only[Option.map_eq_some_iff,Prod.mk.injEq]at f;obtain⟨⟨x,z⟩,A,rfl,rfl⟩:=f;obtain⟨D,F⟩:=pA d _ _ _ A;refine⟨?_, ?_, ?_⟩
      ·intro y o
       rcases List.mem_append.1 o with o | o
       ·exact B y o
       ·obtain rfl:=List.mem_singleton.1 o;exact D
      ·simp[bE];omega
      ·simp[bE]at *;omega
     obtain⟨m,g⟩:=uH (fun l:List J=>∀x ∈ l,WF d x) (bE cJ) hp 93 (by simp) w
     ·refine⟨by rw[WF,AH];exact m, ?_⟩
      rw[nH];have e:=fP cJ l;simp only[List.length_cons,List.length_append,List.length_nil];rcases g with⟨rfl,g⟩ | ⟨g,C⟩
      ·simp[bE]at e;simp[aB];omega
      ·have:l≠[]:=by intro v;subst v;simp[bE]at g
       rw[if_neg this]at e;simp[bE]at C e;omega
    ·obtain⟨m,u⟩:=uD (d:=d+1) h
     exact⟨m,by simp only[List.length_cons]at u;omega⟩
theorem eD{s:Bs}{j:J}(h:dk s=some j):WF 6 j∧(cJ j).length≤s.length:=by
 rw[←rQ]at h;unfold iP at h;split at h
 ·rename_i j' t h1
  split at h
  ·simp only[Option.some.injEq]at h
   subst h;obtain⟨a,b⟩:=pA 6 s _ t h1;exact⟨a,by omega⟩
  ·simp at h
 ·simp at h
def kSig:Bs:=[115,105,103,110,97,116,117,114,101,115]
def fV:Bs:=[117,110,115,105,103,110,101,100]
def eh(s:Bs):Except Nat J:=if 600 < s.length then .error 1 else match dk s with | none=>.error 2 | some j=>.ok j
def aM(s:Bs):Except Nat (List (Bs×J)):=match eh s with | .error e=>.error e | .ok (.obj l)=>.ok l | .ok _=>.error 3
def di(l:List (Bs×J)):List (Bs×J):=bo fV (bo kSig l)
def aA(l:List (Bs×J)):Bs:=cJ (.obj (di l))
def aq(k:Bs)(l:List (Bs×J)):List (Bs×J):=match ai k l with | some (.obj m)=>m | _=>[]
def eM(l:List (Bs×J))(sv id sig:Bs):List (Bs×J):=
 aC kSig (.obj (aC sv (.obj (aC id (.str sig) (aq sv (aq kSig l)))) (aq kSig l))) l
def oV(r:Except Nat Bs):Bs×Nat:=match r with | .error e=>([],e) | .ok s=>(s,0)
def bU(s:Bs):Bs×Nat:=oV ((aM s).map aA)
def fF(s sv id sig:Bs):Except Nat Bs:=
 match aM s with
 |.error e=>.error e
 |.ok l=>if validD sv && validD id && validD sig then .ok (cJ (.obj (eM l sv id sig))) else .error 2
def bB(s sv id sig:Bs):Bs×Nat:=oV (fF s sv id sig)
theorem zt{α:Type}{k:Bs}{l:List (Bs×α)}{p:Bs×α}:p ∈ bo k l↔p ∈ l∧p.1≠k:=by simp[bo]
theorem Ag{α:Type}(k:Bs)(l:List (Bs×α))(h:Srt l):Srt (bo k l):=List.Pairwise.filter _ h
theorem wC{α:Type}(k:Bs)(v:α)(l:List (Bs×α)):bo k (aC k v l)=bo k l:=by
 induction l with
 |nil=>simp[aC,bo]
 |cons q l ih=>
  obtain⟨a,x⟩:=q;rw[aC];split
  ·simp[bo]
  ·split
   ·rename_i e;subst e;simp[bo]
   ·rename_i hne
    simp only[bo]at ih ⊢;simp[hne,ih]
theorem tK(d:Nat)(k:Bs)(l:List (Bs×J))(h:WF (d+1) (.obj l)):WF (d+1) (.obj (bo k l)):=by
 simp only[WF,jD]at h ⊢;exact⟨Ag k l h.1,fun p hp=>h.2 p (zt.1 hp).1⟩
theorem oU(d:Nat)(k:Bs)(v:J)(l:List (Bs×J))(hk:validD k=true)(hv:WF d v)(h:WF (d+1) (.obj l)):WF (d+1) (.obj (aC k v l)):=by
 simp only[WF,jD]at h ⊢;refine⟨gC k v l h.1,fun p hp=> ?_⟩;rcases nh hp with rfl | hp
 ·exact⟨hk,hv⟩
 ·exact h.2 p hp
theorem fQ{α:Type}{k:Bs}{l:List (Bs×α)}{v:α}(h:ai k l=some v):(k,v) ∈ l:=by
 induction l with
 |nil=>simp[ai]at h
 |cons q l ih=>
  obtain⟨a,x⟩:=q;by_cases e:a=k
  ·simp[ai,e]at h;subst h;simp[e]
  ·simp[ai,e]at h;simp[ih h]
theorem iw(d:Nat)(k:Bs)(l:List (Bs×J))(h:WF (d+2) (.obj l)):WF (d+1) (.obj (aq k l)):=by
 unfold aq;split
 ·rename_i m hm
  simp only[WF,jD]at h;exact (h.2 _ (fQ hm)).2
 ·simp[WF,WFm,Srt]
theorem yr(l:List (Bs×J))(sv id sig:Bs)(h:WF 6 (.obj l))(h1:validD sv=true)(h2:validD id=true)(h3:validD sig=true):WF 6 (.obj (eM l sv id sig)):=by
 have c:=iw 4 kSig l h;have d:=iw 3 sv _ c;have a:WF 4 (.obj (aC id (.str sig) (aq sv (aq kSig l)))):=oU 3 id _ _ h2 (by simpa[WF] using h3) d;have b:WF 5 (.obj (aC sv (.obj (aC id (.str sig) (aq sv (aq kSig l)))) (aq kSig l))):=oU 4 sv _ _ h1 a c;exact oU 5 kSig _ l (by decide) b h
theorem vA(u:Bool)(d:Nat)(s:Bs)(h:sk s=[]):az u d s=none:=by
 cases d <;> rw[az,h]
theorem BZ{α:Type}{l:List (Bs×α)}{p:Bs×α}(hn:Nod l)(h:p ∈ l):p ∈ ofL l:=by
 obtain⟨k,v⟩:=p
 have:ai k l=some v:=by
  induction l with
  |nil=>simp at h
  |cons q l ih=>
   obtain⟨a,x⟩:=q;unfold Nod at hn;rw[List.map_cons,List.nodup_cons]at hn;rcases List.mem_cons.1 h with h | h
   ·simp only[Prod.mk.injEq]at h
    simp[ai,h.1,h.2]
   ·have:a≠k:=by rintro rfl;exact hn.1 (List.mem_map.2 ⟨_,h,rfl⟩)
    simp[ai,this,ih hn.2 h]
 exact fQ (by rw[eU _ _ hn];exact this)
end
end Go.Proofs.YtocligpfmfmihaaGreatDoor
