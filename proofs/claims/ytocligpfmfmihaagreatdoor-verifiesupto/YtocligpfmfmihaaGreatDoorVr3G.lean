import Derived.Test.YtocligpfmfmihaaGreatDoorMidG
import Derived.Test.YtocligpfmfmihaaGreatDoorRn3
set_option maxHeartbeats 4000000
set_option maxRecDepth 20000
namespace Go.Proofs.YtocligpfmfmihaaGreatDoor
open Go.Proofs.Tryz
section
open Go Go.RowKit Go.Maps
attribute [local go_sem] Oper.semAt_some
theorem Dk:(prog.info? 321).map (fun i=>(i.zero,i.size,i.bytes))=some (some (.agg #[.string ⟨#[]⟩,.int .i64 0]),2,24):=by kernel_rfl
theorem qH{w:World}{B:Nat}{g n c:Nat}{ks:List (Bs×Int)}(h:w.ownsRow B 321 2 (.slice (some ⟨g,0,none⟩) n c) n (ks.flatMap akC))(i:Nat)(k:Bs×Int)(hk:ks[i]? =some k):
  w.cell? ⟨g,i*2,none⟩=some (.string ⟨k.1.toArray⟩)∧w.cell? ⟨g,i*2+1,none⟩=some (.int .i64 k.2):=
 ⟨ct (f:=akC) (fun _=>rfl) h i k hk 0 (by omega) _ rfl,ct (f:=akC) (fun _=>rfl) h i k hk 1 (by omega) _ rfl⟩
theorem C3(L:List (Bs×Int))(n:Nat)(p:Bs×Int)(h:L[n]? =some p)(t:Int):(L.flatMap akC).set (n*2+1) (.int .i64 t)=(L.set n (p.1,t)).flatMap akC:=by
 induction L generalizing n with
 |nil=>cases h
 |cons a l ih=>
  cases n with
  |zero=>
   simp at h;subst h;simp[akC]
  |succ n=>
   have c:l[n]? =some p:=by simpa using h
   have b:(n+1)*2+1=(n*2+1)+2:=by omega
   rw[b];simp only[List.flatMap_cons,akC,List.cons_append,List.nil_append,List.set_cons_succ,List.cons.injEq,true_and];exact ih n c
theorem tU{st:Ldg}{L:List Kn}{D:List (Bs×Bs)}{A:List (Bs×Int)}{s:Bs}{n:Nat}{p:Bs×Int}(hA:Abs st L D A)(hp:A[n]? =some p)(hix:bv (isS s) A=some n):st.asked s=some p.2:=by
 obtain⟨q,a,c,b⟩:=fB hix;rw[hp]at a;injection a with a
 subst a;rw[hA.asked];unfold asc;rw[b];rfl
theorem yJ{st:Ldg}{L:List Kn}{D:List (Bs×Bs)}{A:List (Bs×Int)}{s:Bs}(hA:Abs st L D A)(hix:bv (isS s) A=none):st.asked s=none:=by
 rw[hA.asked];unfold asc;rw[fA hix];rfl
theorem xL(w:World)(F:Nat→Prop)(b:Nat)(nm id ky:Bs)(so:Value)(st:Ldg)(c:Nat)(hR:RN w F b nm id ky so st c)(hat:∀s t,st.asked s=some t→ -9223372036854775808≤t)(s:Bs)(now:Int)(hnow:now≤9223372036854775807):
  Calls prog 146 #[.pointer (some ⟨b,0,none⟩),.string ⟨s.toArray⟩,.int .i64 now] w fun e w'=>e=.returned (.bool (cS st s now))∧Kp (fun _=>False) w w':=by
 obtain⟨l,d,a,L,D,A,J,K,_⟩:=hR;obtain⟨R,S,rfl,O,E⟩:=aY J.ra;have C:=ae (An J (An K (An E hat)));clear J K E hat;go_enter func146,ntmps146;go_wp2_with fail
 go_loopg [7] A.length (fun gg q wx=>∃(i:Nat),gg=A.length - i∧i≤A.length∧q=.int .i64 (i:Int)∧Kp (fun _=>False) w wx∧∀(j:Nat) (p:Bs×Int),j < i→A[j]? =some p→p.1≠s)
 case atStart=>exact⟨0,rfl,by omega,rfl,Kp.refl _ _,fun _ _ h=>absurd h (by omega)⟩
 case round=>
  obtain⟨i3,r,M,rfl,u,k⟩:=hrel;have z:=C.o.1.kp u;obtain⟨V,f1,f2,f3,f4,f5,f6⟩:=cL z.blk;have m:=ae (An r (An u (An z k)));clear r u k z;by_cases G:i3 < A.length
  ·have x:(i3:Int) < (A.length:Int):=by omega
   obtain⟨p,hp⟩:∃p,A[i3]? =some p:=⟨A[i3],List.getElem?_eq_getElem G⟩;obtain⟨g,rfl,_⟩:=C.o.2.2.1 (by omega);obtain⟨T,U⟩:=qH m.o.2.2.1.ra i3 p hp;by_cases B:p.1=s
   ·have I:(p.1 == s)=true:=by simpa using B
    have f:=tU C.o.2.1 hp (j5 hp B m.o.2.2.2);have Q:=C.o.2.2.2 s _ f;have H:Hid (cS st s now=decide (now < p.2+50)):=by show _=_;unfold cS;rw[f]
    clear B f hp;by_cases n:9223372036854775757 < p.2
    ·have v:(p.2 > 9223372036854775757):=n
     go_wp2;go_ret;exact⟨by rw[H.o];simp;omega,m.o.2.1⟩
    ·have v:¬(p.2 > 9223372036854775757):=n
     go_wp2;go_ret;exact⟨by rw[H.o];rfl,m.o.2.1⟩
   ·have I:(p.1 == s)=false:=by simpa using B
    have N:Hid (∀(j:Nat) (q:Bs×Int),j < i3+1→A[j]? =some q→q.1≠s):=by
     show ∀(j:Nat) (q:Bs×Int),j < i3+1→A[j]? =some q→q.1≠s
     intro j q P y;rcases Nat.lt_or_ge j i3 with h | h
     ·exact m.o.2.2.2 j q h y
     ·have:j=i3:=by omega
      subst this;rw[hp]at y;injection y with y
      subst y;exact B
    clear B hp;go_wp2;go_roundg (A.length - (i3+1))
    all_goals first
     | (rw[m.o.1];omega)
     |exact⟨i3+1,rfl,by omega,ak (by omega),m.o.2.1,N.o⟩
  ·have x:¬(i3:Int) < (A.length:Int):=by omega
   have f:=yJ C.o.2.1 (j4 (fun j q P y=>m.o.2.2.2 j q (by omega) y));have H:Hid (cS st s now=false):=by show _=_;unfold cS;rw[f]
   clear f;go_wp2;go_ret;exact⟨by rw[H.o];rfl,m.o.2.1⟩
theorem RNs.askd{w:World}{b g lc:Nat}{nm id ky:Bs}{so l d:Value}{L:List Kn}{D:List (Bs×Bs)}{A:List (Bs×Int)}(h:RNs w b nm id ky so l d (.slice (some ⟨g,0,none⟩) A.length lc) L D A)(n:Nat)(p:Bs×Int)(hk:A[n]? =some p)(t:Int):
  RNs (w.setCell ⟨g,n*2+1,none⟩ (.int .i64 t)) b nm id ky so l d (.slice (some ⟨g,0,none⟩) (A.set n (p.1,t)).length lc) L D (A.set n (p.1,t)):=by
 have a:=(h.ra.stored (n*2+1) (.int .i64 t)).1;rw[C3 A n p hk t]at a;have e:(Value.slice (some ⟨g,0,none⟩) A.length lc).ownBlock=some g:=rfl;refine⟨?_,ap h.rl (fun k hk'=>af ?_),ap h.rd (fun k hk'=>af ?_),by rw[List.length_set];exact a⟩
 ·rw[af (by
    show b≠g
    rintro rfl;exact dl h.ra h.blk (by decide) e),List.length_set]
  exact h.blk
 ·show k≠g
  rintro rfl;exact dF h.ra h.rl (by decide) e hk'
 ·show k≠g
  rintro rfl;exact dF h.ra h.rd (by decide) e hk'
theorem RNs.moreA{w w9:World}{b:Nat}{nm id ky:Bs}{so l d a v9:Value}{L:List Kn}{D:List (Bs×Bs)}{A:List (Bs×Int)}{X:Obj}{p:Bs×Int}(h:RNs w b nm id ky so l d a L D A)(o9:w9.ownsRow 0 321 2 v9 (A.length+1) (A.flatMap akC ++akC p))(g9:(w.alloc X).grownBy w9 a.ownBlock)(a9:v9.ownBlock=a.ownBlock∨v9.ownBlock=some (w.heap.size+1)):
  w9.heap[b]? =some (bm nm id ky so l d a)∧RNs (w9.setCell ⟨b,6,none⟩ v9) b nm id ky so l d v9 L D (A ++[p]):=by
 have q:w9.heap[b]? =some (bm nm id ky so l d a):=by
  rw[g9.block b (by show b < (w.alloc X).heap.size;have:=ag h.blk;simp;omega) (fun e=>dl h.ra h.blk (by decide) e.symm)];exact (Below.heap_alloc w X b (ag h.blk)).trans h.blk
 have j:v9.ownBlock≠some b:=by
  rcases a9 with e | e
  ·rw[e];exact dl h.ra h.blk (by decide)
  ·rw[e]
   intro o;injection o with o
   have:=ag h.blk;omega
 have c:∀ {T:TypeId} {m n:Nat} {v:Value} {xs:List Value},w.ownsRow 0 T m v n xs→321≠T→T≠157→(w9.setCell ⟨b,6,none⟩ v9).ownsRow 0 T m v n xs:=by
  intro T m n v xs g t i;refine ap g ?_;intro k f;have s:=(g.lt k f).2
  rw[af (by
    show k≠b
    rintro rfl;exact dl g h.blk i f),g9.block k (by show k < (w.alloc X).heap.size;simp;omega) (fun e=>dF h.ra g t e.symm f)]
  exact Below.heap_alloc w X k s
 refine⟨q, ?_,c h.rl (by decide) (by decide),c h.rd (by decide) (by decide), ?_⟩
 ·unfold bm at *
  simp[World.setCell,Array.getElem?_modify,q]
 ·have r:(A ++[p]).flatMap akC=A.flatMap akC ++akC p:=by simp
  rw[r,List.length_append];refine ap o9 (fun k f=>af ?_);show k≠b
  rintro rfl;exact j f
theorem yD{st:Ldg}{L:List Kn}{D:List (Bs×Bs)}{A:List (Bs×Int)}{s:Bs}{now:Int}{n:Nat}{p:Bs×Int}(hA:Abs st L D A)(hix:bv (isS s) A=some n)(hk:A[n]? =some p):Abs (eO st s now) L D (A.set n (p.1,now)):=
 ⟨hA.keys,hA.docs,fun s'=>by rw[tT hix hk];show (if s'=s then some now else st.asked s')=_;rw[hA.asked],hA.nl,hA.nd,xu hA.na hk⟩
theorem yC{st:Ldg}{L:List Kn}{D:List (Bs×Bs)}{A:List (Bs×Int)}{s:Bs}{now:Int}(hA:Abs st L D A)(hix:bv (isS s) A=none):Abs (eO st s now) L D (A ++[(s,now)]):=
 ⟨hA.keys,hA.docs,fun s'=>by rw[tS hix];show (if s'=s then some now else st.asked s')=_;rw[hA.asked],hA.nl,hA.nd,xt hA.na hix⟩
theorem CG(w:World)(F:Nat→Prop)(hF:∀k,F k→k < w.heap.size)(b:Nat)(nm id ky:Bs)(so:Value)(st:Ldg)(c:Nat)(hR:RN w F b nm id ky so st c)(hc:c≤900000000)(s:Bs)(now:Int)(hns:cS st s now=false):
  Calls prog 185 #[.pointer (some ⟨b,0,none⟩),.string ⟨s.toArray⟩,.int .i64 now] w fun e w'=>e=.returned (.tuple #[])∧RnR w F b nm id ky so (eO st s now) (c+1) w':=by
 obtain⟨l,d,a,L,D,A,S,Z,aj,ai,ah,H,I⟩:=hR;obtain⟨aa,ac,rfl,ad,G⟩:=aY S.ra;have f:=ae (An S (An Z (An G (An hns (An hF (An H I))))));clear S Z G hns hF H I;go_enter func185,ntmps185;go_wp2_with fail
 go_loopg [6] A.length (fun gg q wx=>∃(i:Nat),gg=A.length - i∧i≤A.length∧q=.int .i64 (i:Int)∧Kp (fun _=>False) w wx∧∀(j:Nat) (p:Bs×Int),j < i→A[j]? =some p→p.1≠s)
 case atStart=>exact⟨0,rfl,by omega,rfl,Kp.refl _ _,fun _ _ h=>absurd h (by omega)⟩
 case round=>
  obtain⟨i3,v,ab,rfl,x,r⟩:=hrel;have C:=f.o.1.kp x;obtain⟨f0,f1,f2,f3,f4,f5,f6⟩:=cL C.blk;have n:=ae (An v (An x (An C r)));clear v x r C;by_cases J:i3 < A.length
  ·have z:(i3:Int) < (A.length:Int):=by omega
   obtain⟨p,hp⟩:∃p,A[i3]? =some p:=⟨A[i3],List.getElem?_eq_getElem J⟩;obtain⟨g,rfl,_⟩:=f.o.2.2.1 (by omega);obtain⟨d0,d1⟩:=qH n.o.2.2.1.ra i3 p hp;have m4:=n.o.2.2.1.ra.frozenAt (i3*2+1);by_cases E:p.1=s
   ·have R:(p.1 == s)=true:=by simpa using E
    have y:=j5 hp E n.o.2.2.2;have t:=tU f.o.2.1 hp y
    have al:p.2 < now:=by
     have Q:=f.o.2.2.2.1;unfold cS at Q;rw[t]at Q;simp at Q;omega
    have M:=ae (An hp y);clear E t hp y;go_wp2;refine bodyPost_ret (results_none rfl _ _ _) rfl ?_;exact⟨rfl,mj n.o.2.1 ((Kp.refl _ _).setCell (fun _=>f.o.2.2.2.2.2.2 g (Or.inr (Or.inr rfl))) _) f.o.2.2.2.2.1 (n.o.2.2.1.askd i3 p M.o.1 now) (yD f.o.2.1 M.o.2 M.o.1) (by omega) (by omega) (by rw[List.length_set];omega) f.o.2.2.2.2.2.1 (fun q e=>Or.inl (f.o.2.2.2.2.2.2 q (Or.inl e))) (fun q e=>Or.inl (f.o.2.2.2.2.2.2 q (Or.inr (Or.inl e)))) (fun q e=>Or.inl (f.o.2.2.2.2.2.2 q (Or.inr (Or.inr e))))⟩
   ·have R:(p.1 == s)=false:=by simpa using E
    have HN:Hid (∀(j:Nat) (q:Bs×Int),j < i3+1→A[j]? =some q→q.1≠s):=by
     show ∀(j:Nat) (q:Bs×Int),j < i3+1→A[j]? =some q→q.1≠s
     intro j q K B;rcases Nat.lt_or_ge j i3 with h | h
     ·exact n.o.2.2.2 j q h B
     ·have:j=i3:=by omega
      subst this;rw[hp]at B;injection B with B
      subst B;exact E
    clear E hp;go_wp2;go_roundg (A.length - (i3+1))
    all_goals first
     | (rw[n.o.1];omega)
     |exact⟨i3+1,rfl,by omega,ak (by omega),n.o.2.1,HN.o⟩
  ·have z:¬(i3:Int) < (A.length:Int):=by omega
   have N:=ae (j4 (sn:=s) (fun j q K B=>n.o.2.2.2 j q (by omega) B));have l2:=ag n.o.2.2.1.blk;obtain⟨t0,hi,V,W,X⟩:=info_parts Dk;go_wp2_with (at_builtin;(refine wpList_append_own_at _ rfl _ _ 155 rfl 0 321 t0 (.agg #[.string ⟨#[]⟩,.int .i64 0]) 2 24 underlying155 hi V W X rfl (by decide) _ _ _ rfl (by exact World.ownsRow.alloc n.o.2.2.1.ra _) ⟨wr.heap.size,0,none⟩ 1 1 (akC (s,now)) rfl rfl ?_ (by intro u hu;simp[akC]at hu;rcases hu with rfl | rfl <;> rfl) (by unfold maxLen;omega) (by omega) (Nat.zero_le _) ?_))
   ·intro j u K
    rcases j with _ | _ | j
    all_goals simp[akC]at K
    all_goals subst K
    all_goals simp
   intro v9 w9 Y P n9 a9;obtain⟨am,an,rfl,T,U⟩:=aY Y;clear T U n9;have m:=n.o.2.2.1.moreA Y P a9;obtain⟨e0,e1,e2,e3,e4,e5,e6⟩:=cL m.1;obtain⟨z4,z5,z6,af⟩:=jj m.1;have O:=ae (An m (An P a9));clear m P a9 Y;go_wp2;go_end0
   refine⟨rfl,mj n.o.2.1 ((((Kp.refl F wr).alloc _).grown O.o.2.1 (fun q e _=>f.o.2.2.2.2.2.2 q (Or.inr (Or.inr e)))).setCell (fun _=>f.o.2.2.2.2.2.1) _) f.o.2.2.2.2.1 O.o.1.2 (yC f.o.2.1 N.o) (by omega) (by omega) (by rw[List.length_append,List.length_singleton];omega) f.o.2.2.2.2.2.1 (fun q e=>Or.inl (f.o.2.2.2.2.2.2 q (Or.inl e))) (fun q e=>Or.inl (f.o.2.2.2.2.2.2 q (Or.inr (Or.inl e)))) (fun q e=> ?_)⟩;rcases O.o.2.2 with h | h
   ·exact Or.inl (f.o.2.2.2.2.2.2 q (Or.inr (Or.inr (h.symm.trans e))))
   ·right
    rw[h]at e;injection e with e
    subst e;omega
end
section
structure LOk(T:List Bs)(st:Ldg):Prop where
 keys:∀s i p,st.keys s i=some p→p.1.length≤600∧∃t u ks k,t ∈ T∧aZ t=.ok (s,u,ks)∧k ∈ ks∧k.id=i
 docs:∀s t,st.docs s=some t→t ∈ T∧∃u ks,aZ t=.ok (s,u,ks)
 asked:∀s x,st.asked s=some x→(-9223372036854775808≤x∧x≤9223372036854775807)∧∃t cs c,t ∈ T∧bM t=.ok cs∧c ∈ cs∧c.server=s
theorem LOk.zero(T:List Bs):LOk T Ldg.zero:=⟨fun _ _ _ h=>(by cases h),fun _ _ h=>(by cases h),fun _ _ h=>(by cases h)⟩
theorem LOk.upd{T:List Bs}{st:Ldg}(h:LOk T st){t sn:Bs}{u:Int}{ks:List Ky}(ht:t ∈ T)(hr:aZ t=.ok (sn,u,ks))(now:Int):∀l:List Ky,(∀k ∈ l,k ∈ ks)→∀st',LOk T st'→LOk T (l.foldl (bp sn now) st')
 | [],_,st',h'=>h'
 |k :: l,hl,st',h'=>by
  refine LOk.upd h ht hr now l (fun q hq=>hl q (List.mem_cons_of_mem _ hq)) _ ⟨?_,h'.docs,h'.asked⟩;intro s i p hp;have a:=hl k List.mem_cons_self;simp only[bp]at hp;split at hp
  ·rename_i he
   injection hp with hp
   subst hp;exact⟨((iR hr).2.1 k a).2,t,u,ks,k,ht,by rw[he.1];exact hr,a,he.2.symm⟩
  ·exact h'.keys s i p hp
theorem LOk.take{T:List Bs}{st:Ldg}(h:LOk T st){t sn:Bs}{u:Int}{ks:List Ky}(ht:t ∈ T)(hr:aZ t=.ok (sn,u,ks))(now:Int):LOk T (bR st sn ks t now).2:=by
 unfold bR;split
 ·exact h
 ·have b:=LOk.upd h ht hr now ks (fun _ h=>h) st h
  refine⟨b.keys, ?_,b.asked⟩;intro s x a;simp only[fC]at a;split at a
  ·rename_i he
   injection a with a
   subst a;exact⟨ht,u,ks,by rw[he];exact hr⟩
  ·exact b.docs s x a
theorem LOk.learn{T:List Bs}{st:Ldg}(h:LOk T st){t:Bs}(ht:t ∈ T)(now:Int):LOk T (bi st t now).2:=by
 unfold bi
 cases hr:aZ t with
 |error n=>exact h
 |ok d=>
  obtain⟨sn,u,a⟩:=d;exact h.take ht hr now
theorem mW{rs:List Rpl}{a b t:Bs}(h:eR rs a b=some t):∃r ∈ rs,r.text=t:=by
 unfold eR at h;simp only[Option.bind_eq_some_iff]at h;obtain⟨r,d,c⟩:=h;split at c
 ·cases c
 ·injection c with c
  exact⟨r,List.mem_of_find?_eq_some d,c⟩
theorem LOk.from{T:List Bs}{st:Ldg}(h:LOk T st){rs:List Rpl}(hT:∀r ∈ rs,r.text ∈ T)(now:Int)(srv src:Bs):LOk T (bf rs now srv st src).2:=by
 unfold bf
 cases hf:eR rs src srv with
 |none=>exact h
 |some t=>
  obtain⟨r,a,rfl⟩:=mW hf;simp only[]
  cases hd:aZ r.text with
  |error n=>exact h
  |ok d=>
   obtain⟨sn,u,b⟩:=d;simp only[];split
   ·exact h.take (hT r a) hd now
   ·exact h
theorem LOk.ask{T:List Bs}{rs:List Rpl}(hT:∀r ∈ rs,r.text ∈ T)(now:Int)(c:Clm):∀(l:List Bs) (st:Ldg) (n:Nat),LOk T st→LOk T (bF rs now c st l n).2.2
 | [],st,n,h=>h
 |a :: l,st,n,h=>by
  have b:=h.from hT now c.server a
  simp only[bF];split
  ·exact b
  ·exact LOk.ask hT now c l _ _ b
theorem LOk.vain{T:List Bs}{st:Ldg}(h:LOk T st){t:Bs}{cs:List Clm}{c:Clm}(ht:t ∈ T)(hc:bM t=.ok cs)(hm:c ∈ cs){now:Int}(h0 : -9223372036854775808≤now)(h1:now≤9223372036854775807):LOk T (eO st c.server now):=by
 refine⟨h.keys,h.docs, ?_⟩;intro s x a;simp only[eO]at a;split at a
 ·rename_i he
  injection a with a
  subst a;exact⟨⟨h0,h1⟩,t,cs,c,ht,hc,hm,he.symm⟩
 ·exact h.asked s x a
theorem LOk.one{T:List Bs}{st:Ldg}(h:LOk T st){rs:List Rpl}(hT:∀r ∈ rs,r.text ∈ T){t:Bs}{cs:List Clm}{c:Clm}(ht:t ∈ T)(hc:bM t=.ok cs)(hm:c ∈ cs){now:Int}(h0 : -9223372036854775808≤now)(h1:now≤9223372036854775807)(sources:List Bs):LOk T (df rs now sources st c).2:=by
 unfold df;split
 ·have a:=LOk.ask hT now c (cT c.server sources) st 0 h
  unfold dy;split
  ·exact a
  ·exact a.vain ht hc hm h0 h1
 ·exact h
theorem LOk.ver{T:List Bs}{rs:List Rpl}(hT:∀r ∈ rs,r.text ∈ T){t:Bs}{cs:List Clm}(ht:t ∈ T)(hc:bM t=.ok cs){now:Int}(h0 : -9223372036854775808≤now)(h1:now≤9223372036854775807)(sources:List Bs):∀(l:List Clm) (st:Ldg) (n:Nat),(∀c ∈ l,c ∈ cs)→LOk T st→LOk T (dV rs now sources st l n).2
 | [],st,n,_,h=>h
 |c :: l,st,n,hl,h=>by
  have a:=h.one hT ht hc (hl c List.mem_cons_self) h0 h1 sources;simp only[dV];split
  ·exact LOk.ver hT ht hc h0 h1 sources l _ _ (fun q hq=>hl q (List.mem_cons_of_mem _ hq)) a
  ·exact a
theorem LOk.verify{T:List Bs}{st:Ldg}(h:LOk T st){rs:List Rpl}(hT:∀r ∈ rs,r.text ∈ T){t:Bs}(ht:t ∈ T){now:Int}(h0 : -9223372036854775808≤now)(h1:now≤9223372036854775807)(sources:List Bs):LOk T (bS rs now sources st t).2:=by
 unfold bS
 cases hc:bM t with
 |error n=>exact h
 |ok cs=>exact LOk.ver hT ht hc h0 h1 sources cs st 0 (fun _ h=>h) h
theorem kG{α:Type}[DecidableEq α]:∀ {l:List α},l.Nodup→∀ {u:List α},(∀x ∈ l,x ∈ u)→l.length≤u.length
 | [],_,_,_=>by simp
 |x :: l,hn,u,h=>by
  obtain⟨b,c⟩:=List.nodup_cons.1 hn;have a:=h x List.mem_cons_self;have:=kG c (u:=u.erase x) (fun y hy=>(List.mem_erase_of_ne (by rintro rfl;exact b hy)).2 (h y (List.mem_cons_of_mem _ hy)));rw[List.length_erase_of_mem a]at this;have:=List.length_pos_of_mem a;simp only[List.length_cons];omega
def lL(t:Bs):List (Bs×Bs):=match aZ t with | .ok (s,_,ks)=>ks.map fun k=>(s,k.id) | .error _=>[]
def oO(t:Bs):List Bs:=match aZ t with | .ok (s,_,_)=>[s] | .error _=>[]
def nG(t:Bs):List Bs:=match bM t with | .ok cs=>cs.map (·.server) | .error _=>[]
theorem l9{α β:Type}(f:α→List β)(n:Nat)(h:∀x,(f x).length≤n):∀l:List α,(l.flatMap f).length≤n*l.length
 | []=>by simp
 |x :: l=>by
  have a:=l9 f n h l;have b:=h x;simp only[List.flatMap_cons,List.length_append,List.length_cons,Nat.mul_add];omega
theorem vn(t:Bs):(lL t).length≤1100:=by
 unfold lL
 cases hr:aZ t with
 |error n=>simp
 |ok d=>
  obtain⟨s,u,a⟩:=d;simp only[List.length_map];exact (iR hr).2.2.2.1
theorem yb(t:Bs):(oO t).length≤1:=by
 unfold oO;cases aZ t <;> simp
theorem yP{l:List (Bs×J)}{cs:List Clm}(h:dI l=some cs):cs.length≤2:=by
 unfold dI at h;simp only[Option.bind_eq_some_iff,Option.map_eq_some_iff]at h;obtain⟨ss,a,t,b,rfl⟩:=h;rw[List.length_map];unfold eE at a;simp only[Option.bind_eq_some_iff]at a;obtain⟨o,_,a⟩:=a;split at a
 ·injection a with a
  subst a;simp
 ·simp only[Option.map_eq_some_iff]at a
  obtain⟨s,_,rfl⟩:=a;split <;> simp
theorem lT{t:Bs}{cs:List Clm}(h:bM t=.ok cs):cs.length≤2:=by
 unfold bM at h;split at h
 ·cases h
 ·split at h
  ·cases h
  ·rename_i hc
   injection h with h
   subst h;exact yP hc
theorem vZ(t:Bs):(nG t).length≤2:=by
 unfold nG
 cases hr:bM t with
 |error n=>simp
 |ok cs=>
  simp only[List.length_map];exact lT hr
theorem LOk.keys_le{T:List Bs}{st:Ldg}(h:LOk T st){l:List (Bs×Bs)}(hn:l.Nodup)(hl:∀x ∈ l,st.keys x.1 x.2≠none):l.length≤1100*T.length:=by
 refine Nat.le_trans (kG hn (u:=T.flatMap lL) ?_) (l9 lL 1100 vn T);intro x e;obtain⟨p,hp⟩:=Option.ne_none_iff_exists'.1 (hl x e);obtain⟨_,t,u,f,k,d,c,b,a⟩:=h.keys x.1 x.2 p hp;refine List.mem_flatMap.2 ⟨t,d, ?_⟩;unfold lL;rw[c];exact List.mem_map.2 ⟨k,b,by rw[a]⟩
theorem LOk.docs_le{T:List Bs}{st:Ldg}(h:LOk T st){l:List Bs}(hn:l.Nodup)(hl:∀x ∈ l,st.docs x≠none):l.length≤T.length:=by
 have d:=kG hn (u:=T.flatMap oO) (by
   intro x c;obtain⟨p,hp⟩:=Option.ne_none_iff_exists'.1 (hl x c);obtain⟨b,u,f,a⟩:=h.docs x p hp;refine List.mem_flatMap.2 ⟨p,b, ?_⟩;unfold oO;rw[a];exact List.mem_singleton.2 rfl)
 have e:=l9 oO 1 yb T;omega
theorem LOk.asked_le{T:List Bs}{st:Ldg}(h:LOk T st){l:List Bs}(hn:l.Nodup)(hl:∀x ∈ l,st.asked x≠none):l.length≤2*T.length:=by
 refine Nat.le_trans (kG hn (u:=T.flatMap nG) ?_) (l9 nG 2 vZ T);intro x f;obtain⟨p,hp⟩:=Option.ne_none_iff_exists'.1 (hl x f);obtain⟨_,t,cs,c,e,b,a,d⟩:=h.asked x p hp;refine List.mem_flatMap.2 ⟨t,e, ?_⟩;unfold nG;rw[b];exact List.mem_map.2 ⟨c,a,d⟩
end
section
open Go Go.RowKit Go.Maps
attribute [local go_sem] Oper.semAt_some
def rpC(r:Rpl):List Value:=[.string ⟨r.src.toArray⟩,.string ⟨r.srv.toArray⟩,.string ⟨r.text.toArray⟩,.bool r.fails]
def RpI(w:World)(rs:List Rpl)(ra:Option Addr):Prop:=∀j r,rs[j]? =some r→∃g o,ra=some ⟨g,o,none⟩∧∀m u,(rpC r)[m]? =some u→w.cell? ⟨g,o+j*4+m,none⟩=some u
theorem RpI.cells{w:World}{rs:List Rpl}{ra:Option Addr}(h:RpI w rs ra){j:Nat}{r:Rpl}(hr:rs[j]? =some r):∃g o,ra=some ⟨g,o,none⟩∧w.cell? ⟨g,o+j*4,none⟩=some (.string ⟨r.src.toArray⟩)∧w.cell? ⟨g,o+j*4+1,none⟩=some (.string ⟨r.srv.toArray⟩)∧w.cell? ⟨g,o+j*4+2,none⟩=some (.string ⟨r.text.toArray⟩)∧w.cell? ⟨g,o+j*4+3,none⟩=some (.bool r.fails):=by
 obtain⟨g,o,b,a⟩:=h j r hr;exact⟨g,o,b,a 0 _ rfl,a 1 _ rfl,a 2 _ rfl,a 3 _ rfl⟩
def isR(a b:Bs)(r:Rpl):Bool:=decide (r.src=a) && decide (r.srv=b)
theorem uf{rs:List Rpl}{a b:Bs}{n:Nat}{r:Rpl}(hr:rs[n]? =some r)(he:isR a b r=true)(h:∀(j:Nat) (q:Rpl),j < n→rs[j]? =some q→isR a b q=false):eR rs a b=if r.fails then none else some r.text:=by
 have:rs.find? (isR a b)=some r:=by
  obtain⟨x,c,e,d⟩:=fB (rk hr he h);rw[hr]at c;injection c with c
  subst c;exact d
 unfold eR;show (rs.find? (isR a b)).bind _=_
 rw[this];rfl
theorem qV{rs:List Rpl}{a b:Bs}(h:∀(j:Nat) (q:Rpl),j < rs.length→rs[j]? =some q→isR a b q=false):eR rs a b=none:=by
 have:rs.find? (isR a b)=none:=by
  rw[List.find?_eq_none];intro x e;obtain⟨j,c,d⟩:=List.mem_iff_getElem.1 e;have:=h j x c (by rw[List.getElem?_eq_getElem c,d]);simp[this]
 unfold eR;show (rs.find? (isR a b)).bind _=_
 rw[this];rfl
theorem vD(w:World)(rs:List Rpl)(ra:Option Addr)(rc:Nat)(hI:RpI w rs ra)(hl:rs.length≤1100000000)(a b:Bs):
  Calls prog 184 #[.slice ra rs.length rc,.string ⟨a.toArray⟩,.string ⟨b.toArray⟩] w fun e w'=>Kp (fun _=>False) w w'∧∃t:Bs,e=.returned (.tuple #[.string ⟨t.toArray⟩,.bool (eR rs a b).isSome])∧∀u,eR rs a b=some u→t=u:=by
 have I:=ae hI;clear hI;go_enter func184,ntmps184;go_wp2_with fail
 go_loopg [8] rs.length (fun gg q wx=>∃(i:Nat),gg=rs.length - i∧i≤rs.length∧q=.int .i64 (i:Int)∧Kp (fun _=>False) w wx∧∀(j:Nat) (p:Rpl),j < i→rs[j]? =some p→isR a b p=false)
 case atStart=>exact⟨0,rfl,by omega,rfl,Kp.refl _ _,fun _ _ h=>absurd h (by omega)⟩
 case round=>
  obtain⟨i,v,J,rfl,k,d⟩:=hrel;have c:=ae (An v (An k d));clear v d;by_cases B:i < rs.length
  ·have x:(i:Int) < (rs.length:Int):=by omega
   obtain⟨p,hp⟩:∃p,rs[i]? =some p:=⟨rs[i],List.getElem?_eq_getElem B⟩;obtain⟨g,o,rfl,D,E,F,G⟩:=I.o.cells hp;replace D:=k.cel D;replace E:=k.cel E;replace F:=k.cel F;replace G:=k.cel G;clear k
   have next:isR a b p=false→∀(j:Nat) (q:Rpl),j < i+1→rs[j]? =some q→isR a b q=false:=by
    intro C j q K m;rcases Nat.lt_or_ge j i with h | h
    ·exact c.o.2.2 j q h m
    ·have:j=i:=by omega
     subst this;rw[hp]at m;injection m with m
     subst m;exact C
   have f:=ae (An next hp);clear next hp;by_cases l:p.src=a
   ·have z:(p.src == a)=true:=by simpa using l
    by_cases r:p.srv=b
    ·have A:(p.srv == b)=true:=by simpa using r
     have H:=uf f.o.2 (show isR a b p=true by simp[isR,l,r]) c.o.2.2;have s:=ae H;clear H l r;go_wp2;go_quiet (fail)
     go_wp2;go_ret2
     refine⟨c.o.2.1.drewN _,p.text, ?_, ?_⟩
     ·rw[s.o]
      cases p.fails <;> rfl
     ·intro u n
      rw[s.o]at n;split at n
      ·cases n
      ·injection n
    ·have A:(p.srv == b)=false:=by simpa using r
     have y:=ae (f.o.1 (by simp[isR,r]));clear l r;go_wp2;go_roundg (rs.length - (i+1))
     all_goals first
      | (rw[c.o.1];omega)
      |exact⟨i+1,rfl,by omega,ak (by omega),c.o.2.1,y.o⟩
   ·have z:(p.src == a)=false:=by simpa using l
    have y:=ae (f.o.1 (by simp[isR,l]));clear l;go_wp2;go_roundg (rs.length - (i+1))
    all_goals first
     | (rw[c.o.1];omega)
     |exact⟨i+1,rfl,by omega,ak (by omega),c.o.2.1,y.o⟩
  ·have x:¬(i:Int) < (rs.length:Int):=by omega
   have s:=ae (qV (rs:=rs) (a:=a) (b:=b) (fun j q K m=>c.o.2.2 j q (by omega) m));clear k;go_wp2;go_ret2
   exact⟨c.o.2.1,[],by rw[s.o];rfl,fun u n=>by rw[s.o]at n;cases n⟩
theorem z8(w:World)(F:Nat→Prop)(b:Nat)(nm id ky:Bs)(so:Value)(st:Ldg)(c:Nat)(hR:RN w F b nm id ky so st c)(hkl:∀s i p,st.keys s i=some p→p.1.length≤600)(lo hi eb vb:Nat)(sv:Value)(l:List (Bs×J))(ss:List Bs)(at':Int)(msg:Bs)(hE:REv w lo hi eb vb sv l ss at' msg)(s:Bs):
  Calls prog 186 #[.pointer (some ⟨b,0,none⟩),.pointer (some ⟨eb,0,none⟩),.string ⟨s.toArray⟩] w fun e w'=>e=.returned (.bool (dQ st ⟨s,at',msg,aG l s⟩))∧Kp (fun _=>False) w w':=by
 have A:=ae (io w eb _ sv at' msg l hE.blk hE.po s);have R:=ae (An hR hkl);have ab:=hE.mlen;have Q:=ae hE.blk;clear hR hE hkl;go_enter func186,ntmps186;go_wp2_with fail
 refine A.o.mono ?_;rintro e w1 ⟨y,vi,vs,rfl,S,P,rs,ad,u⟩;obtain⟨ia,ic,rfl,Z,D⟩:=aY P;obtain⟨sa,sc,rfl,ac,I⟩:=aY rs;have v:=ae (An S (An P (An u (An D (An rs I)))));clear S P rs u D I A;go_wp2_with fail
 go_loopg [9] y.length (fun gg q wx=>∃(i:Nat),gg=y.length - i∧i≤y.length∧q=.int .i64 (i:Int)∧Kp (fun _=>False) w1 wx∧∀(j:Nat) (p:Bs×Bs),j < i→y[j]? =some p→okS st ⟨s,at',msg,aG l s⟩ p=false)
 case atStart=>exact⟨0,rfl,by omega,rfl,Kp.refl _ _,fun _ _ h=>absurd h (by omega)⟩
 case round=>
  obtain⟨i,C,aa,rfl,B,t⟩:=hrel;have L:=v.o.1.trans B;have n:=ae (An C (An t (An B L)));clear C t;obtain⟨_,_,e2,e3,X⟩:=dr ((L.block _ (ag Q.o) (by simp)).trans Q.o);by_cases M:i < y.length
  ·have E:(i:Int) < (y.length:Int):=by omega
   obtain⟨p,hp⟩:∃p,y[i]? =some p:=⟨y[i],List.getElem?_eq_getElem M⟩;obtain⟨g,rfl,hg⟩:=v.o.2.2.2.1 (by omega);obtain⟨V,rfl,Y⟩:=v.o.2.2.2.2.2 (by omega);have ci:wr.cell? ⟨g,i,none⟩=some (.string ⟨p.1.toArray⟩):=aL (an v.o.2.1 B (by simp)) i _ (by rw[List.getElem?_map,hp];rfl);have cs:wr.cell? ⟨V,i,none⟩=some (.string ⟨p.2.toArray⟩):=aL (an v.o.2.2.2.2.1 B (by simp)) i _ (by rw[List.getElem?_map,hp];rfl);have U:=ae (r8 wr.drew F b nm id ky so st c (R.o.1.kp L.drew) s p.1 at')
   have m:((bT st s p.1 at').getD []).length≤600:=by
    unfold bT
    cases hk:st.keys s p.1 with
    |none=>simp
    |some q=>
     have:=R.o.2 s p.1 q hk;simp only[Option.bind_some];split
     ·simp
     ·simpa using this
   have next:okS st ⟨s,at',msg,aG l s⟩ p=false→∀(j:Nat) (q:Bs×Bs),j < i+1→y[j]? =some q→okS st ⟨s,at',msg,aG l s⟩ q=false:=by
    intro N j q T H;rcases Nat.lt_or_ge j i with h | h
    ·exact n.o.2.1 j q h H
    ·have:j=i:=by omega
     subst this;rw[hp]at H;injection H with H
     subst H;exact N
   have good:okS st ⟨s,at',msg,aG l s⟩ p=true→dQ st ⟨s,at',msg,aG l s⟩=true:=by
    intro K;unfold dQ;rw[←lZ v.o.2.2.1,List.any_eq_true];exact⟨p,List.mem_of_getElem? hp,K⟩
   have r:=ae (An next good);clear next good hp B L;go_wp2_with fail
   refine fG ?_ wr.drew ?_ ?_;rotate_left
   ·go_region_law (refine aF rfl 85 _ _ rfl #[.pointer (some ⟨b,0,none⟩),.string ⟨s.toArray⟩,.string ⟨p.1.toArray⟩,.int .i64 at'] (by go_simp) ?_;refine U.o.mono ?_;rintro e w2 ⟨rfl,rfl⟩)
    all_goals exact cF
   cases hm:bT st s p.1 at' with
   |none=>
    have d:=ae (r.o.1 (np (by exact hm)));have a:=gI ⟨#[]⟩ ⟨msg.toArray⟩ wr.drew (by decide) (by rw[aN];omega);have f:=ae a;clear r hm m a;simp only[Option.getD_none,Option.isSome_none];go_wp2_with fail
    refine f.o.mono ?_;rintro e w3 ⟨rfl,rfl⟩;go_wp2;go_roundg (y.length - (i+1))
    case measure=>rw[n.o.1];omega
    case rel=>exact⟨i+1,rfl,by omega,ak (by omega),n.o.2.2.1.drew,d.o⟩
   |some k=>
    rw[hm]at m;simp only[Option.getD_some]at m;obtain⟨tl,htl⟩:∃tl:Bs,cQ ⟨k.toArray⟩ ⟨msg.toArray⟩=⟨tl.toArray⟩:=⟨_,rfl⟩;have G:=rI (c:=⟨s,at',msg,aG l s⟩) (p:=p) (by exact hm) htl;have a:=gI ⟨k.toArray⟩ ⟨msg.toArray⟩ wr.drew (by rw[aN];omega) (by rw[aN];omega)
    have f:Hid (Calls prog 49 #[.string ⟨k.toArray⟩,.string ⟨msg.toArray⟩] wr.drew fun e w'=>e=.returned (.string ⟨tl.toArray⟩)∧w'=wr.drew):=by
     refine a.mono ?_;rintro e w' ⟨rfl,rfl⟩;exact⟨congrArg (fun q=>Ending.returned (.string q)) htl,rfl⟩
    have z:=ae G;clear a G htl hm m;simp only[Option.getD_some,Option.isSome_some];by_cases x:p.2=tl
    ·have O:(tl == p.2)=true:=by simpa using x.symm
     have d:=ae (r.o.2 (by rw[z.o];simpa using x));clear r x;go_wp2_with fail
     refine f.o.mono ?_;rintro e w3 ⟨rfl,rfl⟩;go_wp2;go_ret;exact⟨by rw[d.o];rfl,n.o.2.2.2.drew⟩
    ·have O:(tl == p.2)=false:=by simpa using Ne.symm x
     have d:=ae (r.o.1 (by rw[z.o];simpa using x));clear r x;go_wp2_with fail
     refine f.o.mono ?_;rintro e w3 ⟨rfl,rfl⟩;go_wp2;go_roundg (y.length - (i+1))
     case measure=>rw[n.o.1];omega
     case rel=>exact⟨i+1,rfl,by omega,ak (by omega),n.o.2.2.1.drew,d.o⟩
  ·have E:¬(i:Int) < (y.length:Int):=by omega
   have r:Hid (dQ st ⟨s,at',msg,aG l s⟩=false):=by
    show _=_
    unfold dQ;rw[←lZ v.o.2.2.1,List.any_eq_false];intro p hp;obtain⟨j,T,W⟩:=List.mem_iff_getElem.1 hp;have:=n.o.2.1 j p (by omega) (by rw[List.getElem?_eq_getElem T,W]);rw[this];simp
   go_wp2;go_ret;exact⟨by rw[r.o];rfl,n.o.2.2.2⟩
theorem aH{w:World}{b:Nat}{x y:Value}{T:TypeId}(h:w.heap[b]? =some (.cells #[x,y] T)):(w.cell? ⟨b,0,none⟩=some x∧w.cell? ⟨b,1,none⟩=some y)∧w.frozen? ⟨b,0,none⟩=false∧w.frozen? ⟨b,1,none⟩=false:=by refine⟨⟨?_, ?_⟩, ?_, ?_⟩ <;> simp[World.cell?,World.frozen?,h]
theorem bO{w:World}{b:Nat}{x y p q:Value}{T:TypeId}(h:w.heap[b]? =some (.cells #[x,y] T)):((w.setCell ⟨b,0,none⟩ p).setCell ⟨b,1,none⟩ q).heap[b]? =some (.cells #[p,q] T):=by simp[World.setCell,Array.getElem?_modify,h]
theorem gQ{w w6:World}{b:Nat}{p q:Value}(h:Kp (fun _=>False) w w6)(hb:w.heap.size≤b):Kp (fun _=>False) w ((w6.setCell ⟨b,0,none⟩ p).setCell ⟨b,1,none⟩ q):=
 Kp.setCell (p:=⟨b,1,none⟩) (Kp.setCell (p:=⟨b,0,none⟩) h (fun e=>absurd e (Nat.not_lt.2 hb)) _) (fun e=>absurd e (Nat.not_lt.2 hb)) _
theorem jz{w:World}{rb:Nat}{a b:Value}(tmps:Array Value)(h2:tmps[6]?.getD undef=.pointer (some ⟨rb,0,none⟩))(hb:w.heap[rb]? =some (.cells #[a,b] 52)):
  (results Tryz.f148 tmps).run prog w=.ok (.agg #[a,b]) w:=by
 obtain⟨⟨c,d⟩,_⟩:=aH hb;simp[results,results148,go_sem,h2,c,d]
def eK(o:Nat×Bs):Value:=.agg #[.int .i64 (o.1:Int),.string ⟨o.2.toArray⟩]
theorem sl(w:World)(F:Nat→Prop)(b:Nat)(nm id ky:Bs)(so:Value)(st:Ldg)(c:Nat)(hR:RN w F b nm id ky so st c)(hkl:∀s i p,st.keys s i=some p→p.1.length≤600)(lo hi eb vb:Nat)(sv:Value)(l:List (Bs×J))(ss:List Bs)(at':Int)(msg:Bs)(hE:REv w lo hi eb vb sv l ss at' msg)(s:Bs):
  Calls prog 148 #[.pointer (some ⟨b,0,none⟩),.pointer (some ⟨eb,0,none⟩),.string ⟨s.toArray⟩] w fun e w'=>e=.returned (eK (cR st ⟨s,at',msg,aG l s⟩))∧Kp (fun _=>False) w w':=by
 have u:Kp (fun _=>False) w (w.alloc (.cells #[.int .i64 0,.string ⟨#[]⟩] 52)):=(Kp.refl _ _).alloc _;have C:=heap_alloc_new w (.cells #[.int .i64 0,.string ⟨#[]⟩] 52);have f:=hE.kp u (by simp);have r:=ae (io _ eb _ sv at' msg l f.blk f.po s);have n:=ae (An (hR.kp u) (An hkl f));have m:=ae (An u C);clear hR hE hkl f u C;go_enter func148,ntmps148;go_wp2_with fail
 generalize (w.alloc (.cells #[.int .i64 0,.string ⟨#[]⟩] 52))=w0 at *;refine r.o.mono ?_;rintro e w1 ⟨y,S,T,rfl,v,E,_,K,g⟩;obtain⟨Q,R,rfl,I,B⟩:=aY E;have q:=ae (z8 w1 F b nm id ky so st c (n.o.1.kp v) n.o.2.1 lo hi eb vb sv l ss at' msg (n.o.2.2.kp v (by simp)) s)
 have G:Hid (b8 st ⟨s,at',msg,aG l s⟩=true→0 < y.length):=by
  show b8 st ⟨s,at',msg,aG l s⟩=true→0 < y.length
  intro h;unfold b8 at h;simp only[Bool.and_eq_true,decide_eq_true_eq]at h;obtain⟨p,hp⟩:=List.length_pos_iff_exists_mem.1 h.1;exact List.length_pos_iff_exists_mem.2 ⟨p,(g p).2 hp⟩
 have x:=ae v;clear v E g B r;go_wp2_with fail
 refine q.o.mono ?_;rintro e w2 ⟨rfl,D⟩;have d:=ae (x.o.trans D);have t:=ae (sp w2 F b nm id ky so st c (n.o.1.kp d.o) lo hi eb vb sv l ss at' msg (n.o.2.2.kp d.o (by simp)) s);clear D q;go_wp2_with fail
 refine t.o.mono ?_;rintro e w3 ⟨rfl,A⟩;have z:=ae (d.o.trans A);have j:=ae (m.o.1.trans (d.o.trans A));have k:Hid (cR st ⟨s,at',msg,aG l s⟩=if dQ st ⟨s,at',msg,aG l s⟩ then (0,[]) else if b8 st ⟨s,at',msg,aG l s⟩ then (8,s) else (5,s)):=rfl;clear A t;generalize dQ st ⟨s,at',msg,aG l s⟩=rb at *;generalize b8 st ⟨s,at',msg,aG l s⟩=wb at *;have a:=ae (z.o.heap m.o.2);obtain⟨⟨L,M⟩,N,O⟩:=aH a.o
 cases rb with
 |true=>
  go_wp2;refine bodyPost_ret (jz _ rfl (bO a.o)) rfl ?_;exact⟨by rw[k.o];rfl,gQ j.o (by omega)⟩
 |false=>
  cases wb with
  |true=>
   have P:=G.o rfl;have H:(0:Int) < (y.length:Int):=by omega
   go_wp2;refine bodyPost_ret (jz _ rfl (bO a.o)) rfl ?_;exact⟨by rw[k.o];rfl,gQ j.o (by omega)⟩
  |false=>
   go_wp2
   all_goals refine bodyPost_ret (jz _ rfl (bO a.o)) rfl ?_
   all_goals exact⟨by rw[k.o];rfl,gQ j.o (by omega)⟩
end
end Go.Proofs.YtocligpfmfmihaaGreatDoor
