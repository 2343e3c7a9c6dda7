import Derived.Test.YtocligpfmfmihaaGreatDoorJson
set_option maxHeartbeats 4000000
set_option maxRecDepth 100000
namespace Go.Proofs.YtocligpfmfmihaaGreatDoor
section
open Go.Lib
def gW(n:Nat):UInt8:=if n < 10 then UInt8.ofNat (48+n) else UInt8.ofNat (87+n)
def cB(c:UInt8):Bs:=
 if c=34∨c=92 then [92,c] else if c=8 then [92,98] else if c=12 then [92,102] else if c=10 then [92,110] else if c=13 then [92,114] else if c=9 then [92,116]
 else if c < 32 then [92,117,48,48,gW (c.toNat / 16),gW (c.toNat % 16)] else [c]
def cU(s:Bs):Bs:=34 :: (s.flatMap cB ++[34])
def dA(n:Nat):Bs:=if n < 10 then [UInt8.ofNat (48+n)] else dA (n / 10) ++[UInt8.ofNat (48+n % 10)]
def gT(n:Int):Bs:=if n < 0 then 45 :: dA n.natAbs else dA n.natAbs
def aB:List Bs→Bs
 | []=>[]
 | [x]=>x
 |x :: y :: l=>x ++44 :: aB (y :: l)
mutual
def cJ:J→Bs
 |.null=>[110,117,108,108]
 |.bool b=>if b then [116,114,117,101] else [102,97,108,115,101]
 |.num n=>gT n
 |.str s=>cU s
 |.arr l=>91 :: (aB (cJs l) ++[93])
 |.obj l=>123 :: (aB (cMs l) ++[125])
def cJs:List J→List Bs
 | []=>[]
 |x :: l=>cJ x :: cJs l
def cMs:List (Bs×J)→List Bs
 | []=>[]
 | (k,x) :: l=>(cU k ++58 :: cJ x) :: cMs l
end
def aD(p:Bs×J):Bs:=cU p.1 ++58 :: cJ p.2
theorem tV(l:List J):cJs l=l.map cJ:=by
 induction l with
 |nil=>rfl
 |cons x l ih=>simp[cJs,ih]
theorem Bv(l:List (Bs×J)):cMs l=l.map aD:=by
 induction l with
 |nil=>rfl
 |cons x l ih=>obtain⟨k,v⟩:=x;simp[cMs,aD,ih]
theorem nH(l:List J):cJ (.arr l)=91 :: (aB (l.map cJ) ++[93]):=by rw[cJ,tV]
theorem c7(l:List (Bs×J)):cJ (.obj l)=123 :: (aB (l.map aD) ++[125]):=by rw[cJ,Bv]
theorem j6(l:List Bs)(x:Bs):aB (l ++[x])=if l=[] then x else aB l ++44 :: x:=by
 induction l with
 |nil=>simp[aB]
 |cons a l ih=>
  cases l with
  |nil=>simp[aB]
  |cons b l=>simp[aB]at ih ⊢;rw[ih]
mutual
def WF:Nat→J→Prop
 |_,.null=>True
 |_,.bool _=>True
 |_,.num n=>n.natAbs≤bK
 |_,.str s=>validD s=true
 |0,.arr _=>False
 |0,.obj _=>False
 |d+1,.arr l=>WFs d l
 |d+1,.obj l=>Srt l∧WFm d l
def WFs:Nat→List J→Prop
 |_,[]=>True
 |d,x :: l=>WF d x∧WFs d l
def WFm:Nat→List (Bs×J)→Prop
 |_,[]=>True
 |d,(k,x) :: l=>validD k=true∧WF d x∧WFm d l
end
theorem AH(d:Nat)(l:List J):WFs d l↔∀x ∈ l,WF d x:=by
 induction l with
 |nil=>simp[WFs]
 |cons x l ih=>simp[WFs,ih]
theorem jD(d:Nat)(l:List (Bs×J)):WFm d l↔∀p ∈ l,validD p.1=true∧WF d p.2:=by
 induction l with
 |nil=>simp[WFm]
 |cons x l ih=>obtain⟨k,v⟩:=x;simp[WFm,ih,and_assoc]
theorem Dh(n:Nat)(h:n < 128):(Utf8.encode (n:Int)).data.toList=[UInt8.ofNat n]:=by
 have a:Utf8.valid (n:Int)=true:=by unfold Utf8.valid;simp;omega
 unfold Utf8.encode;simp[a,h]
theorem rH(c:UInt8):UInt8.ofNat c.toNat=c:=by simp
theorem wu(n m b0 b1 b2 b3 c1 c2 c3 k:Nat)(hk:(decodeN n b0 b1 b2 b3).2=k)(hkn:k≤n)(hkm:k≤m)(hb:¬((decodeN n b0 b1 b2 b3).1=65533∧k=1))
  (h1:1 < k→c1=b1) (h2:2 < k→c2=b2) (h3:3 < k→c3=b3):decodeN m b0 c1 c2 c3=decodeN n b0 b1 b2 b3:=by
 have c:k=1∨k=2∨k=3∨k=4:=by
  rw[←hk];unfold decodeN
  repeat' split
  all_goals simp
 have a:¬(decodeN n b0 b1 b2 b3=(65533,1)):=by
  intro e;rw[e]at hk hb;simp at hk;exact hb ⟨rfl,hk.symm⟩
 rcases c with rfl | rfl | rfl | rfl
 ·have b:b0 < 128:=by
   clear h1 h2 h3 hb;unfold decodeN at hk a
   repeat' split at hk
   all_goals first | assumption | (simp at hk;done) | simp_all
  simp[decodeN,b]
 ·obtain rfl:=h1 (by decide)
  clear h1 h2 h3 hb;unfold decodeN at hk a ⊢
  repeat' split at hk
  all_goals first | (simp at hk;done) | skip
  all_goals clear a hk
  all_goals repeat' split
  all_goals first | rfl | (exfalso;omega)
 ·obtain rfl:=h1 (by decide)
  obtain rfl:=h2 (by decide);clear h1 h2 h3 hb;unfold decodeN at hk a ⊢
  repeat' split at hk
  all_goals first | (simp at hk;done) | skip
  all_goals clear a hk
  all_goals repeat' split
  all_goals first | rfl | (exfalso;omega)
 ·obtain rfl:=h1 (by decide)
  obtain rfl:=h2 (by decide);obtain rfl:=h3 (by decide);clear h1 h2 h3 hb;unfold decodeN at hk a ⊢
  repeat' split at hk
  all_goals first | (simp at hk;done) | skip
  all_goals clear a hk
  all_goals repeat' split
  all_goals first | rfl | (exfalso;omega)
theorem mu(l r:Bs)(i:Nat)(h:i < l.length):(l ++r).getD i 0=l.getD i 0:=by simp[List.getD_eq_getElem?_getD,List.getElem?_append_left h]
theorem BC(l r:Bs)(hne:l≠[])(hb:¬((decodeL l).1=65533∧(decodeL l).2=1)):decodeL (l.take (decodeL l).2 ++r)=decodeL l:=by
 have a:=decodeL_le l hne;have d:=decodeL_width l;generalize hkk:(decodeL l).2=k at a d hb;have b:(l.take k).length=k:=by simp;omega
 have g:∀i,i < k→(l.take k ++r).getD i 0=l.getD i 0:=by
  intro i c;rw[mu _ _ _ (by omega)];simp[List.getD_eq_getElem?_getD,c]
 rw[decodeL_N (l.take k ++r),g 0 (by omega)];rw[decodeL_N l]at hkk hb ⊢;refine wu _ _ _ _ _ _ _ _ _ k hkk a (by simp;omega) hb ?_ ?_ ?_
 ·intro h;rw[g 1 h]
 ·intro h;rw[g 2 h]
 ·intro h;rw[g 3 h]
theorem Bu(c:UInt8)(h:128≤c.toNat):cB c=[c]:=by
 have ne:∀x:UInt8,x.toNat < 128→c≠x:=by rintro x b rfl;omega
 have a:¬c < 32:=by rw[UInt8.lt_iff_toNat_lt];simp;omega
 simp[cB,ne 34 (by decide),ne 92 (by decide),ne 8 (by decide),ne 12 (by decide),ne 10 (by decide),ne 13 (by decide),ne 9 (by decide),a]
theorem pT(l:Bs)(h:∀b ∈ l,128≤b.toNat):l.flatMap cB=l:=by
 induction l with
 |nil=>rfl
 |cons c l ih=>rw[List.flatMap_cons,Bu c (h c (by simp)),ih (fun b hb=>h b (by simp[hb]))];rfl
theorem vo(l:Bs)(c:UInt8):aO (l ++[c])=aO l*10+(c.toNat - 48):=by simp[aO]
theorem vk(x:Bs)(l:List Bs):aB (x :: l)=x ++l.flatMap (fun y=>44 :: y):=by
 induction l generalizing x with
 |nil=>simp[aB]
 |cons y l ih=>rw[aB,ih y];simp
theorem xa{α:Type}(k:Bs)(v:α)(l:List (Bs×α))(h:∀p ∈ l,p.1 < k):aC k v l=l ++[(k,v)]:=by
 induction l with
 |nil=>rfl
 |cons q l ih=>
  obtain⟨a,x⟩:=q;have b:a < k:=h (a,x) (by simp);rw[aC,if_neg (fun g=>dz _ (kC b g)),if_neg (fun e=>by subst e;exact dz _ b),ih (fun p hp=>h p (by simp[hp]))];rfl
theorem uv{α:Type}(l:List (Bs×α))(h:Srt l):ofL l=l:=by
 have:∀(l a:List (Bs×α)),Srt (a ++l)→l.foldl (fun a p=>aC p.1 p.2 a) a=a ++l:=by
  intro l
  induction l with
  |nil=>intro a _;simp
  |cons p l ih=>
   intro a b;have c:∀q ∈ a,q.1 < p.1:=fun q hq=>(List.pairwise_append.1 b).2.2 q hq p (by simp)
   rw[List.foldl_cons,xa _ _ _ c,ih _ (by simpa using b)];simp
 exact this l [] h
end
end Go.Proofs.YtocligpfmfmihaaGreatDoor
