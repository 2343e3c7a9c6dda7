import Derived.Test.YtocligpfmfmihaaGreatDoorRea8G
import Derived.Laws.OwnMore
import Derived.Test.YtocligpfmfmihaaGreatDoorProg
import Derived.Conc.MuData
import Derived.Conc.MuLone
import Derived.KernelRfl
import Derived.Test.YtocligpfmfmihaaGreatDoorMapsG
import Derived.Defers
set_option maxHeartbeats 4000000
set_option maxRecDepth 20000
namespace Go.Proofs.YtocligpfmfmihaaGreatDoor
open Go.Proofs.Tryz
section
open Go Go.RowKit Go.Maps
def knC(k:Kn):List Value:=[.string ⟨k.srv.toArray⟩,.string ⟨k.id.toArray⟩,.string ⟨k.key.toArray⟩,.int .i64 k.till]
def hdC(p:Bs×Bs):List Value:=[.string ⟨p.1.toArray⟩,.string ⟨p.2.toArray⟩]
def akC(p:Bs×Int):List Value:=[.string ⟨p.1.toArray⟩,.int .i64 p.2]
theorem yW{α:Type}(f:α→List Value)(k:Nat)(hf:∀x,(f x).length=k)(ks:List α)(i:Nat)(x:α)(h:ks[i]? =some x)(j:Nat)(hj:j < k):(ks.flatMap f)[i*k+j]? =(f x)[j]? :=by
 induction ks generalizing i with
 |nil=>cases h
 |cons a l ih=>
  cases i with
  |zero=>
   simp at h;subst h;rw[List.flatMap_cons,List.getElem?_append_left (by rw[hf];omega)];simp
  |succ i=>
   rw[List.flatMap_cons,List.getElem?_append_right (by rw[hf,Nat.succ_mul];omega)];have:(i+1)*k+j - (f a).length=i*k+j:=by rw[hf,Nat.succ_mul];omega
   rw[this];exact ih i (by simpa using h)
theorem ct{α:Type}{f:α→List Value}{k:Nat}(hf:∀x,(f x).length=k){w:World}{B g n c:Nat}{T:TypeId}{ks:List α}(h:w.ownsRow B T k (.slice (some ⟨g,0,none⟩) n c) n (ks.flatMap f))(i:Nat)(x:α)(hx:ks[i]? =some x)(j:Nat)(hj:j < k)(u:Value)(hu:(f x)[j]? =some u):w.cell? ⟨g,i*k+j,none⟩=some u:=by
 have a:=h.cells (g:=g) rfl;have:=a (i*k+j) u (by rw[yW f k hf ks i x hx j hj];exact hu);rw[Addr.add_lit]at this;simpa using this
theorem km{w:World}{B:Nat}{g n c:Nat}{ks:List Kn}(h:w.ownsRow B 255 4 (.slice (some ⟨g,0,none⟩) n c) n (ks.flatMap knC))(i:Nat)(k:Kn)(hk:ks[i]? =some k):
  w.cell? ⟨g,i*4,none⟩=some (.string ⟨k.srv.toArray⟩)∧w.cell? ⟨g,i*4+1,none⟩=some (.string ⟨k.id.toArray⟩)∧w.cell? ⟨g,i*4+2,none⟩=some (.string ⟨k.key.toArray⟩)∧w.cell? ⟨g,i*4+3,none⟩=some (.int .i64 k.till):=
 ⟨ct (f:=knC) (fun _=>rfl) h i k hk 0 (by omega) _ rfl,ct (f:=knC) (fun _=>rfl) h i k hk 1 (by omega) _ rfl,ct (f:=knC) (fun _=>rfl) h i k hk 2 (by omega) _ rfl,ct (f:=knC) (fun _=>rfl) h i k hk 3 (by omega) _ rfl⟩
theorem mX{w:World}{B:Nat}{g n c:Nat}{ks:List (Bs×Bs)}(h:w.ownsRow B 257 2 (.slice (some ⟨g,0,none⟩) n c) n (ks.flatMap hdC))(i:Nat)(k:Bs×Bs)(hk:ks[i]? =some k):
  w.cell? ⟨g,i*2,none⟩=some (.string ⟨k.1.toArray⟩)∧w.cell? ⟨g,i*2+1,none⟩=some (.string ⟨k.2.toArray⟩):=
 ⟨ct (f:=hdC) (fun _=>rfl) h i k hk 0 (by omega) _ rfl,ct (f:=hdC) (fun _=>rfl) h i k hk 1 (by omega) _ rfl⟩
theorem aY{w:World}{B:Nat}{e:TypeId}{m:Nat}{v:Value}{n:Nat}{xs:List Value}(h:w.ownsRow B e m v n xs):∃a c,v=.slice a n c∧n≤9223372036854775807∧(0 < n→∃g,a=some ⟨g,0,none⟩∧g < w.heap.size):=by
 have f:=h;obtain⟨_,⟨rfl,rfl⟩ | ⟨g,b,d,rfl,_,_,j,i,_⟩⟩:=h
 ·exact⟨_,_,rfl,by omega,fun h=>absurd h (by omega)⟩
 ·exact⟨_,_,rfl,by unfold maxLen at i;omega,fun _=>⟨g,rfl,(f.lt g rfl).2⟩⟩
def bm(nm id ky:Bs)(so l d a:Value):Obj:=.cells #[.string ⟨nm.toArray⟩,.string ⟨id.toArray⟩,.string ⟨ky.toArray⟩,so,l,d,a] 157
theorem cL{w:World}{b:Nat}{nm id ky:Bs}{so l d a:Value}(h:w.heap[b]? =some (bm nm id ky so l d a)):
  w.cell? ⟨b,0,none⟩=some (.string ⟨nm.toArray⟩)∧w.cell? ⟨b,1,none⟩=some (.string ⟨id.toArray⟩)∧w.cell? ⟨b,2,none⟩=some (.string ⟨ky.toArray⟩)∧w.cell? ⟨b,3,none⟩=some so∧w.cell? ⟨b,4,none⟩=some l∧w.cell? ⟨b,5,none⟩=some d∧w.cell? ⟨b,6,none⟩=some a:=by
 unfold bm at h;refine⟨?_, ?_, ?_, ?_, ?_, ?_, ?_⟩ <;> simp[World.cell?,h]
theorem jj{w:World}{b:Nat}{nm id ky:Bs}{so l d a:Value}(h:w.heap[b]? =some (bm nm id ky so l d a)):
  w.frozen? ⟨b,4,none⟩=false∧w.frozen? ⟨b,5,none⟩=false∧w.frozen? ⟨b,6,none⟩=false∧b < w.heap.size:=by
 have c:=ag h;unfold bm at h;refine⟨?_, ?_, ?_,c⟩ <;> simp[World.frozen?,h]
def ixI(o:Option Nat):Int:=match o with | some k=>(k:Int) | none=> -1
theorem pC(w:World)(b:Nat)(nm id ky:Bs)(so l d a:Value)(L:List Kn)(B:Nat)(hb:w.heap[b]? =some (bm nm id ky so l d a))(row:w.ownsRow B 255 4 l L.length (L.flatMap knC))(s i:Bs):
  Calls prog 140 #[.pointer (some ⟨b,0,none⟩),.string ⟨s.toArray⟩,.string ⟨i.toArray⟩] w fun e w'=>e=.returned (.int .i64 (ixI (bv (isK s i) L)))∧w'=w:=by
 obtain⟨K,f1,f2,f3,f4,f5,f6⟩:=cL hb;obtain⟨Q,lc,rfl,H,v⟩:=aY row;have F:=ae (An v row);clear v row K f1 f2 f3 f5 f6;go_enter func140,ntmps140;go_wp2_with fail
 go_loopg [7] L.length (fun gg a wr=>∃(n:Nat),gg=L.length - n∧n≤L.length∧a=.int .i64 (n:Int)∧wr=w∧∀(j:Nat) (q:Kn),j < n→L[j]? =some q→isK s i q=false)
 case atStart=>exact⟨0,rfl,by omega,rfl,rfl,fun _ _ h=>absurd h (by omega)⟩
 case round=>
  obtain⟨n,u,M,rfl,rfl,f⟩:=hrel;have t:=ae (An u f);clear u f;by_cases A:n < L.length
  ·have x:(n:Int) < (L.length:Int):=by omega
   obtain⟨k,hk⟩:∃k,L[n]? =some k:=⟨L[n],List.getElem?_eq_getElem A⟩;obtain⟨g,rfl,_⟩:=F.o.1 (by omega);obtain⟨N,O,I,J⟩:=km F.o.2 n k hk;have D:=ae hk;clear hk I J
   have next:isK s i k=false→∀(j:Nat) (q:Kn),j < n+1→L[j]? =some q→isK s i q=false:=by
    intro C j q P c;rcases Nat.lt_or_ge j n with h | h
    ·exact t.o.2 j q h c
    ·have:j=n:=by omega
     subst this;rw[D.o]at c;injection c with c
     subst c;exact C
   have E:=ae next;clear next;by_cases p:k.srv=s
   ·have y:(k.srv == s)=true:=by simpa using p
    by_cases r:k.id=i
    ·have z:(k.id == i)=true:=by simpa using r
     have m:=ae (rk D.o (jK.2 ⟨p,r⟩) t.o.2);clear p r;go_wp2;go_ret;rw[m.o];exact⟨rfl,rfl⟩
    ·have z:(k.id == i)=false:=by simpa using r
     have m:=ae (E.o (by simp[isK,r]));clear p r;go_wp2;go_roundg (L.length - (n+1))
     case measure=>rw[t.o.1];omega
     case rel=>exact⟨n+1,rfl,by omega,ak (by omega),rfl,m.o⟩
   ·have y:(k.srv == s)=false:=by simpa using p
    have m:=ae (E.o (by simp[isK,p]));clear p;go_wp2;go_roundg (L.length - (n+1))
    case measure=>rw[t.o.1];omega
    case rel=>exact⟨n+1,rfl,by omega,ak (by omega),rfl,m.o⟩
  ·have x:¬(n:Int) < (L.length:Int):=by omega
   have m:Hid (bv (isK s i) L=none):=by
    refine BL ?_;intro j q c;refine t.o.2 j q ?_ c;rcases Nat.lt_or_ge j L.length with G | G
    ·omega
    ·rw[List.getElem?_eq_none G]at c;cases c
   go_wp2;go_ret;rw[m.o];exact⟨rfl,rfl⟩
structure RNs(w:World)(b:Nat)(nm id ky:Bs)(so l d a:Value)(L:List Kn)(D:List (Bs×Bs))(A:List (Bs×Int)):Prop where
 blk:w.heap[b]? =some (bm nm id ky so l d a)
 rl:w.ownsRow 0 255 4 l L.length (L.flatMap knC)
 rd:w.ownsRow 0 257 2 d D.length (D.flatMap hdC)
 ra:w.ownsRow 0 321 2 a A.length (A.flatMap akC)
def NdL(L:List Kn):Prop:=(L.map fun k=>(k.srv,k.id)).Nodup
structure Abs(st:Ldg)(L:List Kn)(D:List (Bs×Bs))(A:List (Bs×Int)):Prop where
 keys:∀s i,st.keys s i=cK L s i
 docs:∀s,st.docs s=asc D s
 asked:∀s,st.asked s=asc A s
 nl:NdL L
 nd:(D.map (·.1)).Nodup
 na:(A.map (·.1)).Nodup
def RNf(F:Nat→Prop)(b:Nat)(l d a:Value):Prop:=F b∧∀k,l.ownBlock=some k∨d.ownBlock=some k∨a.ownBlock=some k→F k
def RN(w:World)(F:Nat→Prop)(b:Nat)(nm id ky:Bs)(so:Value)(st:Ldg)(c:Nat):Prop:=
 ∃l d a L D A,RNs w b nm id ky so l d a L D A∧Abs st L D A∧L.length≤c∧D.length≤c∧A.length≤c∧RNf F b l d a
theorem RN.frame{w w':World}{F:Nat→Prop}{b:Nat}{nm id ky:Bs}{so:Value}{st:Ldg}{c:Nat}(h:RN w F b nm id ky so st c)(hk:∀k,F k→w'.heap[k]? =w.heap[k]?):RN w' F b nm id ky so st c:=by
 obtain⟨l,d,a,L,D,A,⟨i,j,m,n⟩,o,p,q,r,g,f⟩:=h;exact⟨l,d,a,L,D,A,⟨(hk b g).trans i,ap j (fun k e=>hk k (f k (Or.inl e))),ap m (fun k e=>hk k (f k (Or.inr (Or.inl e)))),ap n (fun k e=>hk k (f k (Or.inr (Or.inr e))))⟩,o,p,q,r,g,f⟩
theorem gy{w:World}{B:Nat}{e:TypeId}{m:Nat}{v:Value}{n:Nat}{xs:List Value}(h:w.ownsRow B e m v n xs){k:Nat}(a:v.ownBlock=some k):∃c,w.heap[k]? =some (.cells c e):=by
 rcases h.2 with⟨rfl,_⟩ | ⟨g,d,b,rfl,i,f,_⟩
 ·cases a
 ·injection a with a
  subst a;exact⟨b,f⟩
theorem dF{w:World}{B B':Nat}{e e':TypeId}{m m':Nat}{v v':Value}{n n':Nat}{xs xs':List Value}(h:w.ownsRow B e m v n xs)(h':w.ownsRow B' e' m' v' n' xs')(hne:e≠e'){k:Nat}(hk:v.ownBlock=some k):v'.ownBlock≠some k:=by
 intro b;obtain⟨c,f⟩:=gy h hk;obtain⟨g,a⟩:=gy h' b;rw[f]at a;injection a with a
 injection a with _ d _
 exact hne d
theorem dl{w:World}{B:Nat}{e T:TypeId}{m:Nat}{v:Value}{n b:Nat}{xs:List Value}{cs:Array Value}(h:w.ownsRow B e m v n xs)(hb:w.heap[b]? =some (.cells cs T))(hne:e≠T):v.ownBlock≠some b:=by
 intro f;obtain⟨c,a⟩:=gy h f;rw[hb]at a;injection a with a
 injection a with _ d _
 exact hne d.symm
theorem xN(now:Int)(h0 : -9223372036854775808≤now)(w:World):Calls prog 141 #[.int .i64 now] w fun e w'=>e=.returned (.int .i64 (jV now))∧w'=w:=by
 unfold jV;by_cases h:9223372036854774807 < now
 ·have a:decide (now > 9223372036854774807)=true:=by simpa using h
  rw[if_pos h];clear h;go_enter func141,ntmps141;go_wp2;go_ret;exact⟨rfl,rfl⟩
 ·have a:decide (now > 9223372036854774807)=false:=by simpa using h
  rw[if_neg h];go_enter func141,ntmps141;go_wp2;go_ret;exact⟨rfl,rfl⟩
theorem r8(w:World)(F:Nat→Prop)(b:Nat)(nm id ky:Bs)(so:Value)(st:Ldg)(c:Nat)(hR:RN w F b nm id ky so st c)(s i:Bs)(at':Int):
  Calls prog 85 #[.pointer (some ⟨b,0,none⟩),.string ⟨s.toArray⟩,.string ⟨i.toArray⟩,.int .i64 at'] w fun e w'=>e=.returned (.tuple #[.string ⟨((bT st s i at').getD []).toArray⟩,.bool (bT st s i at').isSome])∧w'=w:=by
 obtain⟨l,d,a,L,D,A,j,y,_⟩:=hR;have q:=ae (pC w b nm id ky so l d a L 0 j.blk j.rl s i);obtain⟨G,f1,f2,f3,f4,f5,f6⟩:=cL j.blk;obtain⟨N,lc,rfl,B,r⟩:=aY j.rl;have f:bT st s i at'=(cK L s i).bind fun p=>if p.2 < at' then none else some p.1:=by unfold bT;rw[y.keys]
 have x:=ae (An r j.rl);clear y j r G f1 f2 f3 f5 f6
 cases hix:bv (isK s i) L with
 |none=>
  rw[hix]at q;have h:bT st s i at'=none:=by rw[f];unfold cK;rw[fA hix];rfl
  rw[h];clear h f hix;go_enter func85,ntmps85;go_wp2_with fail
  refine q.o.mono ?_;rintro e w' ⟨rfl,rfl⟩;unfold ixI;go_wp2;go_ret2
  exact⟨rfl,rfl⟩
 |some n=>
  rw[hix]at q;obtain⟨k,t,hp,z⟩:=fB hix;have h:bT st s i at'=if k.till < at' then none else some k.key:=by rw[f];unfold cK;rw[z];rfl
  have J:n < L.length:=by
   rcases Nat.lt_or_ge n L.length with u | u
   ·exact u
   ·rw[List.getElem?_eq_none u]at t;cases t
  obtain⟨g,rfl,_⟩:=x.o.1 (by omega);obtain⟨C,E,K,M⟩:=km x.o.2 n k t;clear t hp z f hix C E;have H:decide ((n:Int) < 0)=false:=by simp
  have I:(n:Int) < (L.length:Int):=by omega
  by_cases m:k.till < at'
  ·have v:decide (at' > k.till)=true:=by simpa using m
   rw[h,if_pos m];clear h m;go_enter func85,ntmps85;go_wp2_with fail
   refine q.o.mono ?_;rintro e w' ⟨rfl,rfl⟩;unfold ixI;go_wp2;go_ret2
   exact⟨rfl,rfl⟩
  ·have v:decide (at' > k.till)=false:=by simpa using m
   rw[h,if_neg m];clear h m;go_enter func85,ntmps85;go_wp2_with fail
   refine q.o.mono ?_;rintro e w' ⟨rfl,rfl⟩;unfold ixI;go_wp2;go_ret2
   exact⟨rfl,rfl⟩
theorem Dn:(prog.info? 255).map (fun i=>(i.zero,i.size,i.bytes))=some (some (.agg #[.string ⟨#[]⟩,.string ⟨#[]⟩,.string ⟨#[]⟩,.int .i64 0]),4,56):=by kernel_rfl
theorem Dm:(prog.info? 257).map (fun i=>(i.zero,i.size,i.bytes))=some (some (.agg #[.string ⟨#[]⟩,.string ⟨#[]⟩]),2,32):=by kernel_rfl
theorem Dt(L:List Kn)(n:Nat)(kn:Kn)(h:L[n]? =some kn)(t:Int):(L.flatMap knC).set (n*4+3) (.int .i64 t)=(L.set n { kn with till:=t }).flatMap knC:=by
 induction L generalizing n with
 |nil=>cases h
 |cons a l ih=>
  cases n with
  |zero=>
   have:a=kn:=by simpa using h
   subst this;rfl
  |succ n=>
   rw[List.set_cons_succ,List.flatMap_cons,List.flatMap_cons,←ih n (by simpa using h),List.set_append_right _ _ (by simp[knC];omega)];have:(n+1)*4+3 - (knC a).length=n*4+3:=by simp[knC];omega
   rw[this]
theorem Dj(L:List (Bs×Bs))(n:Nat)(p:Bs×Bs)(h:L[n]? =some p)(t:Bs):(L.flatMap hdC).set (n*2+1) (.string ⟨t.toArray⟩)=(L.set n (p.1,t)).flatMap hdC:=by
 induction L generalizing n with
 |nil=>cases h
 |cons a l ih=>
  cases n with
  |zero=>
   have:a=p:=by simpa using h
   subst this;rfl
  |succ n=>
   rw[List.set_cons_succ,List.flatMap_cons,List.flatMap_cons,←ih n (by simpa using h),List.set_append_right _ _ (by simp[hdC];omega)];have:(n+1)*2+1 - (hdC a).length=n*2+1:=by simp[hdC];omega
   rw[this]
theorem RNs.kp{w w':World}{b:Nat}{nm id ky:Bs}{so l d a:Value}{L:List Kn}{D:List (Bs×Bs)}{A:List (Bs×Int)}(h:RNs w b nm id ky so l d a L D A)(hk:Kp (fun _=>False) w w'):RNs w' b nm id ky so l d a L D A:=
 ⟨hk.heap h.blk,an h.rl hk (by simp),an h.rd hk (by simp),an h.ra hk (by simp)⟩
theorem RNs.till{w:World}{b g lc:Nat}{nm id ky:Bs}{so d a:Value}{L:List Kn}{D:List (Bs×Bs)}{A:List (Bs×Int)}(h:RNs w b nm id ky so (.slice (some ⟨g,0,none⟩) L.length lc) d a L D A)(n:Nat)(kn:Kn)(hk:L[n]? =some kn)(t:Int):
  RNs (w.setCell ⟨g,n*4+3,none⟩ (.int .i64 t)) b nm id ky so (.slice (some ⟨g,0,none⟩) (L.set n { kn with till:=t }).length lc) d a (L.set n { kn with till:=t }) D A:=by
 have c:=(h.rl.stored (n*4+3) (.int .i64 t)).1;rw[Dt L n kn hk t]at c;have e:(Value.slice (some ⟨g,0,none⟩) L.length lc).ownBlock=some g:=rfl;refine⟨?_,by rw[List.length_set];exact c,ap h.rd (fun k hk'=>af ?_),ap h.ra (fun k hk'=>af ?_)⟩
 ·rw[af (by
    show b≠g
    rintro rfl;exact dl h.rl h.blk (by decide) e),List.length_set]
  exact h.blk
 ·show k≠g
  rintro rfl;exact dF h.rl h.rd (by decide) e hk'
 ·show k≠g
  rintro rfl;exact dF h.rl h.ra (by decide) e hk'
theorem RNs.more{w w9:World}{b:Nat}{nm id ky:Bs}{so l d a v9:Value}{L:List Kn}{D:List (Bs×Bs)}{A:List (Bs×Int)}{X:Obj}{kn:Kn}(h:RNs w b nm id ky so l d a L D A)(o9:w9.ownsRow 0 255 4 v9 (L.length+1) (L.flatMap knC ++knC kn))(g9:(w.alloc X).drew.grownBy w9 l.ownBlock)(a9:v9.ownBlock=l.ownBlock∨v9.ownBlock=some (w.heap.size+1)):
  w9.heap[b]? =some (bm nm id ky so l d a)∧RNs (w9.setCell ⟨b,4,none⟩ v9) b nm id ky so v9 d a (L ++[kn]) D A:=by
 have p:w9.heap[b]? =some (bm nm id ky so l d a):=by
  rw[g9.block b (by show b < (w.alloc X).heap.size;have:=ag h.blk;simp;omega) (fun e=>dl h.rl h.blk (by decide) e.symm)];exact (Below.heap_alloc w X b (ag h.blk)).trans h.blk
 have j:v9.ownBlock≠some b:=by
  rcases a9 with e | e
  ·rw[e];exact dl h.rl h.blk (by decide)
  ·rw[e]
   intro o;injection o with o
   have:=ag h.blk;omega
 have c:∀ {T:TypeId} {m n:Nat} {v:Value} {xs:List Value},w.ownsRow 0 T m v n xs→255≠T→T≠157→(w9.setCell ⟨b,4,none⟩ v9).ownsRow 0 T m v n xs:=by
  intro T m n v xs g s i;refine ap g ?_;intro k f;have r:=(g.lt k f).2
  rw[af (by
    show k≠b
    rintro rfl;exact dl g h.blk i f),g9.block k (by show k < (w.alloc X).heap.size;simp;omega) (fun e=>dF h.rl g s e.symm f)]
  exact Below.heap_alloc w X k r
 refine⟨p, ?_, ?_,c h.rd (by decide) (by decide),c h.ra (by decide) (by decide)⟩
 ·unfold bm at *
  simp[World.setCell,Array.getElem?_modify,p]
 ·have q:(L ++[kn]).flatMap knC=L.flatMap knC ++knC kn:=by simp
  rw[q,List.length_append];refine ap o9 (fun k f=>af ?_);show k≠b
  rintro rfl;exact j f
theorem zm{st2:Ldg}{L2:List Kn}{sn:Bs}{now:Int}{k:Ky}(hke:∀s i,st2.keys s i=cK L2 s i)(hix:bv (isK sn k.id) L2=none)(s' i':Bs):(bp sn now st2 k).keys s' i'=cK (L2 ++[⟨sn,k.id,k.key,bX now k⟩]) s' i':=by
 rw[zr hix];unfold bp;have a:st2.keys sn k.id=none:=by rw[hke];unfold cK;rw[fA hix];rfl
 simp only[a,hke]
theorem ik{st2:Ldg}{L2:List Kn}{sn:Bs}{k:Ky}{n:Nat}{kn:Kn}(hke:∀s i,st2.keys s i=cK L2 s i)(hix:bv (isK sn k.id) L2=some n)(hkn:L2[n]? =some kn):st2.keys sn k.id=some (kn.key,kn.till):=by
 obtain⟨x,a,c,b⟩:=fB hix;rw[hkn]at a;injection a with a
 subst a;rw[hke];unfold cK;rw[b];rfl
theorem xi{st st2:Ldg}{L2:List Kn}{sn:Bs}{k:Ky}{n:Nat}{kn:Kn}(hke:∀s i,st2.keys s i=cK L2 s i)(hix:bv (isK sn k.id) L2=some n)(hkn:L2[n]? =some kn)(h1:st2.keys sn k.id=st.keys sn k.id)(h2:iz st sn k=false):kn.key=k.key:=by
 rw[ik hke hix hkn]at h1;unfold iz at h2;rw[←h1]at h2;simpa using h2
theorem zn{st2:Ldg}{L2:List Kn}{sn:Bs}{now:Int}{k:Ky}{n:Nat}{kn:Kn}(hke:∀s i,st2.keys s i=cK L2 s i)(hix:bv (isK sn k.id) L2=some n)(hkn:L2[n]? =some kn)(hk:kn.key=k.key)(hT:kn.till < bX now k)(s' i':Bs):(bp sn now st2 k).keys s' i'=cK (L2.set n { kn with till:=bX now k }) s' i':=by
 rw[zs hix hkn];unfold bp;simp only[ik hke hix hkn,hke,hk];rw[Int.max_eq_left (by omega)]
theorem xh{st2:Ldg}{L2:List Kn}{sn:Bs}{now:Int}{k:Ky}{n:Nat}{kn:Kn}(hke:∀s i,st2.keys s i=cK L2 s i)(hix:bv (isK sn k.id) L2=some n)(hkn:L2[n]? =some kn)(hk:kn.key=k.key)(hT:¬kn.till < bX now k)(s' i':Bs):(bp sn now st2 k).keys s' i'=cK L2 s' i':=by
 unfold bp;simp only[ik hke hix hkn,←hke];rw[Int.max_eq_right (by omega)];split
 ·rename_i h
  obtain⟨rfl,rfl⟩:=h;rw[ik hke hix hkn,hk]
 ·rfl
theorem RNs.doc{w:World}{b g lc:Nat}{nm id ky:Bs}{so l a:Value}{L:List Kn}{D:List (Bs×Bs)}{A:List (Bs×Int)}(h:RNs w b nm id ky so l (.slice (some ⟨g,0,none⟩) D.length lc) a L D A)(n:Nat)(p:Bs×Bs)(hk:D[n]? =some p)(t:Bs):
  RNs (w.setCell ⟨g,n*2+1,none⟩ (.string ⟨t.toArray⟩)) b nm id ky so l (.slice (some ⟨g,0,none⟩) (D.set n (p.1,t)).length lc) a L (D.set n (p.1,t)) A:=by
 have c:=(h.rd.stored (n*2+1) (.string ⟨t.toArray⟩)).1;rw[Dj D n p hk t]at c;have e:(Value.slice (some ⟨g,0,none⟩) D.length lc).ownBlock=some g:=rfl;refine⟨?_,ap h.rl (fun k hk'=>af ?_),by rw[List.length_set];exact c,ap h.ra (fun k hk'=>af ?_)⟩
 ·rw[af (by
    show b≠g
    rintro rfl;exact dl h.rd h.blk (by decide) e),List.length_set]
  exact h.blk
 ·show k≠g
  rintro rfl;exact dF h.rd h.rl (by decide) e hk'
 ·show k≠g
  rintro rfl;exact dF h.rd h.ra (by decide) e hk'
theorem RNs.moreD{w w9:World}{b:Nat}{nm id ky:Bs}{so l d a v9:Value}{L:List Kn}{D:List (Bs×Bs)}{A:List (Bs×Int)}{X:Obj}{p:Bs×Bs}(h:RNs w b nm id ky so l d a L D A)(o9:w9.ownsRow 0 257 2 v9 (D.length+1) (D.flatMap hdC ++hdC p))(g9:(w.alloc X).drew.grownBy w9 d.ownBlock)(a9:v9.ownBlock=d.ownBlock∨v9.ownBlock=some (w.heap.size+1)):
  w9.heap[b]? =some (bm nm id ky so l d a)∧RNs (w9.setCell ⟨b,5,none⟩ v9) b nm id ky so l v9 a L (D ++[p]) A:=by
 have q:w9.heap[b]? =some (bm nm id ky so l d a):=by
  rw[g9.block b (by show b < (w.alloc X).heap.size;have:=ag h.blk;simp;omega) (fun e=>dl h.rd h.blk (by decide) e.symm)];exact (Below.heap_alloc w X b (ag h.blk)).trans h.blk
 have j:v9.ownBlock≠some b:=by
  rcases a9 with e | e
  ·rw[e];exact dl h.rd h.blk (by decide)
  ·rw[e]
   intro o;injection o with o
   have:=ag h.blk;omega
 have c:∀ {T:TypeId} {m n:Nat} {v:Value} {xs:List Value},w.ownsRow 0 T m v n xs→257≠T→T≠157→(w9.setCell ⟨b,5,none⟩ v9).ownsRow 0 T m v n xs:=by
  intro T m n v xs g t i;refine ap g ?_;intro k f;have s:=(g.lt k f).2
  rw[af (by
    show k≠b
    rintro rfl;exact dl g h.blk i f),g9.block k (by show k < (w.alloc X).heap.size;simp;omega) (fun e=>dF h.rd g t e.symm f)]
  exact Below.heap_alloc w X k s
 refine⟨q, ?_,c h.rl (by decide) (by decide), ?_,c h.ra (by decide) (by decide)⟩
 ·unfold bm at *
  simp[World.setCell,Array.getElem?_modify,q]
 ·have r:(D ++[p]).flatMap hdC=D.flatMap hdC ++hdC p:=by simp
  rw[r,List.length_append];refine ap o9 (fun k f=>af ?_);show k≠b
  rintro rfl;exact j f
theorem j4{α:Type}{D:List (Bs×α)}{sn:Bs}(h:∀(j:Nat) (p:Bs×α),j < D.length→D[j]? =some p→p.1≠sn):bv (isS sn) D=none:=by
 unfold bv;rw[List.findIdx?_eq_none_iff];intro x c;obtain⟨j,a,b⟩:=List.mem_iff_getElem.1 c;have:=h j x a (by rw[List.getElem?_eq_getElem a,b]);simpa[isS] using this
theorem j5{α:Type}{D:List (Bs×α)}{sn:Bs}{n:Nat}{p:Bs×α}(hp:D[n]? =some p)(he:p.1=sn)(h:∀(j:Nat) (q:Bs×α),j < n→D[j]? =some q→q.1≠sn):bv (isS sn) D=some n:=
 rk hp (by simpa[isS] using he) (fun j q hj hq=>by simpa[isS] using h j q hj hq)
theorem BS{L:List Kn}{s i key:Bs}{t:Int}(h:NdL L)(hix:bv (isK s i) L=none):NdL (L ++[⟨s,i,key,t⟩]):=by
 unfold NdL at *;rw[List.map_append,List.nodup_append];refine⟨h,by simp, ?_⟩;intro x d y b e;simp only[List.map_cons,List.map_nil,List.mem_singleton]at b;subst b;subst e;obtain⟨k,c,a⟩:=List.mem_map.1 d;have:=List.find?_eq_none.1 (fA hix) k c;simp only[Prod.mk.injEq]at a;exact this (jK.2 a)
theorem BT{L:List Kn}{n:Nat}{kn:Kn}{t:Int}(h:NdL L)(hk:L[n]? =some kn):NdL (L.set n { kn with till:=t }):=by
 unfold NdL at *;rw[List.map_set]
 have e:(L.map fun k=>(k.srv,k.id)).set n (kn.srv,kn.id)=L.map fun k=>(k.srv,k.id):=by
  apply List.ext_getElem?;intro j;rw[List.getElem?_set];split
  ·rename_i hj
   subst hj;have a:=(List.getElem?_eq_some_iff.1 hk).1;simp[a,(List.getElem?_eq_some_iff.1 hk).2]
  ·rfl
 rw[e];exact h
theorem xt{α:Type}{D:List (Bs×α)}{s:Bs}{x:α}(h:(D.map (·.1)).Nodup)(hix:bv (isS s) D=none):((D ++[(s,x)]).map (·.1)).Nodup:=by
 rw[List.map_append,List.nodup_append];refine⟨h,by simp, ?_⟩;intro a c y b e;simp only[List.map_cons,List.map_nil,List.mem_singleton]at b;subst b;subst e;obtain⟨k,f,d⟩:=List.mem_map.1 c;have:=List.find?_eq_none.1 (fA hix) k f;exact this (by simpa[isS] using d)
theorem xu{α:Type}{D:List (Bs×α)}{n:Nat}{p:Bs×α}{x:α}(h:(D.map (·.1)).Nodup)(hk:D[n]? =some p):((D.set n (p.1,x)).map (·.1)).Nodup:=by
 rw[List.map_set]
 have e:(D.map (·.1)).set n p.1=D.map (·.1):=by
  apply List.ext_getElem?;intro j;rw[List.getElem?_set];split
  ·rename_i hj
   subst hj;have a:=(List.getElem?_eq_some_iff.1 hk).1;simp[a,(List.getElem?_eq_some_iff.1 hk).2]
  ·rfl
 rw[e];exact h
theorem A8{st:Ldg}{L L2:List Kn}{D:List (Bs×Bs)}{A:List (Bs×Int)}{ks:List Ky}{sn text:Bs}{now:Int}{n:Nat}{p:Bs×Bs}(hA:Abs st L D A)(hke:(∀s i,(ks.foldl (bp sn now) st).keys s i=cK L2 s i)∧NdL L2)(hix:bv (isS sn) D=some n)(hk:D[n]? =some p):Abs (fC (ks.foldl (bp sn now) st) sn text) L2 (D.set n (p.1,text)) A:=by
 refine⟨hke.1, ?_, ?_,hke.2,xu hA.nd hk,hA.na⟩
 ·intro s
  rw[tT hix hk];show (if s=sn then some text else (ks.foldl (bp sn now) st).docs s)=_
  rw[ld,hA.docs]
 ·intro s
  show (ks.foldl (bp sn now) st).asked s=_
  rw[ii,hA.asked]
theorem A6{st:Ldg}{L L2:List Kn}{D:List (Bs×Bs)}{A:List (Bs×Int)}{ks:List Ky}{sn text:Bs}{now:Int}(hA:Abs st L D A)(hke:(∀s i,(ks.foldl (bp sn now) st).keys s i=cK L2 s i)∧NdL L2)(hix:bv (isS sn) D=none):Abs (fC (ks.foldl (bp sn now) st) sn text) L2 (D ++[(sn,text)]) A:=by
 refine⟨hke.1, ?_, ?_,hke.2,xt hA.nd hix,hA.na⟩
 ·intro s
  rw[tS hix];show (if s=sn then some text else (ks.foldl (bp sn now) st).docs s)=_
  rw[ld,hA.docs]
 ·intro s
  show (ks.foldl (bp sn now) st).asked s=_
  rw[ii,hA.asked]
end
end Go.Proofs.YtocligpfmfmihaaGreatDoor
namespace Go.Proofs
open Go.Proofs.Tryz
section
abbrev Tryz.muLink:Go.Conc.Locks.MuLink:={ lock:=96,unlock:=97,ilock:=153,iunlock:=154,lockSlow:=197,unlockSlow:=200,disable:=193,enable:=195,acquire:=196,relMerge:=198,cas32:=194,add32:=199,tMutex:=175,tIMutex:=173,tPMutex:=278,tPIMutex:=332,tPI32:=334,tUP:=211,tNoCopy:=171,tU32:=152 }
theorem Tryz.muLib:Go.Conc.Locks.MuLib prog Tryz.muLink:=
 ⟨func96,func97,func153,func154,func193,func195,func196,func198,func194,func199,underlying173,Tryz.runUnderlying173,Tryz.sizeOf173,Tryz.isAgg173,Tryz.zeroValue173,underlying175,Tryz.runUnderlying175,Tryz.sizeOf175,Tryz.isAgg175,Tryz.zeroValue175,underlying278,Tryz.runUnderlying278,Tryz.sizeOf278,Tryz.isAgg278,Tryz.zeroValue278,underlying332,Tryz.runUnderlying332,Tryz.sizeOf332,Tryz.isAgg332,Tryz.zeroValue332,underlying334,Tryz.runUnderlying334,Tryz.sizeOf334,Tryz.isAgg334,Tryz.zeroValue334,underlying211,Tryz.runUnderlying211,Tryz.sizeOf211,Tryz.isAgg211,Tryz.zeroValue211,underlying171,Tryz.runUnderlying171,Tryz.sizeOf171,Tryz.isAgg171,Tryz.zeroValue171,underlying21,Tryz.runUnderlying21,Tryz.sizeOf21,Tryz.isAgg21,Tryz.zeroValue21,(by kernel_rfl)⟩
end
end Go.Proofs
namespace Go.Proofs.YtocligpfmfmihaaGreatDoor
open Go.Proofs.Tryz
section
open Go Go.RowKit Go.Maps Go.WideMaps Go.MuLone
theorem gG{t e:TypeId}{z:Value}(ht:prog.underlying t=some (.map 9 e))(hz:∀w,(zeroValue e).run prog w=.ok z w)(w:World)(m:List (Bs×Value))(b n:Nat)(k:Bs)(hk:k.length≤139000000000000)(h:w.ownsMap prog 9 Rv b n (dm m)):
  (Instr.lookup t (.map (some b)) (.string ⟨k.toArray⟩) true).run prog w=.ok (.tuple #[(ai k m).getD z,.bool (ai k m).isSome]) w:=by
 obtain⟨f,d,c,a⟩:=h.look_ok ed ht (hz w) (R:=Rv) (zd:=.held z) (zp:=[]) rfl (dj hk);rw[qP]at c;rw[l7]at a;rw[c]
 cases hl:ai k m with
 |none=>
  rw[hl]at a;simp only[Rv,Option.some.injEq,Prod.mk.injEq,DataW.held.injEq]at a;rw[a.1];rfl
 |some v=>
  rw[hl]at a;simp only[Rv,Option.some.injEq,Prod.mk.injEq,DataW.held.injEq]at a;rw[a.1];rfl
theorem vU(w:World):(zeroValue 178).run prog w=.ok (.pointer none) w:=by kernel_rfl
theorem sK(w:World):(zeroValue 199).run prog w=.ok (.agg #[.string ⟨#[]⟩,.int .i64 0]) w:=by kernel_rfl
theorem EL(w:World):(zeroValue 2).run prog w=.ok (.int .i64 0) w:=by kernel_rfl
def dT(mb ib:Nat):Obj:=.cells #[.int .i32 0,.int .u32 0,.map (some mb),.map (some ib)] 177
theorem gu{w:World}{b mb ib:Nat}(h:w.heap[b]? =some (dT mb ib)):w.cell? ⟨b,0,none⟩=some (.int .i32 0)∧w.cell? ⟨b,2,none⟩=some (.map (some mb))∧w.cell? ⟨b,3,none⟩=some (.map (some ib))∧w.frozen? ⟨b,0,none⟩=false:=by
 unfold dT at h;refine⟨?_, ?_, ?_, ?_⟩ <;> simp[World.cell?,World.frozen?,h]
def held(b:Nat)(w:World):World:=w.setCell ⟨b,0,none⟩ (.int .i32 1)
theorem fy{w:World}{b mb ib:Nat}(h:w.heap[b]? =some (dT mb ib)):(held b w).cell? ⟨b,0,none⟩=some (.int .i32 1)∧(held b w).cell? ⟨b,2,none⟩=some (.map (some mb))∧(held b w).cell? ⟨b,3,none⟩=some (.map (some ib))∧(held b w).frozen? ⟨b,0,none⟩=false:=by
 have a:(held b w).heap[b]? =some (.cells #[.int .i32 1,.int .u32 0,.map (some mb),.map (some ib)] 177):=by
  unfold held dT at *;simp[World.setCell,Array.getElem?_modify,h]
 refine⟨?_, ?_, ?_, ?_⟩ <;> simp[World.cell?,World.frozen?,a]
theorem wW{w:World}{b mb ib:Nat}(h:w.heap[b]? =some (dT mb ib)):(held b w).setCell ⟨b,0,none⟩ (.int .i32 0)=w:=by
 have c:=ag h;unfold held World.setCell
 cases w with
 |mk heap os tape output=>
  simp only[World.mk.injEq,and_true];apply Array.ext_getElem?;intro j;unfold dT at h;simp only[Array.getElem?_modify];by_cases a:b=j
  ·subst a
   simp only[if_true,Option.map_map];simp at h;simp[h]
  ·simp[a]
theorem bW{w:World}{b k:Nat}(h:k≠b):(held b w).heap[k]? =w.heap[k]? :=by
 unfold held;exact af (by exact h)
theorem mY{w:World}{b mb ib:Nat}(h:w.heap[b]? =some (dT mb ib)):(held b w).heap[b]? =some (.cells #[.int .i32 1,.int .u32 0,.map (some mb),.map (some ib)] 177):=by
 unfold held dT at *;simp[World.setCell,Array.getElem?_modify,h]
theorem kx{w X:World}{b mb ib:Nat}(h:w.heap[b]? =some (dT mb ib))(K:Kp (fun _=>False) (held b w) X):
  X.cell? ⟨b,0,none⟩=some (.int .i32 1)∧X.frozen? ⟨b,0,none⟩=false∧Kp (fun _=>False) w (X.setCell ⟨b,0,none⟩ (.int .i32 0)):=by
 have c:=K.heap (mY h);have f:=ag h;have d:(held b w).heap.size=w.heap.size:=World.size_setCell _ _ _;refine⟨by simp[World.cell?,c],by simp[World.frozen?,c],K.os,K.tape,K.output, ?_, ?_⟩
 ·rw[World.size_setCell,←d];exact K.size
 ·intro k e _
  by_cases a:k=b
  ·subst a
   rw[h];simp[World.setCell,Array.getElem?_modify,c,dT]
  ·rw[af (by exact a),K.block k (by omega) (by simp),bW a]
theorem bw{w:World}{b n:Nat}{m:List (Bs×Value)}(h:w.ownsMap prog 9 Rv b n (dm m)){k:Nat}{c:Array Value}{t:TypeId}(hk:w.heap[k]? =some (.cells c t)):b≠k:=by
 rintro rfl;obtain⟨d,cl,a,_⟩:=h;rw[hk]at a;cases a
def eJ(qb:Nat)(t:Bs):Obj:=.cells #[.map (some qb),.string ⟨t.toArray⟩] 182
def kkV(p:Bs×Int):Value:=.agg #[.string ⟨p.1.toArray⟩,.int .i64 p.2]
theorem zj(w:World)(kb mb ib n:Nat)(sm:List (Bs×Value))(hk:w.heap[kb]? =some (dT mb ib))(hm:w.ownsMap prog 9 Rv mb n (dm sm))(s i:Bs)(hs:s.length≤2000000)(at':Int)(hl:ai s sm=none):
  Calls prog 64 #[.pointer (some ⟨kb,0,none⟩),.string ⟨s.toArray⟩,.string ⟨i.toArray⟩,.int .i64 at'] w fun e w'=>e=.returned (.tuple #[.string ⟨#[]⟩,.bool false])∧w'=w:=by
 obtain⟨c,j,k,g⟩:=gu hk;obtain⟨d,l,m,h⟩:=fy hk;have a:=gG underlying168 vU (held kb w) sm mb n s (by omega) (ay hm (bW (bw hm hk)));rw[hl]at a;replace a:(Instr.lookup 168 (.map (some mb)) (.string ⟨s.toArray⟩) true).run prog (held kb w)=.ok (.tuple #[.pointer none,.bool false]) (held kb w):=a;have b:=ae (wW hk);unfold held at *;go_enter_defers func64,ntmps64
 go_wp2_with (go_at_call 96;refine (lock_free Tryz.muLib ⟨kb,0,none⟩ _ c g).mono ?_;rintro e w' ⟨rfl,rfl⟩)
 refine leaves_cons (f:=97) (args:= #[.pointer (some ⟨kb,0,none⟩)]) (by simp) (by simp[go_sem]) ?_;refine (unlock_deferred Tryz.muLib ⟨kb,0,none⟩ .returning _ d h).mono ?_;rintro e p w'' ⟨rfl,rfl,rfl⟩;exact⟨_,results_tmp2 rfl _ _ _,rfl,b.o⟩
end
end Go.Proofs.YtocligpfmfmihaaGreatDoor
