import Derived.Test.YtocligpfmfmihaaGreatDoorObj2
import Derived.Test.YtocligpfmfmihaaGreatDoorSizeG
import Derived.Test.YtocligpfmfmihaaGreatDoorRef11G
set_option maxRecDepth 20000
namespace Go.Proofs.YtocligpfmfmihaaGreatDoor
open Go.Proofs.Tryz
section
open Go Go.RowKit Go.Maps Go.WideMaps
mutual
theorem fS:∀(j:J),cnt j≤(cJ j).length
 |.null=>by simp[cnt]
 |.bool _=>by simp[cnt]
 |.num _=>by simp[cnt]
 |.str _=>by simp[cnt]
 |.arr l=>by
  have h:=ua l;rw[cnt,cJ,tV];simp only[List.length_cons,List.length_append,List.length_nil];omega
 |.obj l=>by
  have h:=t8 l;rw[cnt,c7];simp only[List.length_cons,List.length_append,List.length_nil];omega
theorem ua:∀(l:List J),fJ l≤(aB (l.map cJ)).length+1
 | []=>by simp[fJ]
 | [x]=>by
  have h:=fS x;simp only[fJ,List.map_cons,List.map_nil,aB];omega
 |x :: y :: l=>by
  have h:=fS x;have a:=ua (y :: l);rw[fJ];simp only[List.map_cons,aB,List.length_append,List.length_cons]at a ⊢;omega
theorem t8:∀(l:List (Bs×J)),bZ l≤(aB (l.map aD)).length+1
 | []=>by simp[bZ]
 | [(k,x)]=>by
  have h:=fS x;simp only[bZ,List.map_cons,List.map_nil,aB,aD,List.length_append,List.length_cons];omega
 | (k,x) :: y :: l=>by
  have h:=fS x;have a:=t8 (y :: l);rw[bZ];simp only[List.map_cons,aB,List.length_append,List.length_cons,aD]at a ⊢;omega
end
theorem oW(W:World)(hG:GL W):∀(d:Nat) (j:J),WF d j→cnt j≤1000000→jm W j
 |_,.null,_,_=>yG W
 |_,.bool b,_,_=>yF W b
 |d,.num n,h,_=>Bb W hG n (by cases d <;> simpa[WF] using h)
 |_,.str s,_,_=>yH W s
 |d+1,.arr l,h,hc=>by
  rw[WF]at h;rw[cnt]at hc;exact Ba W l (fun x hx=>oW W hG d x (tL d l x h hx) (by have:=(oY l).2 x hx;omega))
 |d+1,.obj l,h,hc=>by
  rw[WF]at h;rw[cnt]at hc;refine Bc W l (oX W l (fun p hp=>oW W hG d p.2 (qF d l p h.2 hp) (by have:=(eq l).2 p hp;omega)) h.1 ?_);have:=(eq l).1;omega
 |0,.arr _,h,_=>by simp[WF]at h
 |0,.obj _,h,_=>by simp[WF]at h
theorem BU(B:Nat)(w:World):Row B w (.slice none 0 0) []:=⟨rfl,Or.inl ⟨rfl,rfl⟩⟩
theorem sG(W:World)(hG:GL W)(d:Nat)(j:J)(hj:WF d j)(hc:cnt j≤1000000)(hlen:(cnt j+1)*((cJ j).length+2)≤139000000000000)(F:Nat→Prop)(v:Value)(w:World)(hW:Below W.heap.size W w)(hr:Rep w F j v):
  Calls prog 36 #[v] w fun e w'=>e=.returned (.string ⟨(cJ j).toArray⟩)∧Wr w.heap.size w w':=by
 obtain⟨f,u,rfl⟩:=Rep.iface hr;go_enter func36,ntmps36;go_wp2_with fail
 refine (oW W hG d j hj hc w.heap.size w (.slice none 0 0) [] F (.iface f u) (cJ j).length hW hW.size (BU _ _) (Nat.le_refl _) hr (Nat.le_refl _) (by simpa using hlen)).mono ?_;rintro e w2 ⟨g,rfl,b,z2⟩;have a:=kK b;clear b;simp only[List.nil_append]at a;have c:=ae z2;clear z2;go_wp2;go_ret;exact⟨rfl,c.o⟩
end
section
open Go Go.RowKit Go.Extern.Stop Go.Stop Go.Extern
structure NG(W:World):Prop where
 gl:GL W
 ety:W.cell? ⟨9,0,none⟩=some (.iface 289 ((Value.agg #[Value.pointer (some (Addr.mk 31 61 none))])))
 lon:∃a c t,W.cell? ⟨0,0,none⟩=some (ax a)∧W.heap[a.block]? =some (.cells c t)
 obj:∃a c t,W.cell? ⟨1,0,none⟩=some (ax a)∧W.heap[a.block]? =some (.cells c t)
 ne:∀a,W.cell? ⟨0,0,none⟩=some (ax a)→W.cell? ⟨1,0,none⟩≠some (ax a)
def EV(W w:World)(ev:Value)(n:Nat):Prop:=
 (n=1∧W.cell? ⟨0,0,none⟩=some ev)∨(n=2∧∃fb,ev=.iface 116 (.pointer (some ⟨fb,0,none⟩))∧ir W w fb)∨(n=3∧W.cell? ⟨1,0,none⟩=some ev)
def w3(w:World):World:=((w.alloc (.cells #[.pointer none] 116)).alloc (.cells #[.pointer none] 117)).alloc (.cells #[.pointer none] 118)
theorem eo(w:World):Kp (fun _=>False) w (w3 w):=(((Kp.refl _ w).alloc _).alloc _).alloc _
theorem AF(w:World):(w3 w).heap[w.heap.size]? =some (.cells #[.pointer none] 116):=by
 unfold w3;rw[Below.heap_alloc _ _ _ (by simp;omega)];exact (gE w _ _).1
theorem Kp.heap{w w':World}{k:Nat}{o:Obj}(h:Kp (fun _=>False) w w')(hk:w.heap[k]? =some o):w'.heap[k]? =some o:=(h.block k (ag hk) (by simp)).trans hk
theorem Kp.cel{w w':World}{a:Addr}{o:Value}(h:Kp (fun _=>False) w w')(hk:w.cell? a=some o):w'.cell? a=some o:=(h.cell (bk hk) (by simp)).trans hk
theorem Below.hp{W w:World}{k:Nat}{o:Obj}(h:Below W.heap.size W w)(hk:W.heap[k]? =some o):w.heap[k]? =some o:=(h.block k (ag hk)).trans hk
theorem Below.cl{W w:World}{a:Addr}{o:Value}(h:Below W.heap.size W w)(hk:W.cell? a=some o):w.cell? a=some o:=(h.cell (bk hk)).trans hk
theorem u5(W:World)(hN:NG W)(w:World)(hW:Below W.heap.size W w)(ev:Value)(he:W.cell? ⟨0,0,none⟩=some ev):
  Calls prog 35 #[ev] w fun e w'=>e=.returned (.int .i64 1)∧Kp (fun _=>False) w w':=by
 obtain⟨a,c,t,b,g⟩:=hN.lon;rw[he]at b;injection b with b
 subst b;have f:=(eo w).cel (Below.cl hW he);have d:=ae (eo w);clear he;unfold w3 at f d;unfold ax at f ⊢;go_enter func35,ntmps35;go_wp2_with fail
 refine (uk a _).mono ?_;rintro e w' ⟨rfl,rfl⟩;go_wp2;go_ret;exact⟨rfl,d.o⟩
theorem tj(W:World)(hN:NG W)(w:World)(hW:Below W.heap.size W w)(fb:Nat)(hf:ir W w fb):
  Calls prog 35 #[.iface 116 (.pointer (some ⟨fb,0,none⟩))] w fun e w'=>e=.returned (.int .i64 2)∧Kp (fun _=>False) w w':=by
 obtain⟨a,c,t,b,h⟩:=hN.lon;obtain⟨k,g,f,f1,f2,f3,f4⟩:=hf;obtain⟨f5,n,q,f6⟩:=f4 0 (by simp);have d:f≠a:=by rintro rfl;exact f5 b
 have j:=(eo w).cel (Below.cl hW b);have H:=ae (An (eo w) (An ((eo w).heap f1) (An ((eo w).heap (Below.hp hW f6)) (An ((eo w).heap (Below.hp hW h)) (An ((eo w).cel (Below.cl hW hN.ety)) (AF w))))));clear f1 f2 f4 f5 f6 b h;unfold w3 at j H;unfold ax at j;go_enter func35,ntmps35;go_wp2_with fail
 refine (ze fb f a _ _ _ _ _ _ H.o.2.1 d H.o.2.2.1 H.o.2.2.2.1).mono ?_;rintro e w' ⟨rfl,rfl⟩;go_wp2_with fail
 refine (C7 fb w.heap.size _ _ H.o.2.2.2.2.1 H.o.2.2.2.2.2).mono ?_;rintro e w' ⟨rfl,l⟩;have m:=ae (H.o.1.and (S:=fun _=>False) l (by intro i p e;omega));clear l;go_wp2;go_ret;exact⟨rfl,m.o⟩
theorem wJ(W:World)(hN:NG W)(w:World)(hW:Below W.heap.size W w)(ev:Value)(he:W.cell? ⟨1,0,none⟩=some ev):
  Calls prog 35 #[ev] w fun e w'=>e=.returned (.int .i64 3)∧Kp (fun _=>False) w w':=by
 obtain⟨a,c,t,f,k⟩:=hN.lon;obtain⟨b,n,p,d,l⟩:=hN.obj;rw[he]at d;injection d with d
 subst d;have j:b≠a:=by rintro rfl;exact hN.ne _ f he
 have g:=(eo w).cel (Below.cl hW f);have H:=ae (An (eo w) (An ((eo w).cel (Below.cl hW he)) (An ((eo w).heap (Below.hp hW l)) (An ((eo w).heap (Below.hp hW k)) (An ((eo w).cel (Below.cl hW hN.ety)) (AF w))))));clear f k l he;unfold w3 at g H;unfold ax at g ⊢;go_enter func35,ntmps35;go_wp2_with fail
 refine (zf b a _ _ _ _ _ j H.o.2.2.1 H.o.2.2.2.1).mono ?_;rintro e w' ⟨rfl,rfl⟩;go_wp2_with fail
 refine (Bi b w.heap.size _ _ H.o.2.2.2.2.1 H.o.2.2.2.2.2).mono ?_;rintro e w' ⟨rfl,i⟩;have m:=ae (H.o.1.trans i);have h:=i.cel H.o.2.1;unfold ax at h;clear i g;go_wp2_with fail
 refine (uk b _).mono ?_;rintro e w' ⟨rfl,rfl⟩;go_wp2;go_ret;exact⟨rfl,m.o⟩
theorem pc(W:World)(hN:NG W)(w:World)(hW:Below W.heap.size W w)(ev:Value)(n:Nat)(b:EV W w ev n):
  Calls prog 35 #[ev] w fun e w'=>e=.returned (.int .i64 n)∧Kp (fun _=>False) w w':=by
 rcases b with⟨rfl,h⟩ | ⟨rfl,a,rfl,h⟩ | ⟨rfl,h⟩
 ·exact u5 W hN w hW ev h
 ·exact tj W hN w hW a h
 ·exact wJ W hN w hW ev h
def RvR(W w:World)(l:Bs)(e:Ending)(w':World):Prop:=Kp (fun _=>False) w w'∧((∃j v,eh l=.ok j∧e=.returned (.tuple #[v,.nilIface])∧Rep w' (fun b=>w.heap.size≤b∧b < w'.heap.size) j v) ∨
    (∃n ev,eh l=.error n∧e=.returned (.tuple #[.nilIface,ev])∧EV W w' ev n∧∃t u,ev=.iface t u))
theorem kY(s:ByteArray):s.data.toList.length=s.size:=by rw[Array.length_toList];rfl
theorem tB(W:World)(hN:NG W)(s:ByteArray)(w:World)(hW:Below W.heap.size W w):
  Calls prog 34 #[.string s] w fun e w'=>RvR W w s.data.toList e w':=by
 obtain⟨a,c,t,d,n⟩:=hN.lon;have x:=Below.cl hW d;have z:=kY s;by_cases B:600 < s.size
 ·have y:decide ((600:Int) < (s.size:Int))=true:=by simp;omega
  have k:Hid (EV W w (ax a) 1):=Or.inl ⟨rfl,d⟩;have b:=ae (show eh s.data.toList=.error 1 by unfold eh;rw[if_pos (by omega)]);unfold ax at x k;clear d n;go_enter func34,ntmps34;go_wp2;go_quiet (fail)
  go_wp2;go_ret2
  exact⟨(Kp.refl _ _).drewN _,Or.inr ⟨1,_,b.o,rfl,k.o,_,_,rfl⟩⟩
 ·have y:decide ((600:Int) < (s.size:Int))=false:=by simp;omega
  have i:s.size≤600:=by omega
  clear d n;go_enter func34,ntmps34;go_wp2_with fail
  refine (Cc W hN.gl s i w hW).mono ?_;rintro e w' ⟨q,h⟩;have b:=ae (show eh s.data.toList=match dk s.data.toList with | none=>.error 2 | some j=>.ok j by unfold eh;rw[if_neg (by omega)];cases dk s.data.toList <;> rfl);have l:=ae q;clear q;rcases h with⟨j,v,hp,rfl,g⟩ | ⟨hp,m,rfl,r,p⟩
  ·obtain⟨A,u,rfl⟩:=Rep.iface g
   have f:Hid (RvR W w s.data.toList (.returned (.tuple #[.iface A u,.nilIface])) w'):=⟨l.o,Or.inl ⟨j,_,by rw[b.o,hp],rfl,g⟩⟩;clear hp g;go_wp2;go_ret2
   exact f.o
  ·have f:Hid (RvR W w s.data.toList (.returned (.tuple #[.nilIface,.iface 116 (.pointer (some ⟨m,0,none⟩))])) w'):=⟨l.o,Or.inr ⟨2,_,by rw[b.o,hp],rfl,Or.inr (Or.inl ⟨rfl,m,rfl,p⟩),_,_,rfl⟩⟩
   clear hp r p;go_wp2;go_ret2
   exact f.o
def CT(w:World)(r:Bs×Nat)(e:Ending)(w':World):Prop:=e=.returned (.tuple #[.string ⟨r.1.toArray⟩,.int .i64 r.2])∧Kp (fun _=>False) w w'
theorem Az{w w2:World}(h:Wr w.heap.size w w2):Kp (fun _=>False) w w2:=⟨h.below.os,h.below.tape,h.below.output,h.below.size,fun k hk _=>h.below.block k hk⟩
end
section
open Go.Lib
end
section
open Go Go.RowKit
theorem c12:cJ (.num 1)=[49]∧cJ (.num 2)=[50]:=by constructor <;> (rw[cJ,gT,if_neg (by decide),dA,if_pos (by decide)];rfl)
def bA(s:Bs):ByteArray:=⟨s.toArray⟩
end
end Go.Proofs.YtocligpfmfmihaaGreatDoor
