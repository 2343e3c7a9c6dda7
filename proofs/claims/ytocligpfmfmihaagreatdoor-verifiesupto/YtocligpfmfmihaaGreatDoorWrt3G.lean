import Derived.Test.YtocligpfmfmihaaGreatDoorRef9G
import Derived.Lib.ItoaNum
import Derived.Shelf.SlIter.Nil
import Derived.Shelf.SortM.Plain
import Derived.Shelf.SortM.SortNone
import Derived.Test.YtocligpfmfmihaaGreatDoorProg
import Derived.RangeFuncNested
import Derived.RangeFuncBound
import Derived.RangeFuncCalls
import Derived.RangeFuncLeaves
import Derived.RangeFuncFrom
import Derived.Shelf.Abstract
import Derived.Shelf.RegionOpen
import Derived.OwnWalkIn
import Derived.TacticsInMore
import Derived.LoopNIn
import Derived.LoopIn
import Derived.Maps.OwnIn
set_option maxHeartbeats 1000000
set_option maxRecDepth 20000
namespace Go.Proofs.YtocligpfmfmihaaGreatDoor
open Go.Proofs.Tryz
section
open Go Go.RowKit Go.Maps Go.WideMaps
mutual
def cnt:J→Nat
 |.null=>0
 |.bool _=>0
 |.num _=>0
 |.str _=>0
 |.arr l=>fJ l
 |.obj l=>bZ l
def fJ:List J→Nat
 | []=>0
 |x :: l=>1+cnt x+fJ l
def bZ:List (Bs×J)→Nat
 | []=>0
 | (_,x) :: l=>1+cnt x+bZ l
end
theorem oY:∀(l:List J),l.length≤fJ l∧∀x ∈ l,l.length+cnt x≤fJ l
 | []=>by simp[fJ]
 |y :: l=>by
  obtain⟨c,b⟩:=oY l;rw[fJ];refine⟨by rw[List.length_cons];omega,fun x a=> ?_⟩;rw[List.length_cons];rcases List.mem_cons.1 a with rfl | a
  ·omega
  ·have:=b x a;omega
theorem eq:∀(l:List (Bs×J)),l.length≤bZ l∧∀p ∈ l,l.length+cnt p.2≤bZ l
 | []=>by simp[bZ]
 | (k,y) :: l=>by
  obtain⟨c,b⟩:=eq l;rw[bZ];refine⟨by rw[List.length_cons];omega,fun x a=> ?_⟩;rw[List.length_cons];rcases List.mem_cons.1 a with rfl | a
  ·show _+cnt y≤_;omega
  ·have:=b x a;omega
theorem ke(l:List Bs)(M:Nat)(h:∀x ∈ l,x.length≤M):(aB l).length≤l.length*(M+1):=by
 induction l with
 |nil=>simp[aB]
 |cons x l ih=>
  cases l with
  |nil=>simp only[aB,List.length_cons,List.length_nil];have:=h x (by simp);omega
  |cons y l=>
   have b:=ih (fun z hz=>h z (by simp[List.mem_cons.1 hz]));have c:=h x (by simp);rw[aB,List.length_append,List.length_cons,List.length_cons (a:=x)];have:(y :: l).length*(M+1)+(M+1)=((y :: l).length+1)*(M+1):=by rw[Nat.add_mul];omega
   omega
def jm(W:World)(j:J):Prop:=∀(B:Nat) (w:World) (v:Value) (o:List UInt8) (F:Nat→Prop) (vv:Value) (M:Nat),Below W.heap.size W w→W.heap.size≤B→Row B w v o→B≤w.heap.size→Rep w F j vv→(cJ j).length≤M →
 o.length+(cnt j+1)*(M+2)≤139000000000000→Calls prog 68 #[v,vv] w fun e w'=>WrR B w (o ++cJ j) e w'
theorem Reps.get{w:World}{F:Nat→Prop}:∀(l:List J) (vs:List Value) (k:Nat) (hk:k < l.length),Reps w F l vs→∃v,vs[k]? =some v∧Rep w F l[k] v
 |x :: l,vs,0,_,h=>by
  rw[Reps]at h;obtain⟨v,r,rfl,a,_⟩:=h;exact⟨v,rfl,a⟩
 |x :: l,vs,k+1,hk,h=>by
  rw[Reps]at h;obtain⟨v,r,rfl,_,b⟩:=h;obtain⟨u,c,d⟩:=Reps.get l r k (by simpa using hk) b;exact⟨u,c,d⟩
theorem Reps.len{w:World}{F:Nat→Prop}:∀(l:List J) (vs:List Value),Reps w F l vs→vs.length=l.length
 | [],vs,h=>by rw[Reps]at h;subst h;rfl
 |x :: l,vs,h=>by
  rw[Reps]at h;obtain⟨v,r,rfl,_,a⟩:=h;simp[Reps.len l r a]
theorem qy(W:World)(l:List J)(hl:∀x ∈ l,jm W x)(B:Nat)(w:World)(v:Value)(o:List UInt8)(F:Nat→Prop)(sv:Value)(vs:List Value)(M:Nat)(hW:Below W.heap.size W w)(hWB:W.heap.size≤B)(hr:Row B w v o)(hB:B≤w.heap.size)
  (hsv:w.ownsRow 0 59 1 sv l.length vs) (hvs:Reps w F l vs) (hM:∀x ∈ l,(cJ x).length≤M) (hlim:o.length+(fJ l+1)*(M+2)≤139000000000000) :
  Calls prog 121 #[v,sv] w fun e w'=>WrR B w (o ++cJ (.arr l)) e w':=by
 obtain⟨i0,U,z,C,D⟩:=info_parts j0;have L:=oY l;have af:l.length*(M+2)≤(fJ l)*(M+2):=Nat.mul_le_mul_right _ L.1;have V:(fJ l+1)*(M+2)=fJ l*(M+2)+(M+2):=by rw[Nat.add_mul];omega
 obtain⟨sa,p,rfl⟩:∃sa p,sv=.slice sa l.length p:=by
  obtain⟨_,⟨rfl,h⟩ | ⟨g,p,s,rfl,_⟩⟩:=hsv
  ·exact⟨none,0,by rw[h]⟩
  ·exact⟨_,_,rfl⟩
 have HL:=ae hl;clear hl;go_enter func121,ntmps121;go_wp2_with (at_builtin;refine wpList_append_own _ rfl (.tmp 7) (.tmp 8) 124 rfl B 5 i0 (.int .u8 0) 1 1 underlying124 U z C D rfl (by decide) _ _ _ rfl (World.ownsRow.alloc hr _) ⟨w.heap.size,0,none⟩ 1 1 (Lib.byteCells [91]) rfl rfl (by exact dC w _ _) (bV _) (by unfold maxLen;omega) (by omega) (by simp;omega) ?_;intro v1 w1 y1 y2 _)
 obtain⟨E,z2⟩:=cZ (l:=[91]) (Wr.refl B w) hB hr y1 y2;clear y1 y2;go_wp2_with fail
 go_loopg [0,12] l.length (fun g a i wr=>∃k:Nat,g=l.length - k∧k≤l.length∧i=.int .i64 (k:Int)∧Row B wr a (o ++91 :: aB ((l.take k).map cJ))∧Wr B w wr)
 case atStart=>exact⟨0,rfl,by omega,rfl,by simpa[aB] using E,z2⟩
 case round=>
  obtain⟨k,hg,hk,rfl,b,d⟩:=hrel
  have ad:(o ++91 :: aB ((l.take k).map cJ)).length≤o.length+1+k*(M+1):=by
   have H:=ke ((l.take k).map cJ) M (by
     intro x P;obtain⟨y,hy,rfl⟩:=List.mem_map.1 P;exact hM y (List.mem_of_mem_take hy))
   have S:((l.take k).map cJ).length≤k:=by rw[List.length_map];exact List.length_take_le _ _
   have h3:=Nat.mul_le_mul_right (M+1) S;rw[List.length_append,List.length_cons];omega
  have ah:k*(M+1)+k=k*(M+2):=by rw[Nat.mul_add,Nat.mul_add];omega
  have ac:k*(M+2)≤l.length*(M+2):=Nat.mul_le_mul_right _ hk;generalize ho1:o ++91 :: aB ((l.take k).map cJ)=o1 at *;have A:=ae (An hg ho1);have t:B≤wr.heap.size:=Nat.le_trans hB d.below.size;clear hg ho1 E z2;by_cases f:k < l.length
  ·obtain⟨vx,r,n⟩:=Reps.get l vs k f hvs
   have j:∃g,sa=some ⟨g,0,none⟩∧wr.cell? ⟨g,k,none⟩=some vx∧l.length≤p:=by
    obtain⟨_,⟨H,S⟩ | ⟨g,aa,s,H,_,hh,r1,r2,r3,r4⟩⟩:=hsv
    ·omega
    ·injection H with H S h3
     refine⟨g,H, ?_,by omega⟩;have R:=d.oth g _ hh (by simp) (by intro c fz;simp)
     have O:s[k]? =some vx:=by
      have:(s.toList.take (l.length*1))[k]? =some vx:=by rw[r4];exact r
      rw[List.getElem?_take_of_lt (by omega)]at this;simpa using this
     simp[World.cell?,R,O]
   obtain⟨g,rfl,j,ab⟩:=j;obtain⟨tt,u,rfl⟩:=Rep.iface n
   have m:aB ((l.take (k+1)).map cJ)=if k=0 then cJ l[k] else aB ((l.take k).map cJ) ++44 :: cJ l[k]:=by
    rw[List.take_succ_eq_append_getElem f,List.map_append,List.map_cons,List.map_nil,j6];by_cases q:k=0
    ·subst q;simp
    ·have:(l.take k).map cJ≠[]:=by
      intro e;have:=congrArg List.length e;rw[List.length_map,List.length_take,List.length_nil]at this;omega
     rw[if_neg this,if_neg q]
   have P:=L.2 l[k] (List.getElem_mem f);have aj:(l.length+cnt l[k])*(M+2)≤fJ l*(M+2):=Nat.mul_le_mul_right _ P;have al:(l.length+cnt l[k])*(M+2)=l.length*(M+2)+cnt l[k]*(M+2):=Nat.add_mul _ _ _;have am:(cnt l[k]+1)*(M+2)=cnt l[k]*(M+2)+(M+2):=by rw[Nat.add_mul];omega
   have an:(k+1)*(M+2)≤l.length*(M+2):=Nat.mul_le_mul_right _ f;have ao:(k+1)*(M+2)=k*(M+2)+(M+2):=by rw[Nat.add_mul];omega
   have I:=HL.o l[k] (List.getElem_mem f);have K:=hM l[k] (List.getElem_mem f);generalize hlk:l[k]=x at *;have X:=ae (An m (An n I));clear m n I hlk P r;by_cases q:k=0
   ·have G:o ++91 :: aB ((l.take (k+1)).map cJ)=o1 ++cJ x:=by
     rw[X.o.1,if_pos q,←A.o.2,q];simp[aB]
    have Q:=ae G;clear G;subst q;go_wp2_with fail
    refine (X.o.2.2 B wr u0 o1 F (.iface tt u) M (hW.trans (d.below.mono hWB)) hWB b t (Rep.oth d.oth x X.o.2.1) K (by omega)).mono ?_;rintro e w3 ⟨v3,rfl,Y,q2⟩;go_wp2;go_roundg (l.length - (0+1))
    case measure=>rw[A.o.1];omega
    case rel=>exact⟨0+1,rfl,by omega,ak (by omega),by rw[Q.o];exact Y,d.trans q2⟩
   ·have G:o ++91 :: aB ((l.take (k+1)).map cJ)=o1 ++[44] ++cJ x:=by
     rw[X.o.1,if_neg q,←A.o.2];simp
    have Q:=ae G;have ag:0 < k:=by omega
    clear G q;go_wp2_with (at_builtin;refine wpList_append_own _ rfl (.tmp 19) (.tmp 20) 124 rfl B 5 i0 (.int .u8 0) 1 1 underlying124 U z C D rfl (by decide) _ _ _ rfl (World.ownsRow.alloc b _) ⟨wr.heap.size,0,none⟩ 1 1 (Lib.byteCells [44]) rfl rfl (by exact dC wr _ _) (bV _) (by unfold maxLen;omega) (by omega) (by simp;omega) ?_;intro v2 w2 y1 y2 _)
    obtain⟨E,z2⟩:=cZ (l:=[44]) d t b y1 y2;clear y1 y2;have T:B≤w2.heap.size:=Nat.le_trans hB z2.below.size;have ai:(o1 ++[44]).length=o1.length+1:=by simp
    go_wp2_with fail
    refine (X.o.2.2 B w2 v2 (o1 ++[44]) F (.iface tt u) M (hW.trans (z2.below.mono hWB)) hWB E T (Rep.oth z2.oth x X.o.2.1) K (by omega)).mono ?_;rintro e w3 ⟨v3,rfl,Y,q2⟩;go_wp2;go_roundg (l.length - (k+1))
    case measure=>rw[A.o.1];omega
    case rel=>exact⟨k+1,rfl,by omega,ak (by omega),by rw[Q.o];exact Y,z2.trans q2⟩
  ·have N:l.length≤k:=by omega
   clear hsv;go_wp2_with (at_builtin;refine wpList_append_own _ rfl (.tmp 26) (.tmp 27) 124 rfl B 5 i0 (.int .u8 0) 1 1 underlying124 U z C D rfl (by decide) _ _ _ rfl (World.ownsRow.alloc b _) ⟨wr.heap.size,0,none⟩ 1 1 (Lib.byteCells [93]) rfl rfl (by exact dC wr _ _) (bV _) (by unfold maxLen;omega) (by omega) (by simp;omega) ?_;intro v2 w2 y1 y2 _)
   obtain⟨E,z2⟩:=cZ (l:=[93]) d t b y1 y2;have Z:=ae (An E z2);clear y1 y2 E z2;go_wp2;go_ret;refine⟨_,rfl, ?_,Z.o.2⟩;have R:l.take k=l:=List.take_of_length_le N;have O:=A.o.2;rw[R]at O;have e3:o ++cJ (.arr l)=o1 ++[93]:=by rw[nH,←O];simp
   rw[e3];exact Z.o.1
theorem Er(w:World):(Instr.typeAssert (.iface 221 (.agg #[])) 59 221 true).run prog w=.ok (.tuple #[.agg #[],.bool true]) w:=by kernel_rfl
theorem Es(b:Bool)(w:World):(Instr.typeAssert (.iface 222 (.bool b)) 59 221 true).run prog w=.ok (.tuple #[.agg #[],.bool false]) w:=by kernel_rfl
theorem Et(b:Bool)(w:World):(Instr.typeAssert (.iface 222 (.bool b)) 59 222 true).run prog w=.ok (.tuple #[.bool b,.bool true]) w:=by kernel_rfl
theorem Eu(n:Int)(w:World):(Instr.typeAssert (.iface 224 (.int .i64 n)) 59 221 true).run prog w=.ok (.tuple #[.agg #[],.bool false]) w:=by kernel_rfl
theorem Ev(n:Int)(w:World):(Instr.typeAssert (.iface 224 (.int .i64 n)) 59 222 true).run prog w=.ok (.tuple #[.bool false,.bool false]) w:=by kernel_rfl
theorem Ew(n:Int)(w:World):(Instr.typeAssert (.iface 224 (.int .i64 n)) 59 224 true).run prog w=.ok (.tuple #[.int .i64 n,.bool true]) w:=by kernel_rfl
theorem Ex(s:ByteArray)(w:World):(Instr.typeAssert (.iface 137 (.string s)) 59 221 true).run prog w=.ok (.tuple #[.agg #[],.bool false]) w:=by kernel_rfl
theorem Ey(s:ByteArray)(w:World):(Instr.typeAssert (.iface 137 (.string s)) 59 222 true).run prog w=.ok (.tuple #[.bool false,.bool false]) w:=by kernel_rfl
theorem Ez(s:ByteArray)(w:World):(Instr.typeAssert (.iface 137 (.string s)) 59 224 true).run prog w=.ok (.tuple #[.int .i64 0,.bool false]) w:=by kernel_rfl
theorem EA(s:ByteArray)(w:World):(Instr.typeAssert (.iface 137 (.string s)) 59 137 true).run prog w=.ok (.tuple #[.string s,.bool true]) w:=by kernel_rfl
theorem EB(sv:Value)(w:World):(Instr.typeAssert (.iface 228 (sv)) 59 221 true).run prog w=.ok (.tuple #[.agg #[],.bool false]) w:=by kernel_rfl
theorem EC(sv:Value)(w:World):(Instr.typeAssert (.iface 228 (sv)) 59 222 true).run prog w=.ok (.tuple #[.bool false,.bool false]) w:=by kernel_rfl
theorem ED(sv:Value)(w:World):(Instr.typeAssert (.iface 228 (sv)) 59 224 true).run prog w=.ok (.tuple #[.int .i64 0,.bool false]) w:=by kernel_rfl
theorem EE(sv:Value)(w:World):(Instr.typeAssert (.iface 228 (sv)) 59 137 true).run prog w=.ok (.tuple #[.string ⟨#[]⟩,.bool false]) w:=by kernel_rfl
theorem EF(sv:Value)(w:World):(Instr.typeAssert (.iface 228 (sv)) 59 228 true).run prog w=.ok (.tuple #[sv,.bool true]) w:=by kernel_rfl
theorem EG(mb:Option Nat)(w:World):(Instr.typeAssert (.iface 71 (.map mb)) 59 221 true).run prog w=.ok (.tuple #[.agg #[],.bool false]) w:=by kernel_rfl
theorem EH(mb:Option Nat)(w:World):(Instr.typeAssert (.iface 71 (.map mb)) 59 222 true).run prog w=.ok (.tuple #[.bool false,.bool false]) w:=by kernel_rfl
theorem EI(mb:Option Nat)(w:World):(Instr.typeAssert (.iface 71 (.map mb)) 59 224 true).run prog w=.ok (.tuple #[.int .i64 0,.bool false]) w:=by kernel_rfl
theorem EJ(mb:Option Nat)(w:World):(Instr.typeAssert (.iface 71 (.map mb)) 59 137 true).run prog w=.ok (.tuple #[.string ⟨#[]⟩,.bool false]) w:=by kernel_rfl
theorem EK(mb:Option Nat)(w:World):(Instr.typeAssert (.iface 71 (.map mb)) 59 228 true).run prog w=.ok (.tuple #[.slice none 0 0,.bool false]) w:=by kernel_rfl
theorem vN(mb:Option Nat)(w:World):(Instr.typeAssert (.iface 71 (.map mb)) 59 71 true).run prog w=.ok (.tuple #[.map mb,.bool true]) w:=by kernel_rfl
theorem Dr(n:Int):Lib.itoa n=gT n:=by
 have h:∀k u:Nat,u≤k→Lib.decDigits u=dA u:=by
  intro k
  induction k with
  |zero=>
   intro u c;obtain rfl:u=0:=by omega
   rw[Lib.decDigits,dA];simp
  |succ k ih=>
   intro u c;rw[Lib.decDigits,dA];by_cases a:u < 10
   ·rw[dif_pos a,if_pos a]
   ·rw[dif_neg a,if_neg a,ih (u / 10) (by omega)]
 unfold Lib.itoa gT;by_cases b:n < 0
 ·rw[if_pos b,if_pos b,h _ _ (Nat.le_refl _)]
 ·rw[if_neg b,if_neg b,h _ _ (Nat.le_refl _)]
  congr 1
  omega
def CU(W:World)(l:List (Bs×J)):Prop:=∀(B:Nat) (w:World) (v:Value) (o:List UInt8) (F:Nat→Prop) (b:Nat) (m:List (Bs×Value)) (M:Nat),Below W.heap.size W w→W.heap.size≤B→Row B w v o→B≤w.heap.size →
 w.ownsMap prog 9 Rv b m.length (dm m)→Repm w F l m→(∀p ∈ l,(aD p).length≤M)→o.length+(bZ l+1)*(M+2)≤139000000000000 →
 Calls prog 122 #[v,.map (some b)] w fun e w'=>WrR B w (o ++cJ (.obj l)) e w'
theorem ls{x:Bs}:∀(l:List Bs),x ∈ l→x.length≤(aB l).length
 | [y],h=>by
  obtain rfl:x=y:=by simpa using h
  exact Nat.le_refl _
 |y :: z :: l,h=>by
  rw[aB,List.length_append,List.length_cons];rcases List.mem_cons.1 h with rfl | h
  ·omega
  ·have:=ls (z :: l) h;omega
theorem yS{l:List J}{x:J}(h:x ∈ l):(cJ x).length≤(cJ (.arr l)).length:=by
 rw[nH,List.length_cons,List.length_append];have:=ls (l.map cJ) (List.mem_map.2 ⟨x,h,rfl⟩);omega
theorem pl{l:List (Bs×J)}{p:Bs×J}(h:p ∈ l):(aD p).length≤(cJ (.obj l)).length:=by
 rw[c7,List.length_cons,List.length_append];have:=ls (l.map aD) (List.mem_map.2 ⟨p,h,rfl⟩);omega
theorem tL:∀(d:Nat) (l:List J) (x:J),WFs d l→x ∈ l→WF d x
 |d,y :: l,x,h,a=>by
  rw[WFs]at h;rcases List.mem_cons.1 a with rfl | a
  ·exact h.1
  ·exact tL d l x h.2 a
theorem qF:∀(d:Nat) (l:List (Bs×J)) (p:Bs×J),WFm d l→p ∈ l→WF d p.2
 |d,(k,y) :: l,p,h,a=>by
  rw[WFm]at h;rcases List.mem_cons.1 a with rfl | a
  ·exact h.2.1
  ·exact qF d l p h.2.2 a
theorem yG(W:World):jm W .null:=by
 intro B w v o F n M l i f h a k b;rw[Rep]at a;subst a;obtain⟨i0,j,c,d,e⟩:=info_parts j0
 have m:o.length+4≤139000000000000:=by
  have:(cJ J.null).length=4:=rfl;rw[cnt]at b;omega
 have a0:=Er;go_enter func68,ntmps68;go_wp2_with (at_builtin;refine Lib.wpList_append_own_string _ rfl _ _ 124 9 rfl B 5 i0 underlying124 underlying9 j c d e _ _ _ rfl (World.ownsRow.alloc f _) ⟨#[110,117,108,108]⟩ rfl (by unfold maxLen;show o.length+4≤_;omega) (by show o.length+4≤_;omega) (by simp;omega) ?_;intro v' w1 y1 y2 _)
 obtain⟨g,z2⟩:=fO ((Wr.refl B w).alloc h _) (by simp;omega) (World.ownsRow.alloc f _) y1 y2;have Z:=ae (An g z2);clear g z2 y1 y2;go_wp2;go_ret;exact⟨_,rfl,Z.o.1,Z.o.2⟩
theorem yF(W:World)(b:Bool):jm W (.bool b):=by
 intro B w v o F m M k g h f a j c;rw[Rep]at a;subst a;rw[cnt]at c;have a0:=Es b;have i:=Et b;go_enter func68,ntmps68;go_wp2_with fail
 refine (qI B w v o b h f (by omega)).mono ?_;rintro e w2 ⟨l,rfl,d,z2⟩;have Z:=ae (An d z2);clear d z2;go_wp2;go_ret;exact⟨_,rfl,Z.o.1,Z.o.2⟩
theorem Bb(W:World)(hG:GL W)(n:Int)(hn:n.natAbs≤bK):jm W (.num n):=by
 intro B w v o F r M i d l h a q b;rw[Rep]at a;subst a;have f : -9007199254740991≤n∧n≤9007199254740991:=by unfold bK at hn;omega
 obtain⟨j,k⟩:=f;rw[cnt]at b;have c:Lib.TabBelow prog B w "internal/strconv.uint64pow10" .u64 Lib.pow10Tab:=fun w' h'=>hG.pow w' (i.trans (h'.mono d))
 have a0:=Eu n;have p:=Ev n;have a2:=Ew n;go_enter func68,ntmps68;go_wp2_with fail
 refine (Tryz.strconv_AppendInt_10 B o.length n (by omega) (by omega) v (Lib.byteCells o) w l h (by omega) c).mono ?_;rintro e w2 ⟨m,rfl,g,z2,z3⟩
 have Z:Hid (Row B w2 m (o ++cJ (.num n))∧Wr B w w2):=by
  refine⟨?_,z2,z3⟩;unfold Row;rw[cJ,←Dr,dW,List.length_append];exact g
 clear g z2 z3;go_wp2;go_ret;exact⟨_,rfl,Z.o.1,Z.o.2⟩
theorem yH(W:World)(s:Bs):jm W (.str s):=by
 intro B w v o F l M k g h d a f b;rw[Rep]at a;subst a;rw[cnt]at b;have a0:=Ex ⟨s.toArray⟩;have j:=Ey ⟨s.toArray⟩;have a2:=Ez ⟨s.toArray⟩;have a3:=EA ⟨s.toArray⟩;go_enter func68,ntmps68;go_wp2_with fail
 refine (gh B w v o ⟨s.toArray⟩ h d (by rw[cJ]at f;show o.length+(cU s).length≤_;omega)).mono ?_;rintro e w2 ⟨i,rfl,c,z2⟩;have Z:Hid (Row B w2 i (o ++cJ (.str s))∧Wr B w w2):=An (by rw[cJ];exact c) z2;clear c z2;go_wp2;go_ret;exact⟨_,rfl,Z.o.1,Z.o.2⟩
theorem Ba(W:World)(l:List J)(hl:∀x ∈ l,jm W x):jm W (.arr l):=by
 intro B w v o F r M j c k h b i a;rw[Rep]at b;obtain⟨sv,m,rfl,f,p,g⟩:=b;rw[cnt]at a;have a0:=EB sv;have n:=EC sv;have a2:=ED sv;have a3:=EE sv;have a4:=EF sv;go_enter func68,ntmps68;go_wp2_with fail
 refine (qy W l hl B w v o F sv m M j c k h f g (fun x hx=>Nat.le_trans (yS hx) i) a).mono ?_;rintro e w2 ⟨q,rfl,d,z2⟩;have Z:=ae (An d z2);clear d z2;go_wp2;go_ret;exact⟨_,rfl,Z.o.1,Z.o.2⟩
theorem Bc(W:World)(l:List (Bs×J))(hl:CU W l):jm W (.obj l):=by
 intro B w v o F t M k d n i b j a;rw[Rep]at b;obtain⟨c,m,rfl,r,g,h⟩:=b;rw[cnt]at a;have a0:=EG (some c);have q:=EH (some c);have a2:=EI (some c);have a3:=EJ (some c);have a4:=EK (some c);have a5:=vN (some c);go_enter func68,ntmps68;go_wp2_with fail
 refine (hl B w v o F c m M k d n i g h (fun p hp=>Nat.le_trans (pl hp) j) a).mono ?_;rintro e w2 ⟨s,rfl,f,z2⟩;have Z:=ae (An f z2);clear f z2;go_wp2;go_ret;exact⟨_,rfl,Z.o.1,Z.o.2⟩
end
end Go.Proofs.YtocligpfmfmihaaGreatDoor
namespace Go.Proofs
open Go.Proofs.Tryz
section
open Go.Shelf
def Tryz.keys215_ren:Go.Shelf.Ren:=⟨fun | 7=>215 | 10=>253 | n=>n,fun | 23=>71 | 26=>9 | 3=>59 | 28=>346 | 0=>0 | 27=>345 | 33=>25 | 4=>4 | n=>n,fun | n=>n⟩
theorem Tryz.keys215:Go.Proofs.SlLaysZ.n7 prog Tryz.keys215_ren:={
 mixed:=by kernel_rfl
 f7:=⟨Tryz.f215.name,by decide,func215.trans (congrArg some (by kernel_rfl))⟩
 f10:=⟨Tryz.f253.name,by decide,func253.trans (congrArg some (by kernel_rfl))⟩
 t0:=underlying0
 a0:=Tryz.isAgg0
 z0:=Tryz.sizeOf0
 v0:=Tryz.zeroValue0
 t4:=underlying4
 a4:=Tryz.isAgg4
 z4:=Tryz.sizeOf4
 v4:=Tryz.zeroValue4
 t23:=underlying71
 a23:=Tryz.isAgg71
 z23:=Tryz.sizeOf71
 v23:=Tryz.zeroValue71
 t26:=underlying9
 a26:=Tryz.isAgg9
 z26:=Tryz.sizeOf9
 v26:=Tryz.zeroValue9
 t27:=underlying345
 a27:=Tryz.isAgg345
 z27:=Tryz.sizeOf345
 v27:=Tryz.zeroValue345
 t28:=underlying346
 a28:=Tryz.isAgg346
 z28:=Tryz.sizeOf346
 v28:=Tryz.zeroValue346
 t33:=underlying25
 a33:=Tryz.isAgg25
 z33:=Tryz.sizeOf25
 v33:=Tryz.zeroValue25 }
def Tryz.sorted214_ren:Go.Shelf.Ren:=⟨fun | 6=>214 | 8=>251 | 9=>252 | 11=>278 | 13=>220 | 12=>279 | 23=>262 | 24=>263 | 14=>288 | 15=>289 | 16=>290 | 17=>291 | 18=>292 | 19=>293 | 20=>294 | 21=>295 | 22=>296 | 25=>298 | 26=>281 | 27=>282 | 28=>299 | 29=>300 | 30=>301 | 31=>302 | n=>n,fun | 26=>9 | 28=>346 | 24=>36 | 0=>0 | 3=>3 | 37=>143 | 48=>152 | 50=>241 | 4=>4 | 40=>377 | 39=>376 | 45=>381 | 5=>5 | 9=>9 | 51=>397 | 55=>400 | 57=>407 | 58=>408 | 33=>25 | n=>n,fun | n=>n⟩
theorem Tryz.sorted214:Go.Proofs.SlLaysZ.n6 prog Tryz.sorted214_ren:={
 mixed:=by kernel_rfl
 f6:=⟨Tryz.f214.name,by decide,func214.trans (congrArg some (by kernel_rfl))⟩
 f8:=⟨Tryz.f251.name,by decide,func251.trans (congrArg some (by kernel_rfl))⟩
 f11:=⟨Tryz.f278.name,by decide,func278.trans (congrArg some (by kernel_rfl))⟩
 t0:=underlying0
 a0:=Tryz.isAgg0
 z0:=Tryz.sizeOf0
 v0:=Tryz.zeroValue0
 t24:=underlying36
 a24:=Tryz.isAgg36
 z24:=Tryz.sizeOf36
 v24:=Tryz.zeroValue36
 t26:=underlying9
 a26:=Tryz.isAgg9
 z26:=Tryz.sizeOf9
 v26:=Tryz.zeroValue9
 t28:=underlying346
 a28:=Tryz.isAgg346
 z28:=Tryz.sizeOf346
 v28:=Tryz.zeroValue346
 i26:=by kernel_rfl }
def Tryz.sort252_ren:Go.Shelf.Ren:=⟨fun | 6=>252 | 8=>220 | 9=>279 | 19=>262 | 20=>263 | 21=>288 | 22=>289 | 23=>290 | 24=>291 | 25=>292 | 26=>293 | 27=>294 | 28=>295 | 29=>296 | 36=>298 | 31=>281 | 32=>282 | 37=>299 | 38=>300 | 39=>301 | 41=>302 | n=>n,fun | 27=>36 | 29=>9 | 3=>3 | 32=>143 | 26=>36 | 0=>0 | 44=>152 | 46=>241 | 4=>4 | 36=>377 | 35=>376 | 41=>381 | 5=>5 | 9=>9 | 53=>397 | 57=>400 | 63=>407 | 64=>408 | n=>n,fun | n=>n⟩
theorem Tryz.sort252:Go.Proofs.SlLaysM.n6 prog Tryz.sort252_ren:={
 mixed:=by kernel_rfl
 f6:=⟨Tryz.f252.name,by decide,func252.trans (congrArg some (by kernel_rfl))⟩
 f8:=func220.trans (congrArg some (by kernel_rfl))
 f9:=⟨Tryz.f279.name,by decide,func279.trans (congrArg some (by kernel_rfl))⟩
 f19:=func262.trans (congrArg some (by kernel_rfl))
 f20:=func263.trans (congrArg some (by kernel_rfl))
 f21:=⟨Tryz.f288.name,by decide,func288.trans (congrArg some (by kernel_rfl))⟩
 f22:=⟨Tryz.f289.name,by decide,func289.trans (congrArg some (by kernel_rfl))⟩
 f23:=⟨Tryz.f290.name,by decide,func290.trans (congrArg some (by kernel_rfl))⟩
 f24:=⟨Tryz.f291.name,by decide,func291.trans (congrArg some (by kernel_rfl))⟩
 f25:=⟨Tryz.f292.name,by decide,func292.trans (congrArg some (by kernel_rfl))⟩
 f26:=⟨Tryz.f293.name,by decide,func293.trans (congrArg some (by kernel_rfl))⟩
 f27:=⟨Tryz.f294.name,by decide,func294.trans (congrArg some (by kernel_rfl))⟩
 f28:=⟨Tryz.f295.name,by decide,func295.trans (congrArg some (by kernel_rfl))⟩
 f29:=⟨Tryz.f296.name,by decide,func296.trans (congrArg some (by kernel_rfl))⟩
 f31:=func281.trans (congrArg some (by kernel_rfl))
 f32:=func282.trans (congrArg some (by kernel_rfl))
 f36:=⟨Tryz.f298.name,by decide,func298.trans (congrArg some (by kernel_rfl))⟩
 f37:=⟨Tryz.f299.name,by decide,func299.trans (congrArg some (by kernel_rfl))⟩
 f38:=⟨Tryz.f300.name,by decide,func300.trans (congrArg some (by kernel_rfl))⟩
 f39:=⟨Tryz.f301.name,by decide,func301.trans (congrArg some (by kernel_rfl))⟩
 f41:=⟨Tryz.f302.name,by decide,func302.trans (congrArg some (by kernel_rfl))⟩
 t0:=underlying0
 a0:=Tryz.isAgg0
 z0:=Tryz.sizeOf0
 v0:=Tryz.zeroValue0
 t3:=underlying3
 a3:=Tryz.isAgg3
 z3:=Tryz.sizeOf3
 v3:=Tryz.zeroValue3
 t4:=underlying4
 a4:=Tryz.isAgg4
 z4:=Tryz.sizeOf4
 v4:=Tryz.zeroValue4
 t5:=underlying5
 a5:=Tryz.isAgg5
 z5:=Tryz.sizeOf5
 v5:=Tryz.zeroValue5
 t9:=underlying9
 a9:=Tryz.isAgg9
 z9:=Tryz.sizeOf9
 v9:=Tryz.zeroValue9
 t26:=underlying36
 a26:=Tryz.isAgg36
 z26:=Tryz.sizeOf36
 v26:=Tryz.zeroValue36
 t27:=underlying36
 a27:=Tryz.isAgg36
 z27:=Tryz.sizeOf36
 v27:=Tryz.zeroValue36
 t29:=underlying9
 a29:=Tryz.isAgg9
 z29:=Tryz.sizeOf9
 v29:=Tryz.zeroValue9
 t32:=underlying143
 a32:=Tryz.isAgg143
 z32:=Tryz.sizeOf143
 v32:=Tryz.zeroValue143
 t35:=underlying376
 a35:=Tryz.isAgg376
 z35:=Tryz.sizeOf376
 v35:=Tryz.zeroValue376
 t36:=underlying377
 a36:=Tryz.isAgg377
 z36:=Tryz.sizeOf377
 v36:=Tryz.zeroValue377
 t41:=underlying381
 a41:=Tryz.isAgg381
 z41:=Tryz.sizeOf381
 v41:=Tryz.zeroValue381
 t44:=underlying152
 a44:=Tryz.isAgg152
 z44:=Tryz.sizeOf152
 v44:=Tryz.zeroValue152
 t46:=underlying241
 a46:=Tryz.isAgg241
 z46:=Tryz.sizeOf241
 v46:=Tryz.zeroValue241
 t53:=underlying397
 a53:=Tryz.isAgg397
 z53:=Tryz.sizeOf397
 v53:=Tryz.zeroValue397
 t57:=underlying400
 a57:=Tryz.isAgg400
 z57:=Tryz.sizeOf400
 v57:=Tryz.zeroValue400
 t63:=underlying407
 a63:=Tryz.isAgg407
 z63:=Tryz.sizeOf407
 v63:=Tryz.zeroValue407
 t64:=underlying408
 a64:=Tryz.isAgg408
 z64:=Tryz.sizeOf408
 v64:=Tryz.zeroValue408 }
open Go.RowKit Go.Maps Go.Sort
theorem Tryz.sorts214(m:Nat):AnyZ.SortsIn prog Tryz.sorted214_ren Fence.wide m:=
 ⟨fun blk off cap ss W hH hblk hsz=>callsIn_wide.2 (AnyM.slices_Sort_string Tryz.sort252 blk off cap ss W hH hblk hsz),
  fun p cap W=>callsIn_wide.2 (AnyM.slices_Sort_string_none Tryz.sort252 p cap W)⟩
theorem Tryz.maps_Keys_215(mb:Option Nat)(W:World):CallsIn Fence.wide 5 prog 215 #[.map mb] W fun e w'=>e=.returned (.func (.func 253) #[] #[.pointer (some ⟨W.heap.size,0,none⟩)])∧w'=W.alloc (.cells #[.map mb] 71):=
 AnyZ.keys_in Tryz.keys215 Fence.wide 5 trivial rfl mb W
theorem Tryz.slices_Sorted_keys_214_215{H:Type}(b nn:Nat)(D0:DataW H)(R:Value→Option (DataW H×List MemPlace))(w:World)(hown:w.ownsMap prog 9 R b nn D0)(hmax:Maps.size D0≤maxLen)(hbytes:Maps.size D0*16≤140737488355328):
  CallsIn Fence.wide 5 prog 214 #[.func (.func 253) #[] #[.pointer (some ⟨w.heap.size,0,none⟩)]] (w.alloc (.cells #[.map (some b)] 71)) fun e w'=>∃(v:Value) (ss:List (List UInt8)),e=.returned v∧ss.Perm (strKeys D0) ∧
   w'.ownsRow (w.alloc (.cells #[.map (some b)] 71)).heap.size 9 1 v ss.length ((ss.mergeSort (fun x y=>decide (x≤y))).map encStr)∧(v=.slice none 0 0↔ss=[])∧Below (w.alloc (.cells #[.map (some b)] 71)).heap.size (w.alloc (.cells #[.map (some b)] 71)) w':=by
 have d:=hown.lt
 have c:SeqGives Fence.wide 2 prog 253 #[.pointer (some ⟨w.heap.size,0,none⟩)] encStr (fun ss=>ss.Perm (strKeys D0)) (Maps.size D0) (w.alloc (.cells #[.map (some b)] 71)):=
  AnyZ.keys_gives (ρ:=Tryz.keys215_ren) { Tryz.keys215 with } Fence.wide _ trivial rfl (by omega) w.heap.size b nn D0 _ (by simp) (by simp) (by
    obtain⟨g,a,i,f,j,h⟩:=hown;exact⟨g,a,(Below.heap_alloc _ _ b d).trans i,f,j,h⟩)
 exact AnyZ.sorted_in Tryz.sorted214 Fence.wide 5 trivial trivial trivial trivial rfl (by omega) (Tryz.sorts214 _) (enters_of func252 (by kernel_rfl) rfl) 253 #[.pointer (some ⟨w.heap.size,0,none⟩)] trivial (enters_of func253 (by kernel_rfl) rfl) _ _ hmax hbytes _ c
end
end Go.Proofs
namespace Go.Proofs.YtocligpfmfmihaaGreatDoor
open Go.Proofs.Tryz
section
open Go Go.RowKit Go.Maps Go.WideMaps Go.Sort Go.Shelf
theorem jA{m:List (Bs×Value)}{ss:List (List UInt8)}(hm:Srt m)(h:ss.Perm (strKeys (dm m))):ss.mergeSort (fun x y=>decide (x≤y))=m.map (·.1):=by
 have e:strKeys (dm m)=m.map (·.1):=by simp[strKeys,dm,strOf,Function.comp]
 rw[e]at h;refine List.Perm.eq_of_pairwise (le:=fun a b:List UInt8=>decide (a≤b)=true) ?_ ?_ ?_ ((List.mergeSort_perm _ _).trans h)
 ·intro a b _ _ d f
  exact List.le_antisymm (of_decide_eq_true d) (of_decide_eq_true f)
 ·refine List.pairwise_mergeSort ?_ ?_ _
  ·intro a b c d f
   exact decide_eq_true (List.le_trans (of_decide_eq_true d) (of_decide_eq_true f))
  ·intro a b
   rcases List.le_total a b with h | h <;> simp[h]
 ·refine List.pairwise_map.2 (hm.imp ?_)
  intro a b g;exact decide_eq_true (List.le_of_lt g)
def KpM(n0 ob fb:Nat)(W W':World):Prop:=W.heap.size≤W'.heap.size∧(∀k c t fz,W.heap[k]? =some (.cells c t fz)→t≠5→k≠ob→k≠fb→W'.heap[k]? =W.heap[k]?)∧(∀k es cl,k < n0→W.heap[k]? =some (.map es cl)→W'.heap[k]? =W.heap[k]?)
theorem KpM.t{n0 ob fb:Nat}{A B C:World}(h:KpM n0 ob fb A B)(k:KpM n0 ob fb B C):KpM n0 ob fb A C:=by
 refine⟨Nat.le_trans h.1 k.1, ?_, ?_⟩
 ·intro i c t fz a f g j
  have e:=h.2.1 i c t fz a f g j;exact (k.2.1 i c t fz (e.trans a) f g j).trans e
 ·intro i b cl d a
  have e:=h.2.2 i b cl d a;exact (k.2.2 i b cl d (e.trans a)).trans e
theorem KpM.b{n0 ob fb:Nat}{w:World}(hn:n0≤w.heap.size)(W:World)(l:Nat)(o o':Obj)(hl:w.heap.size≤l)(h:W.heap[l]? =some o)(hc:o.isCells=false)(_:o.isWalk=false):KpM n0 ob fb W (W.putObj l o'):=by
 have d:=grownBy_putObj' W l o';refine⟨d.size, ?_, ?_⟩
 ·intro i c t fz a _ _ _
  refine d.block i (ag a) ?_;intro e;injection e with e
  subst e;rw[h]at a;injection a with a
  subst a;cases hc
 ·intro i f cl g a
  exact d.block i (ag a) (by intro e;injection e with e;omega)
attribute [local go_sem] Oper.semAt_some
def gV(m:List (Bs×Value))(i:Fin m.length):Array Value:= #[.string ⟨m[i].1.toArray⟩,m[i].2]
theorem kB:∀(m:List (Bs×Value)) (_:Srt m) (k:Nat) (hk:k < m.length),ai m[k].1 m=some m[k].2
 | (a,x) :: l,hm,0,_=>by simp[ai]
 | (a,x) :: l,hm,k+1,hk=>by
  obtain⟨d,f⟩:=List.pairwise_cons.1 hm;have b:k < l.length:=by simpa using hk
  have c:=d l[k] (List.getElem_mem b);simp only[List.getElem_cons_succ,ai];rw[if_neg (by intro e;rw[←e]at c;exact dz _ c)];exact kB l f k b
theorem dj{o:List UInt8}(h:o.length≤139000000000000):keyOf prog 9 (.string ⟨o.toArray⟩)=some (.string o):=by
 have:=keyOf_string_mk (P:=prog) underlying9 (s:=⟨o.toArray⟩) (by unfold maxLen;show o.toArray.size≤_;simp;omega);simpa using this
theorem cG{w:World}{B:Nat}{e:TypeId}{v:Value}{n:Nat}{xs:List Value}(h:w.ownsRow B e 1 v n xs):∃sa a g b,v=.slice sa n a∧(0 < n→sa=some ⟨g,0,none⟩∧B≤g∧w.heap[g]? =some (.cells b e)∧n≤a∧∀k,k < n→b[k]? =xs[k]?):=by
 obtain⟨l,⟨rfl,rfl⟩ | ⟨g,a,b,rfl,c,d,f,_,_,i⟩⟩:=h
 ·exact⟨none,0,0, #[],rfl,fun h=>absurd h (by omega)⟩
 ·refine⟨_,a,g,b,rfl,fun _=>⟨rfl,c,d,f, ?_⟩⟩
  intro k j;rw[←i,List.getElem?_take_of_lt (by omega)];simp
theorem jp{A B:World}(h:RowKit.Below A.heap.size A B):A.grownBy B none:=⟨h.os,h.tape,h.output,h.size,fun k hk _=>h.block k hk⟩
theorem zu(n:Nat)(hn:3≤n)(lr bx b n0 ob fb:Nat)(m:List (Bs×Value))(hm:Srt m)(hml:m.length≤1000000)(hkl:∀p ∈ m,p.1.length≤139000000000000)(hif:∀p ∈ m,∃t u,p.2=.iface t u)(J Jx:List (Fin m.length)→World→Prop)
  (W:World) (hJ:AbidesFrom W.heap.size J)
  (hY:∀pre x W1,J pre W1→pre.length < m.length→YieldAt Fence.wide (n - 1) prog lr (gV m x) W1 fun e W'=>
    (e=.returned (.bool true)∧J (pre ++[x]) W'∧KpM n0 ob fb W1 W')∨(e=.returned (.bool false)∧Jx (pre ++[x]) W'))
  (hbx:W.heap[bx]? =some (.cells #[.map (some b)] 71)) (hbo:bx≠ob∧bx≠fb) (hob:ob < W.heap.size∧fb < W.heap.size) (hown:W.ownsMap prog 9 Rv b m.length (dm m)) (hbn:b < n0) (h0:J [] W) :
  CallsIn Fence.wide n prog 213 #[.func (.yield lr) #[] #[],.pointer (some ⟨bx,0,none⟩)] W fun e W'=>(∃v,e=.returned v) ∧
   ((∃xs,xs=List.finRange m.length∧J xs W')∨(∃pre,True∧Jx pre W')):=by
 obtain⟨cx,fx⟩:=aj hbx;have B:Maps.size (dm m)=m.length:=gm m;refine callsIn_of_wp func213 rfl trivial ?_ rfl;simp only[ntmps213,List.size_toArray,List.length_cons,List.length_nil,Nat.reduceAdd,Nat.reduceSub,Array.replicate_succ,Array.replicate_zero,List.push_toArray,List.append_toArray,List.nil_append,List.cons_append];have ah:1≤n:=by omega
 have am:Fence.wide.fn 215:=trivial;have an:Fence.wide.fn 214:=trivial
 gi_wp2_with (first
   | (gi_at_call 215;refine (callsIn_wide.2 (callsIn_wide.1 (Tryz.maps_Keys_215 _ _))).mono ?_;rintro e w' ⟨rfl,rfl⟩)
   | (gi_at_call 214;refine (callsIn_wide.2 (callsIn_wide.1 (Tryz.slices_Sorted_keys_214_215 b m.length (dm m) Rv W hown (by rw[B];unfold maxLen;omega) (by rw[B];omega)))).mono ?_;rintro e w' ⟨v,ss,rfl,Y,s,I,U⟩;obtain⟨sa,af,g,X,rfl,j⟩:=cG s))
 have K:ss.length=m.length:=by rw[Y.length_eq];simp[strKeys,dm]
 rw[jA hm Y]at j;have J2:J [] w':=hJ [] _ _ none (hJ [] _ _ none h0 (World.grownBy_alloc W _ none) (fun r e=>by cases e)) (jp U) (fun r e=>by cases e);have D:w'.heap[bx]? =some (.cells #[.map (some b)] 71):=(U.block bx (by simp;have:=ag hbx;omega)).trans ((Below.heap_alloc _ _ _ (ag hbx)).trans hbx);have A:w'.ownsMap prog 9 Rv b m.length (dm m):=ay hown ((U.block b (by simp;have:=hown.lt;omega)).trans (Below.heap_alloc _ _ _ hown.lt))
 have E:0 < m.length→g≠ob∧g≠fb:=by
  intro h;rw[K]at j;have:=(j h).2.1;simp at this;omega
 clear s I Y;generalize ss.length=L at *;subst K;have Q:=ae (An j E);clear j E B cx fx U;gi_wp2_with fail
 have ap:(m.length:Int)≤1000000:=by omega
 gi_loopw [9] (fun i wr=>∃k:Nat,k≤m.length∧i=.int .i64 (k:Int)∧J ((List.finRange m.length).take k) wr∧wr.heap[bx]? =some (.cells #[.map (some b)] 71)∧(0 < m.length→wr.heap[g]? =some (.cells X 9))∧wr.ownsMap prog 9 Rv b m.length (dm m)) (fun i _=>m.length - (intOf i).toNat)
 case atStart=>exact⟨0,by omega,rfl,by simpa using J2,D,fun h=>(Q.o.1 h).2.2.1,A⟩
 case round=>
  obtain⟨k,hk,rfl,w,y,F,z⟩:=hrel;by_cases a:k < m.length
  ·obtain⟨rfl,ao,Z,ad,q⟩:=Q.o.1 (by omega)
   have c:=F (by omega);obtain⟨tt,u,d⟩:=hif m[k] (List.getElem_mem a)
   have al:wr.cell? ⟨g,k,none⟩=some (.string ⟨m[k].1.toArray⟩):=by
    have T:=q k a;simp only[List.getElem?_map,List.getElem?_eq_getElem a,Option.map_some]at T;simp[World.cell?,c,T]
   have f:ai m[k].1 m=some m[k].2:=kB m hm k a;obtain⟨lv,aq,aa,l⟩:=z.lookup ed underlying71 (kQ wr) (R:=Rv) (zd:=.held .nilIface) (zp:=[]) rfl (dj (hkl m[k] (List.getElem_mem a)))
   have H:lv=.iface tt u:=by
    rw[l7,f]at l;simp only[Rv,Option.some.injEq,Prod.mk.injEq,DataW.held.injEq]at l;rw[l.1,d]
   rw[H]at aa;obtain⟨cx,fx⟩:=aj y;have ab:((List.finRange m.length).take k).length < m.length:=by simp;omega
   obtain⟨fn,tmps,S,ac,hy,hR⟩:=hY _ ⟨k,a⟩ wr w ab;simp only[gV,Fin.getElem_fin,d]at hy;generalize m[k].1=key at *;have G:decide ((k:Int) < (m.length:Int))=true:=by simp;omega
   have C:=ae (An y (An c z));clear f l H d y F c z q Z
   have M:(List.finRange m.length).take (k+1)=(List.finRange m.length).take k ++[⟨k,a⟩]:=by
    rw[List.take_succ_eq_append_getElem (by simpa using a)];simp
   have HT:=ae M;clear M;gi_wp2
   refine hR.mono ?_;rintro e W3 (⟨rfl,hJ3,hk3⟩ | ⟨rfl,hJx3⟩)
   ·have N:=hk3.2.1 bx _ _ _ C.o.1 (by decide) hbo.1 hbo.2
    have O:=hk3.2.1 g _ _ _ C.o.2.1 (by decide) (Q.o.2 (by omega)).1 (Q.o.2 (by omega)).2
    have P:W3.ownsMap prog 9 Rv b m.length (dm m):=by
     obtain⟨es,cl,q1,q2⟩:=C.o.2.2;exact⟨es,cl,(hk3.2.2 b es cl hbn q1).trans q1,q2⟩
    have V:=ae (An (N.trans C.o.1) (An (O.trans C.o.2.1) P));clear N O P;gi_wp2
    go_roundw
    case rel=>exact⟨k+1,by omega,ak (by omega),by rw[HT.o];exact hJ3,V.o.1,fun _=>V.o.2.1,V.o.2.2⟩
    case measure=>simp[intOf];omega
   ·gi_wp2
    refine bodyPost_ret (results_none rfl _ _ _) rfl ?_;exact⟨⟨_,rfl⟩,.inr ⟨_,trivial,hJx3⟩⟩
  ·have G:decide ((k:Int) < (m.length:Int))=false:=by simp;omega
   gi_wp2
   go_end0
   refine⟨⟨_,rfl⟩,.inl ⟨_,rfl, ?_⟩⟩;have T:(List.finRange m.length).take k=List.finRange m.length:=List.take_of_length_le (by simp;omega);rw[T]at w;exact w
end
end Go.Proofs.YtocligpfmfmihaaGreatDoor
