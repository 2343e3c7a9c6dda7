import Derived.Test.YtocligpfmfmihaaGreatDoorLw1
import Derived.Test.YtocligpfmfmihaaGreatDoorLw3
set_option maxHeartbeats 4000000
set_option maxRecDepth 20000
namespace Go.Proofs.YtocligpfmfmihaaGreatDoor
open Go.Proofs.Tryz
section
open Go Go.RowKit Go.Maps
attribute [local go_sem] Oper.semAt_some
theorem PR.tight{w:World}{F:Nat→Prop}{pb:Nat}{nm id ky:Bs}{srcs:List Bs}{so:Value}{st:Ldg}{c:Nat}(h:PR w F pb nm id ky srcs so st c){T:List Bs}(hT:LOk T st):PR w F pb nm id ky srcs so st (aR T):=by
 obtain⟨d,e,o,p,f,⟨b,n,a,g⟩,i,j,k,l,m⟩:=h;exact⟨d,e,o,p,f,⟨b,n,a,g.tight hT⟩,i.tight hT,j,k,l,m⟩
def OpT(W:World)(T:List Bs)(o:OpR):Prop:=o.s ∈ T∧o.now≤9223372036854775807∧∃rs:List Rpl,rs.length=o.rn∧RpI W rs o.rp∧(o.rp=none→o.rn=0∧o.rc=0)∧∀r ∈ rs,r.text ∈ T
theorem uS(W:World)(hN:NG3 W)(hG:GL W)(hSg:jC W)(w:World)(hW:Below W.heap.size W w)(F:Nat→Prop)(hFl:∀k,F k→W.heap.size≤k)(pb:Nat)(nm id ky:Bs)(xs:List Bs)(va:Option Addr)(vc:Nat)(hsrc:SrI W xs va)(hxl:xs.length≤1100000000)(st:Ldg)(T:List Bs)(hT:LOk T st)(hTl:T.length≤700000)(hP:PR w F pb nm id ky xs (.slice va xs.length vc) st (aR T))(h1:nm.length≤2000000)(h2:id.length≤2000000)(h3:ky.length≤2000000)
  (o:OpR) (hk:o.kind≤4) (hs:o.s.length≤2000000) (ht:o.t.length≤2000000) (hnow : -9223372036854775808≤o.now) (hrn:o.rn≤1100000000) (hO:OpT W T o) :
  Calls prog 51 #[.pointer (some ⟨pb,0,none⟩),opV o.kind o.two o.s o.t o.now (.slice o.rp o.rn o.rc) (.slice o.li o.ln o.lc)] w fun e w'=>e=.returned (.bool true)∧∃st',LOk T st'∧PrS w F pb nm id ky xs (.slice va xs.length vc) st' (aR T) w':=by
 obtain⟨a,b,rs,f,hI,d,c⟩:=hO;by_cases j:o.kind=4
 ·rw[j,←f]
  rw[←f]at hrn d;refine (CR W hN hG w hW F hFl pb nm id ky xs va vc hsrc hxl st T hT hTl hP o.two o.s o.t o.now rs o.rp o.rc _ ⟨_,_,_,rfl⟩ hI d hrn c a hnow b).mono ?_;rintro e w' ⟨rfl,m⟩;exact⟨rfl,_,hT.verify c a hnow b xs,m⟩
 ·have l:aR T≤800000000:=by
   have:aR T≤1100*700000:=Nat.mul_le_mul_left 1100 hTl;omega
  refine (CN W hN hG hSg w hW F hFl pb nm id ky xs _ st (aR T) hP h1 h2 h3 o.kind (by omega) o.two o.s o.t o.now _ _ hs ht hnow l ⟨_,_,_,rfl⟩ ⟨_,_,_,rfl⟩ _ rfl).mono ?_;rintro e w' ⟨rfl,i,K,g,hp⟩
  have h:LOk T (if o.kind=1 then (bi st o.s o.now).2 else st):=by
   split
   ·exact hT.learn a o.now
   ·exact hT
  exact⟨rfl,_,h,i,K,g,hp.tight h⟩
theorem p5{w wy w3:World}{F1 F2:Nat→Prop}{pb qb:Nat}{nm id ky nm2 id2 ky2:Bs}{xs xs2:List Bs}{so so2:Value}{st1 st2:Ldg}{c:Nat}(K:Kp (fun _=>False) w wy)(h1:PrS wy F1 pb nm id ky xs so st1 c w3)(h2:PR wy F2 qb nm2 id2 ky2 xs2 so2 st2 c)(hd:∀k,F1 k→w.heap.size≤k∧¬F2 k):
  ∃(a:Nat→Prop),Kp (fun _=>False) w w3∧PR w3 a pb nm id ky xs so st1 c∧PR w3 F2 qb nm2 id2 ky2 xs2 so2 st2 c∧(∀k,a k→w.heap.size≤k∧¬F2 k):=by
 obtain⟨a,b,d,hp⟩:=h1;refine⟨a,K.and b (fun i hi h=>by have:=(hd i h).1;omega),hp,h2.frame b.size (fun k hf=>b.block k (h2.lt k hf) (fun h=>(hd k h).2 hf)) (Nat.le_refl _),fun k e=> ?_⟩;rcases d k e with h | h
 ·exact hd k h
 ·have:=K.size
  exact⟨by omega,fun hf=>by have:=h2.lt k hf;omega⟩
theorem zN(W:World)(hN:NG3 W)(hG:GL W)(hSg:jC W)(w:World)(hW:Below W.heap.size W w)(nm ky:Bs)(h1:nm.length≤1048576)(h3:ky.length≤1048576)(xs:List Bs)(va:Option Addr)(vc:Nat)(hn:va=none→xs.length=0∧vc=0)(hcell:∀ad,va=some ad→∀j u,(xs.map fun s=>Value.string ⟨s.toArray⟩)[j]? =some u→w.cell? (ad.add j)=some u)(hx:xs.length≤1048576)
  (os:List OpR) (sa:Option Addr) (sc:Nat) (hsa:0 < os.length→∃sb B,sa=some ⟨sb,B,none⟩∧∀j o,os[j]? =some o→∀m u,(opC o)[m]? =some u→w.cell? ⟨sb,B+j*7+m,none⟩=some u) (hos:os.length≤131072) (hok:∀o ∈ os,o.s.length≤1048576∧o.t.length≤1048576∧ -9223372036854775808≤o.now∧o.rn≤1048576∧o.ln≤1048576) (upTo:Int) (hup:upTo≤4) (T:List Bs) (hTl:T.length≤700000) (hsrc:SrI W xs va) (hOT:∀o ∈ os,OpT W T o) :
  Calls prog 23 #[.string ⟨nm.toArray⟩,.string ⟨ky.toArray⟩,.slice va xs.length vc,.slice sa os.length sc,.int .i64 upTo] w fun e w'=>e=.returned (.bool true)∧Kp (fun _=>False) w w':=by
 have H:=ae (xG w nm [105,100] ky xs va vc hn hcell (by omega));have ag:(os.length:Int)≤1073741824:=by omega
 have ah:(xs.length:Int)≤1073741824:=by omega
 have S:=ae (An hsa (An hok (An hOT hsrc)));clear hsa hok hn hcell hOT hsrc;go_enter func23,ntmps23;go_wp2_with fail
 refine H.o.mono ?_;rintro e w1 ⟨F1,y,rfl,K1,hP,J⟩;have f:=ae (An K1 (An hP J));clear K1 hP J H;go_wp2_with fail
 rw[Dv];have I:Hid (Calls prog 50 #[.string ⟨nm.toArray⟩,.string ⟨#[111,116,104,101,114]⟩,.string ⟨(ky ++[50]).toArray⟩,.slice none 0 0] w1 fun e w'=>∃(F:Nat→Prop) (y:Nat),e=.returned (.pointer (some ⟨y,0,none⟩))∧Kp (fun _=>False) w1 w'∧PR w' F y nm [111,116,104,101,114] (ky ++[50]) [] (.slice none 0 0) Ldg.zero 0∧(∀k,F k→w1.heap.size≤k)):=xG w1 nm [111,116,104,101,114] (ky ++[50]) [] none 0 (fun _=>⟨rfl,rfl⟩) (fun _ h=>by cases h) (by simp);refine I.o.mono ?_;rintro e w2 ⟨F2,qb,rfl,U,hQ,K⟩;have A:=f.o.2.1.frame U.size (fun k hf=>U.block k (f.o.2.1.lt k hf) (by simp)) (Nat.le_refl _);obtain⟨nb,ac⟩:=A.cell;obtain⟨mb,ab⟩:=hQ.cell;have E:=ae (An (f.o.1.trans U) (An A (An hQ K)));clear U A hQ K I;go_wp2_with fail
 clear ac ab
 go_loopg [13] os.length (fun gg q wx=>∃(i:Nat) (D z:Nat→Prop) (l n:Ldg),gg=os.length - i∧i≤os.length∧q=.int .i64 (i:Int)∧Kp (fun _=>False) w wx∧PR wx D y nm [105,100] ky xs (.slice va xs.length vc) l (aR T)∧PR wx z qb nm [111,116,104,101,114] (ky ++[50]) [] (.slice none 0 0) n (aR T)∧(LOk T l∧LOk T n)∧(∀k,D k→w.heap.size≤k∧¬z k)∧(∀k,z k→w.heap.size≤k))
 case atStart=>
  have al:=f.o.1.size;exact⟨0,F1,F2,_,_,rfl,by omega,rfl,E.o.1,E.o.2.1.frame (Nat.le_refl _) (fun _ _=>rfl) (Nat.zero_le _),E.o.2.2.1.frame (Nat.le_refl _) (fun _ _=>rfl) (Nat.zero_le _),⟨LOk.zero T,LOk.zero T⟩,fun k hk=>⟨f.o.2.2 k hk,fun h=>by have h1:=f.o.2.1.lt k hk;have h2:=E.o.2.2.2 k h;omega⟩,fun k h=>by have h2:=E.o.2.2.2 k h;omega⟩
 case round=>
  obtain⟨i,D,z,l,n,O,af,rfl,v,p1,p2,hL,M,N⟩:=hrel;by_cases aa:i < os.length
  ·have P:(i:Int) < (os.length:Int):=by omega
   obtain⟨o,ho⟩:∃o,os[i]? =some o:=⟨os[i],List.getElem?_eq_getElem aa⟩;obtain⟨sb,B,rfl,b⟩:=S.o.1 (by omega);have c0:=v.cel (b i o ho 0 _ rfl);have V:=v.cel (b i o ho 1 _ rfl);have c2:=v.cel (b i o ho 2 _ rfl);have c3:=v.cel (b i o ho 3 _ rfl);have c4:=v.cel (b i o ho 4 _ rfl);have c5:=v.cel (b i o ho 5 _ rfl);have c6:=v.cel (b i o ho 6 _ rfl);rw[Nat.add_zero]at c0;have r:=S.o.2.1 o (List.mem_of_getElem? ho);have Q:=S.o.2.2.1 o (List.mem_of_getElem? ho);have ai:(o.rn:Int)≤1073741824:=by omega
   have aj:(o.ln:Int)≤1073741824:=by omega
   have a:=ae (An O (An v (An p1 (An p2 (An M (An N (An r (An Q hL))))))));clear O v p1 p2 M N r ho b Q hL;have L:=hW.size;have fr:∀(X:Obj) (G:Nat→Prop) (y:Nat) (nm id ky:Bs) (xs:List Bs) (B:Value) (st:Ldg) (c c':Nat),PR wr G y nm id ky xs B st c→c≤c'→PR (wr.alloc X) G y nm id ky xs B st c':=fun X G y nm id ky xs B st c c' h hc=>h.frame (by simp) (fun k hf=>Below.heap_alloc _ _ _ (h.lt k hf)) hc
   have g:=ae fr;clear fr;by_cases hk:upTo < o.kind
   ·go_wp2
    go_roundg (os.length - (i+1))
    all_goals first
     | (rw[a.o.1];omega)
     |exact⟨i+1,D,z,l,n,rfl,by omega,ak (by omega),a.o.2.1.alloc _,g.o _ _ _ _ _ _ _ _ _ _ _ a.o.2.2.1 (Nat.le_refl _),g.o _ _ _ _ _ _ _ _ _ _ _ a.o.2.2.2.1 (Nat.le_refl _),a.o.2.2.2.2.2.2.2.2,a.o.2.2.2.2.1,a.o.2.2.2.2.2.1⟩
   ·have r:=a.o.2.2.2.2.2.2.1
    cases htw:o.two with
    |false=>
     rw[htw]at V;go_wp2_with fail
     have d:=uS W hN hG hSg _ (am hW (a.o.2.1.alloc (.cells #[.int .i64 o.kind,.bool false,.string ⟨o.s.toArray⟩,.string ⟨o.t.toArray⟩,.int .i64 o.now,.slice o.rp o.rn o.rc,.slice o.li o.ln o.lc] 93))) D (fun k h=>Nat.le_trans L (a.o.2.2.2.2.1 k h).1) y nm [105,100] ky xs va vc S.o.2.2.2 (by omega) l T a.o.2.2.2.2.2.2.2.2.1 hTl (g.o _ _ _ _ _ _ _ _ _ _ _ a.o.2.2.1 (Nat.le_refl _)) (by omega) (by simp) (by omega) o (by omega) (by omega) (by omega) r.2.2.1 (by omega) a.o.2.2.2.2.2.2.2.1;rw[htw]at d;refine d.mono ?_;clear d;rintro e w3 ⟨rfl,C,p,R⟩;have HI:=ae (An p (p5 (a.o.2.1.alloc _) R (g.o _ _ _ _ _ _ _ _ _ _ _ a.o.2.2.2.1 (Nat.le_refl _)) a.o.2.2.2.2.1));clear R p htw c0 V c2 c3 c4 c5 c6;go_wp2;go_roundg (os.length - (i+1))
     all_goals first
      | (rw[a.o.1];omega)
      | (obtain⟨a0,Y,a1,a2,a3,a4⟩:=HI.o
         exact⟨i+1,Y,z,C,n,rfl,by omega,ak (by omega),a1,a2,a3,⟨a0,a.o.2.2.2.2.2.2.2.2.2⟩,a4,a.o.2.2.2.2.2.1⟩)
    |true=>
     rw[htw]at V;go_wp2_with fail
     have d:=uS W hN hG hSg _ (am hW (a.o.2.1.alloc (.cells #[.int .i64 o.kind,.bool true,.string ⟨o.s.toArray⟩,.string ⟨o.t.toArray⟩,.int .i64 o.now,.slice o.rp o.rn o.rc,.slice o.li o.ln o.lc] 93))) z (fun k h=>Nat.le_trans L (a.o.2.2.2.2.2.1 k h)) qb nm [111,116,104,101,114] (ky ++[50]) [] none 0 (fun j x h=>by cases h) (by simp) n T a.o.2.2.2.2.2.2.2.2.2 hTl (g.o _ _ _ _ _ _ _ _ _ _ _ a.o.2.2.2.1 (Nat.le_refl _)) (by omega) (by simp) (by rw[List.length_append,List.length_singleton];omega) o (by omega) (by omega) (by omega) r.2.2.1 (by omega) a.o.2.2.2.2.2.2.2.1;rw[htw]at d;refine d.mono ?_;clear d;rintro e w3 ⟨rfl,C,p,R⟩;have HI:=ae (An p (p5 (a.o.2.1.alloc _) R (g.o _ _ _ _ _ _ _ _ _ _ _ a.o.2.2.1 (Nat.le_refl _)) (fun k h=>⟨a.o.2.2.2.2.2.1 k h,fun h'=>(a.o.2.2.2.2.1 k h').2 h⟩)));clear R p htw c0 V c2 c3 c4 c5 c6;go_wp2;go_roundg (os.length - (i+1))
     all_goals first
      | (rw[a.o.1];omega)
      | (obtain⟨a0,Z,a1,a2,a3,a4⟩:=HI.o
         exact⟨i+1,D,Z,l,C,rfl,by omega,ak (by omega),a1,a3,a2,⟨a.o.2.2.2.2.2.2.2.2.1,a0⟩,fun k h=>⟨(a.o.2.2.2.2.1 k h).1,fun h'=>(a4 k h').2 h⟩,fun k h=>(a4 k h).1⟩)
  ·have P:¬(i:Int) < (os.length:Int):=by omega
   go_wp2;go_ret;exact⟨rfl,v⟩
theorem vR(W:World)(hN:NG3 W)(hG:GL W)(hSg:jC W)(w:World)(hW:Below W.heap.size W w)(nm ky:Bs)(h1:nm.length≤1048576)(h3:ky.length≤1048576)(xs:List Bs)(va:Option Addr)(vc:Nat)(hn:va=none→xs.length=0∧vc=0)(hcell:∀ad,va=some ad→∀j u,(xs.map fun s=>Value.string ⟨s.toArray⟩)[j]? =some u→w.cell? (ad.add j)=some u)(hx:xs.length≤1048576)
  (os:List OpR) (sa:Option Addr) (sc:Nat) (hsa:0 < os.length→∃sb so,sa=some ⟨sb,so,none⟩∧∀j o,os[j]? =some o→∀m u,(opC o)[m]? =some u→w.cell? ⟨sb,so+j*7+m,none⟩=some u) (hos:os.length≤131072) (hok:∀o ∈ os,o.s.length≤1048576∧o.t.length≤1048576∧ -9223372036854775808≤o.now∧o.rn≤1048576∧o.ln≤1048576) (T:List Bs) (hTl:T.length≤700000) (hsrc:SrI W xs va) (hOT:∀o ∈ os,OpT W T o) :
  Calls prog 8 #[.string ⟨nm.toArray⟩,.string ⟨ky.toArray⟩,.slice va xs.length vc,.slice sa os.length sc] w fun e w'=>e=.returned (.bool true)∧Kp (fun _=>False) w w':=by
 have c:=ae (zN W hN hG hSg w hW nm ky h1 h3 xs va vc hn hcell hx os sa sc hsa hos hok 4 (Int.le_refl _) T hTl hsrc hOT);clear hn hcell hsa hok hsrc hOT;go_enter func8,ntmps8;go_wp2_with fail
 refine c.o.mono ?_;rintro e w1 ⟨rfl,a⟩;have b:=ae a;clear a;go_wp2;go_ret;exact⟨rfl,b.o⟩
end
section
open Go Go.RowKit Go.ChangeShapes Go.WideShapes
theorem AA{α:Type}{l:List α}(h:l.length=4):∃a b c d,l=[a,b,c,d]:=by
 match l,h with
 | [a,b,c,d],_=>exact⟨a,b,c,d,rfl⟩
theorem pO{H:Type}:∀ {l:List (DataW H)},(∀d ∈ l,5≤Rows.uptoBulk d)→5*l.length≤Rows.uptoBulkAll l
 | [],_=>by simp
 |d :: r,h=>by
  have:=h d (by simp);have:=pO (l:=r) (fun e he=>h e (by simp[he]));simp only[Rows.uptoBulkAll,List.length_cons];omega
theorem mQ{H:Type}{α:Type}(f:α→Nat):∀(l:List (DataW H)) (ps:List α),l.length=ps.length→(∀(j:Nat) (d:DataW H) (p:α),l[j]? =some d→ps[j]? =some p→f p≤Rows.uptoBulk d)→(ps.map f).sum≤Rows.uptoBulkAll l
 | [],[],_,_=>by simp
 | [],_ :: _,h,_=>by cases h
 |_ :: _,[],h,_=>by cases h
 |d :: r,p :: ps,h,hf=>by
  have a:=hf 0 d p rfl rfl;have b:=mQ f r ps (by simpa using h) (fun j d p a b=>hf (j+1) d p a b);simp only[Rows.uptoBulkAll,List.map_cons,List.sum_cons];omega
theorem um{α:Type}(O:Nat→Option α)(len:Nat)(hO:∀i,i < len→∃o,O i=some o):∃os:List α,os.length=len∧∀j o,os[j]? =some o→O j=some o:=by
 have:∀k,k≤len→∃os:List α,os.length=k∧∀j o,os[j]? =some o→O j=some o:=by
  intro k
  induction k with
  |zero=>exact fun _=>⟨[],rfl,fun j o h=>by cases h⟩
  |succ k ih=>
   intro e;obtain⟨os,b,c⟩:=ih (by omega);obtain⟨o,d⟩:=hO k (by omega);refine⟨os ++[o],by simp[b],fun j o' hj=> ?_⟩;by_cases a:j < os.length
   ·exact c j o' (by rwa[List.getElem?_append_left a]at hj)
   ·rw[List.getElem?_append_right (by omega)]at hj
    have:j - os.length=0:=by
     rcases Nat.eq_zero_or_pos (j - os.length) with h | h
     ·exact h
     ·rw[List.getElem?_eq_none (by simp;omega)]at hj
      cases hj
    rw[this]at hj;obtain rfl:o=o':=by simpa using hj
    rw[show j=k by omega];exact d
 exact this len (Nat.le_refl _)
section
variable{H:Type}{enc:TypeId×Value→H}{W:World}{fuel:Nat}{cs:List Value}{x:DataW H×List MemPlace}
theorem vu(h:DataW.trod enc prog W 0 (fun _=>true) true fuel 160 cs=some x):∃r:Rpl,cs=rpC r∧5≤Rows.uptoBulk x.1:=by
 obtain⟨xs,n,_,rfl,o,j,k⟩:=DataW.trod_struct underlying160 h;have l:cs.length=4:=o.trans (by kernel_rfl);clear h o;obtain⟨p,s,t,u,rfl⟩:=AA j;obtain⟨e,f,g,i,rfl⟩:=AA l;have E:prog.cellsOf 4=1:=by kernel_rfl
 have m:prog.cellsOf 9=1:=by kernel_rfl
 have v:DataW.trod enc prog W 0 (fun _=>true) true n 9 [e]=some p:=by
  have q:DataW.trod enc prog W 0 (fun _=>true) true n 9 (([e,f,g,i].drop 0).take (prog.cellsOf 9))=some p:=k 0 _ rfl;rw[m]at q;exact q
 have w:DataW.trod enc prog W 0 (fun _=>true) true n 9 [f]=some s:=by
  have q:DataW.trod enc prog W 0 (fun _=>true) true n 9 (([e,f,g,i].drop 1).take (prog.cellsOf 9))=some s:=k 1 _ rfl;rw[m]at q;exact q
 have y:DataW.trod enc prog W 0 (fun _=>true) true n 9 [g]=some t:=by
  have q:DataW.trod enc prog W 0 (fun _=>true) true n 9 (([e,f,g,i].drop 2).take (prog.cellsOf 9))=some t:=k 2 _ rfl;rw[m]at q;exact q
 have z:DataW.trod enc prog W 0 (fun _=>true) true n 4 [i]=some u:=by
  have q:DataW.trod enc prog W 0 (fun _=>true) true n 4 (([e,f,g,i].drop 3).take (prog.cellsOf 4))=some u:=k 3 _ rfl;rw[E]at q;exact q
 obtain⟨a,A,rfl,_⟩:=DataW.trod_string underlying9 v;obtain⟨b,B,rfl,_⟩:=DataW.trod_string underlying9 w;obtain⟨c,C,rfl,_⟩:=DataW.trod_string underlying9 y;obtain⟨d,D,rfl⟩:=DataW.trod_bool underlying4 z;obtain rfl:=List.singleton_inj.1 A;obtain rfl:=List.singleton_inj.1 B;obtain rfl:=List.singleton_inj.1 C;obtain rfl:=List.singleton_inj.1 D;refine⟨⟨a.data.toList,b.data.toList,c.data.toList,d⟩,rfl, ?_⟩;simp only[List.map_cons,List.map_nil,Rows.uptoBulk,Rows.uptoBulkAll];omega
theorem rJ(h:DataW.trod enc prog W 0 (fun _=>true) true fuel 91 cs=some x):
  ∃(rs:List Rpl) (ra:Option Addr) (rc:Nat),cs=[.slice ra rs.length rc]∧(ra=none→rs.length=0∧rc=0)∧RpI W rs ra∧5*rs.length+1≤Rows.uptoBulk x.1:=by
 rcases Deep.open_slice underlying91 h with⟨rfl,rfl⟩ | ⟨a,len,B,m,n,D,K,rfl,_,L,_,f,rfl,z⟩
 ·exact⟨[],none,0,rfl,fun _=>⟨rfl,rfl⟩,fun j r h=>(by cases h),by simp[Rows.uptoBulk]⟩
 have J:prog.cellsOf 160=4:=by kernel_rfl
 rw[if_pos rfl]at f;subst f;rw[J]at z
 obtain⟨O,t⟩:=Deep.choose_lt (α:=Option Rpl) (n:=len) (p:=fun i o=>∃k,o=some k∧W.cells? 0 (a.add (i*4)) 4=some (rpC k)∧5≤Rows.uptoBulk (D i)) (fun i e=>by
   obtain⟨C,G,H⟩:=z i (by omega);obtain⟨o,rfl,I⟩:=vu H;exact⟨some o,o,rfl,G,I⟩)
 obtain⟨os,rfl,v⟩:=um O len (fun i e=>by obtain⟨o,h,_⟩:=t i e;exact⟨o,h⟩);refine⟨os,some a,m,rfl,fun h=>(by cases h), ?_, ?_⟩
 ·have b:∀j o,os[j]? =some o→∀m u,(rpC o)[m]? =some u→W.cell? (a.add (j*4+m))=some u:=by
   intro j o c m u g;obtain⟨k,E,F,_⟩:=t j (List.getElem?_eq_some_iff.1 c).1;obtain rfl:k=o:=Option.some.inj (E.symm.trans (v j o c));have f:m < 4:=(List.getElem?_eq_some_iff.1 g).1;have:=(World.cells?_some F).2.2 m f;rw[Deep.add_add,g]at this;exact this
  intro j r c;obtain⟨A,q,s⟩:=a;have y:0 < os.length:=by have:=(List.getElem?_eq_some_iff.1 c).1;omega
  have w:s=none:=kW (b 0 os[0] (List.getElem?_eq_getElem y) 0 _ rfl);subst w;refine⟨A,q,rfl,fun m u g=> ?_⟩;have:=b j r c m u g;unfold Addr.add at this;split at this
  ·rename_i y
   rwa[show q+j*4+m=q by omega]
  ·rwa[Nat.add_assoc]
 ·have:=pO (l:=(List.range os.length).map D) (fun d hd=>by
    obtain⟨i,e,rfl⟩:=List.mem_map.1 hd;obtain⟨o,_,_,h⟩:=t i (by simpa using e);exact h)
  simp only[Rows.uptoBulk];simp at this;omega
theorem zF(h:DataW.trod enc prog W 0 (fun _=>true) true fuel 93 cs=some x):∃p:OpR×List Rpl,cs=opC p.1∧(p.2.length=p.1.rn∧(p.1.rp=none→p.1.rn=0∧p.1.rc=0)∧RpI W p.2 p.1.rp)∧p.1.s.length+p.1.t.length+5*p.1.rn+p.1.ln+8≤Rows.uptoBulk x.1∧ -9223372036854775808≤p.1.now∧p.1.now≤9223372036854775807:=by
 obtain⟨xs,n,_,rfl,u,l,j⟩:=DataW.trod_struct underlying93 h;have m:cs.length=7:=u.trans (by kernel_rfl);clear h u;obtain⟨w,y,z,A,B,C,D,rfl⟩:=AB l;obtain⟨a,c,d,e,f,g,i,rfl⟩:=AB m;have T:prog.cellsOf 3=1:=by kernel_rfl
 have U:prog.cellsOf 4=1:=by kernel_rfl
 have v:prog.cellsOf 9=1:=by kernel_rfl
 have V:prog.cellsOf 2=1:=by kernel_rfl
 have X:prog.cellsOf 91=1:=by kernel_rfl
 have o:prog.cellsOf 36=1:=by kernel_rfl
 have F:DataW.trod enc prog W 0 (fun _=>true) true n 3 [a]=some w:=by
  have q:DataW.trod enc prog W 0 (fun _=>true) true n 3 (([a,c,d,e,f,g,i].drop 0).take (prog.cellsOf 3))=some w:=j 0 _ rfl;rw[T]at q;exact q
 have G:DataW.trod enc prog W 0 (fun _=>true) true n 4 [c]=some y:=by
  have q:DataW.trod enc prog W 0 (fun _=>true) true n 4 (([a,c,d,e,f,g,i].drop 1).take (prog.cellsOf 4))=some y:=j 1 _ rfl;rw[U]at q;exact q
 have H:DataW.trod enc prog W 0 (fun _=>true) true n 9 [d]=some z:=by
  have q:DataW.trod enc prog W 0 (fun _=>true) true n 9 (([a,c,d,e,f,g,i].drop 2).take (prog.cellsOf 9))=some z:=j 2 _ rfl;rw[v]at q;exact q
 have I:DataW.trod enc prog W 0 (fun _=>true) true n 9 [e]=some A:=by
  have q:DataW.trod enc prog W 0 (fun _=>true) true n 9 (([a,c,d,e,f,g,i].drop 3).take (prog.cellsOf 9))=some A:=j 3 _ rfl;rw[v]at q;exact q
 have J:DataW.trod enc prog W 0 (fun _=>true) true n 2 [f]=some B:=by
  have q:DataW.trod enc prog W 0 (fun _=>true) true n 2 (([a,c,d,e,f,g,i].drop 4).take (prog.cellsOf 2))=some B:=j 4 _ rfl;rw[V]at q;exact q
 have K:DataW.trod enc prog W 0 (fun _=>true) true n 91 [g]=some C:=by
  have q:DataW.trod enc prog W 0 (fun _=>true) true n 91 (([a,c,d,e,f,g,i].drop 5).take (prog.cellsOf 91))=some C:=j 5 _ rfl;rw[X]at q;exact q
 have L:DataW.trod enc prog W 0 (fun _=>true) true n 36 [i]=some D:=by
  have q:DataW.trod enc prog W 0 (fun _=>true) true n 36 (([a,c,d,e,f,g,i].drop 6).take (prog.cellsOf 36))=some D:=j 6 _ rfl;rw[o]at q;exact q
 obtain⟨k,M,rfl,_⟩:=DataW.trod_int underlying3 F;obtain⟨b,N,rfl⟩:=DataW.trod_bool underlying4 G;obtain⟨s,O,rfl,_⟩:=DataW.trod_string underlying9 H;obtain⟨t,P,rfl,_⟩:=DataW.trod_string underlying9 I;obtain⟨r,Q,rfl,w4⟩:=DataW.trod_int underlying2 J;obtain⟨rs,a5,o,R,n5,i5,b5⟩:=rJ K;obtain⟨E,Z,Y,S,b6⟩:=zE underlying36 L;obtain rfl:=List.singleton_inj.1 M;obtain rfl:=List.singleton_inj.1 N;obtain rfl:=List.singleton_inj.1 O;obtain rfl:=List.singleton_inj.1 P;obtain rfl:=List.singleton_inj.1 Q;obtain rfl:=List.singleton_inj.1 R;obtain rfl:=List.singleton_inj.1 S;refine⟨(⟨k,b,s.data.toList,t.data.toList,r,a5,rs.length,o,E,Z,Y⟩,rs),rfl,⟨rfl,n5,i5⟩, ?_, ?_⟩
 ·simp only[List.map_cons,List.map_nil,Rows.uptoBulk,Rows.uptoBulkAll]
  omega
 ·simp[Lit.wf,IntKind.min,IntKind.max,IntKind.signed,IntKind.bits]at w4
  show -9223372036854775808≤r∧r≤9223372036854775807
  omega
theorem rK(h:DataW.trod enc prog W 0 (fun _=>true) true fuel 37 cs=some x):
  ∃(os:List OpR) (sa:Option Addr) (sc:Nat) (T:List Bs),cs=[.slice sa os.length sc] ∧
   (0 < os.length→∃sb so,sa=some ⟨sb,so,none⟩∧∀j o,os[j]? =some o→∀m u,(opC o)[m]? =some u→W.cell? ⟨sb,so+j*7+m,none⟩=some u) ∧
   8*os.length≤Rows.uptoBulk x.1∧(∀o ∈ os,o.s.length≤Rows.uptoBulk x.1∧o.t.length≤Rows.uptoBulk x.1∧ -9223372036854775808≤o.now∧o.rn≤Rows.uptoBulk x.1∧o.ln≤Rows.uptoBulk x.1)∧5*T.length≤Rows.uptoBulk x.1∧∀o ∈ os,OpT W T o:=by
 rcases Deep.open_slice underlying37 h with⟨rfl,rfl⟩ | ⟨a,len,K,m,n,D,S,rfl,_,U,_,w,rfl,I⟩
 ·exact⟨[],none,0,[],rfl,fun h=>(by cases h),by simp,fun o ho=>(by cases ho),by simp,fun o ho=>(by cases ho)⟩
 have Q:prog.cellsOf 93=7:=by kernel_rfl
 rw[if_pos rfl]at w;subst w;rw[Q]at I
 obtain⟨O,H⟩:=Deep.choose_lt (α:=Option (OpR×List Rpl)) (n:=len) (p:=fun i o=>∃p,o=some p∧W.cells? 0 (a.add (i*7)) 7=some (opC p.1)∧(p.2.length=p.1.rn∧(p.1.rp=none→p.1.rn=0∧p.1.rc=0)∧RpI W p.2 p.1.rp)∧p.1.s.length+p.1.t.length+5*p.1.rn+p.1.ln+8≤Rows.uptoBulk (D i)∧ -9223372036854775808≤p.1.now∧p.1.now≤9223372036854775807) (fun i v=>by
   obtain⟨L,e,q⟩:=I i (by omega);obtain⟨o,rfl,F,P⟩:=zF q;exact⟨some o,o,rfl,e,F,P⟩)
 obtain⟨ps,rfl,C⟩:=um O len (fun i v=>by obtain⟨o,h,_⟩:=H i v;exact⟨o,h⟩)
 have f:∀j p,ps[j]? =some p→W.cells? 0 (a.add (j*7)) 7=some (opC p.1)∧(p.2.length=p.1.rn∧(p.1.rp=none→p.1.rn=0∧p.1.rc=0)∧RpI W p.2 p.1.rp)∧p.1.s.length+p.1.t.length+5*p.1.rn+p.1.ln+8≤Rows.uptoBulk (D j)∧ -9223372036854775808≤p.1.now∧p.1.now≤9223372036854775807:=by
  intro j p b;obtain⟨R,M,N⟩:=H j (List.getElem?_eq_some_iff.1 b).1;obtain rfl:R=p:=Option.some.inj (M.symm.trans (C j p b));exact N
 have G:((List.range ps.length).map D).length=ps.length:=by simp
 have g:∀j d,((List.range ps.length).map D)[j]? =some d→d=D j:=by
  intro j d b;rw[List.getElem?_map,Option.map_eq_some_iff]at b;obtain⟨i,v,rfl⟩:=b;obtain⟨k,rfl⟩:=List.getElem?_eq_some_iff.1 v;simp
 have B:(ps.map (·.1)).length=ps.length:=by simp
 refine⟨ps.map (·.1),some a,m,ps.flatMap (fun p=>p.1.s :: p.2.map (·.text)),by rw[B],fun h0=> ?_, ?_,fun o ho=> ?_, ?_,fun o ho=> ?_⟩
 ·rw[B]at h0
  have c:∀j o,(ps.map (·.1))[j]? =some o→∀m u,(opC o)[m]? =some u→W.cell? (a.add (j*7+m))=some u:=by
   intro j o b m u y;rw[List.getElem?_map,Option.map_eq_some_iff]at b;obtain⟨p,b,rfl⟩:=b;have w:m < 7:=(List.getElem?_eq_some_iff.1 y).1;have:=(World.cells?_some (f j p b).1).2.2 m w;rw[Deep.add_add,y]at this;exact this
  obtain⟨J,z,A⟩:=a;have E:A=none:=kW (c 0 (ps[0]).1 (by rw[List.getElem?_map,List.getElem?_eq_getElem h0];rfl) 0 _ rfl);subst E;refine⟨J,z,rfl,fun j o b m u y=> ?_⟩;have:=c j o b m u y;unfold Addr.add at this;split at this
  ·rename_i h0
   rwa[show z+j*7+m=z by omega]
  ·rwa[Nat.add_assoc]
 ·have:=mQ (fun _:OpR×List Rpl=>8) ((List.range ps.length).map D) ps G (fun j d p b hp=>by
    rw[g j d b];have:=(f j p hp).2.2.1;omega)
  rw[List.map_const',List.sum_replicate_nat]at this;simp only[Rows.uptoBulk];rw[B];omega
 ·obtain⟨p,hp,rfl⟩:=List.mem_map.1 ho
  obtain⟨j,b⟩:=List.getElem?_of_mem hp;have k:=(List.getElem?_eq_some_iff.1 b).1;have e:=f j p b;have:=qL (d:=D j) (l:=(List.range ps.length).map D) (List.mem_map.2 ⟨j,by simpa using k,rfl⟩);simp only[Rows.uptoBulk];omega
 ·have e:=mQ (fun p:OpR×List Rpl=>5*(p.1.s :: p.2.map (·.text)).length) ((List.range ps.length).map D) ps G (fun j d p b hp=>by
    rw[g j d b];have q:=(f j p hp).2.1.1;have F:=(f j p hp).2.2.1;simp only[List.length_cons,List.length_map];omega)
  have q:∀l:List (OpR×List Rpl),5*(l.flatMap (fun p=>p.1.s :: p.2.map (·.text))).length=(l.map (fun p:OpR×List Rpl=>5*(p.1.s :: p.2.map (·.text)).length)).sum:=by
   intro l
   induction l with
   |nil=>rfl
   |cons p l ih=>
    rw[List.flatMap_cons,List.length_append,List.map_cons,List.sum_cons,←ih];omega
  rw[q];simp only[Rows.uptoBulk];omega
 ·obtain⟨p,hp,rfl⟩:=List.mem_map.1 ho
  obtain⟨j,b⟩:=List.getElem?_of_mem hp;have e:=f j p b;refine⟨List.mem_flatMap.2 ⟨p,hp,List.mem_cons_self ..⟩,e.2.2.2.2,p.2,e.2.1.1,e.2.1.2.2,e.2.1.2.1,fun r hr=>List.mem_flatMap.2 ⟨p,hp,List.mem_cons_of_mem _ (List.mem_map.2 ⟨r,hr,rfl⟩)⟩⟩
theorem DK{xs:List Bs}{va:Option Addr}(h:∀ad,va=some ad→∀j u,(xs.map fun s=>Value.string ⟨s.toArray⟩)[j]? =some u→W.cell? (ad.add j)=some u)(hn:va=none→xs.length=0):SrI W xs va:=by
 intro j x f;have l:(xs.map fun s=>Value.string ⟨s.toArray⟩)[j]? =some (.string ⟨x.toArray⟩):=by rw[List.getElem?_map,f];rfl
 cases va with
 |none=>
  have:=hn rfl;rw[List.length_eq_zero_iff]at this;subst this;cases f
 |some ad=>
  have k:=h ad rfl j _ l;obtain⟨c,d,b⟩:=ad;have i:=h ⟨c,d,b⟩ rfl 0;obtain⟨x0,hx0⟩:∃x0,xs[0]? =some x0:=⟨xs[0]'(by have:=(List.getElem?_eq_some_iff.1 f).1;omega),List.getElem?_eq_getElem _⟩;have g:=i (.string ⟨x0.toArray⟩) (by rw[List.getElem?_map,hx0];rfl);have e:b=none:=kW (a:=⟨c,d,b⟩) (by unfold Addr.add at g;simpa using g);subst e;refine⟨c,d,rfl, ?_⟩;rwa[Addr.add_lit]at k
end
end
end Go.Proofs.YtocligpfmfmihaaGreatDoor
